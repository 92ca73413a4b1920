import PyProof.Rows.All
import Wide.All
import OpenK.AllK
import Wide.FinOn
import Lean
import PyProof.EqAt
import PyProof.EqKinds
import PyProof.TupleCall
import KE.KTryMore
import PyProof.StationsW
import PyProof.ExcBaseAll.ValueError
import PyProof.ExcClass2
import PyProof.RulesAs
import PyProof.NsDelKeeps
import KE.KIntText
import PyProof.StrWalks
import PyProof.StrBlockH
import PyProof.Rows.StrNews
import PyProof.Rows.StrJoin2
import PyProof.ConsumeWalk
import PyProof.FString
import PyProof.NeData
import KE.IntTextLaws
import PyProof.ExcInit
import PyProof.InstStoreFacts
import OpenK.KMake
import OpenK.KCls
import PyProof.ExcArgs
import PyProof.Rows.Catch
import KE.KDictList
import KE.KDictSum
import KE.KUnpack
import PyProof.MeetsSeq
import PyProof.Rows.StrInSeq3
import PyProof.EnumMake
import PyProof.EnumStmt
import PyProof.EnumFor
import PyProof.LayNew
import PyProof.Rows.EnumRows
import PyProof.ZipIter
import KE.KTurns
import PyProof.Rows.FactsT2
import KE.KTurnsDict
import KE.KPairComp
import PyProof.StrLawsChain
import PyProof.StrLawsFirst
import KE.IntTextText
import PyProof.Rows.CatFin
import PyProof.Rows.StrClose5
import PyProof.Rows.StrFirst2
import PyProof.Ascii
import PyProof.SumAny
import PyProof.WalksS
import PyProof.ConsumeS
import PyProof.WalkInts
import KE.KEqDict
import KE.KIsAll
import PySem.Challenge.RW_castoff_k78_towers_refused
set_option linter.all false
set_option Elab.async false
set_option maxRecDepth 100000
set_option maxHeartbeats 4000000
open PySem PySem.Spec PyProof.Rows
namespace L2
noncomputable abbrev Key:=Sum Int Str
noncomputable def keyIs:Key→Value→Bool
 | .inl k,v=>Value.isInt k v
 | .inr x,v=>Value.isStrOf x v
noncomputable def keyH(w:World):Key→Int
 | .inl k=>hashInt k
 | .inr x=>hashStr w x
theorem keyIs_shape:∀{k:Key} {v:Value},keyIs k v=true→(∃i t,k=Sum.inl i∧v=Value.int i t)∨(∃x t,k=Sum.inr x∧v=Value.str x t)
 | .inl i,v,h=>by
  obtain ⟨t,e⟩:=Value.isInt_shape (k:=i) (v:=v) h
  exact .inl ⟨i,t,rfl,e⟩
 | .inr x,v,h=>by
  obtain ⟨t,e⟩:=Value.isStrOf_shape (x:=x) (v:=v) h
  exact .inr ⟨x,t,rfl,e⟩
theorem keyIs_int(i:Int)(t:Tok):keyIs (.inl i) (.int i t)=true:=by simp [keyIs,Value.isInt]
theorem keyIs_str(x:Str)(t:Tok):keyIs (.inr x) (.str x t)=true:=by simp [keyIs,Value.isStrOf]
theorem key_ll(a b:Int):decide ((Sum.inl a:Key)=Sum.inl b)=(a==b):=by
 by_cases e:a=b
 · subst e;simp
 · have h:¬(Sum.inl a:Key)=Sum.inl b:=fun q=>e (Sum.inl.inj q)
   rw [decide_eq_false h]
   exact (beq_eq_false_iff_ne.mpr e).symm
theorem key_rr(a b:Str):decide ((Sum.inr a:Key)=Sum.inr b)=decide (a=b):=by
 by_cases e:a=b
 · subst e;simp
 · have h:¬(Sum.inr a:Key)=Sum.inr b:=fun q=>e (Sum.inr.inj q)
   rw [decide_eq_false h,decide_eq_false e]
theorem key_lr(a:Int)(b:Str):decide ((Sum.inl a:Key)=Sum.inr b)=false:=decide_eq_false (fun q=>nomatch q)
theorem key_rl(a:Str)(b:Int):decide ((Sum.inr a:Key)=Sum.inl b)=false:=decide_eq_false (fun q=>nomatch q)
noncomputable def mixKind(prog:Program)(w:World):PySem.KeyKind prog w Key where
 is:=keyIs
 hash:=keyH w
 inj:=fun v a b ha hb=>by
  rcases keyIs_shape ha with ⟨i,t,rfl,rfl⟩ | ⟨x,t,rfl,rfl⟩
  · rcases keyIs_shape hb with ⟨j,u,rfl,e⟩ | ⟨y,u,rfl,e⟩
    · injection e with e1 _;rw [e1]
    · exact nomatch e
  · rcases keyIs_shape hb with ⟨j,u,rfl,e⟩ | ⟨y,u,rfl,e⟩
    · exact nomatch e
    · injection e with e1 _;rw [e1]
 byValue:=fun k v h=>by
   rcases keyIs_shape h with ⟨i,t,rfl,rfl⟩ | ⟨x,t,rfl,rfl⟩ <;> rfl
 pyHash:=fun hv h=>by
  rcases keyIs_shape hv with ⟨i,t,rfl,rfl⟩ | ⟨x,t,rfl,rfl⟩
  · exact wpAny_pyHash_int h
  · exact wpAny_pyHash_str h
 eqBool:=fun hu hv h=>by
  rcases keyIs_shape hu with ⟨i,t,rfl,rfl⟩ | ⟨x,t,rfl,rfl⟩
  · rcases keyIs_shape hv with ⟨j,u,rfl,rfl⟩ | ⟨y,u,rfl,rfl⟩
    · rw [key_ll]at h;exact wpAny_eqBool_int h
    · rw [key_lr]at h;exact SeqAt.EqAt.int_str i t y u _ _ _ _ h
  · rcases keyIs_shape hv with ⟨j,u,rfl,rfl⟩ | ⟨y,u,rfl,rfl⟩
    · rw [key_rl]at h;exact SeqAt.EqAt.str_int x t j u _ _ _ _ h
    · rw [key_rr]at h;exact wpAny_eqBool_str h
 «strs»:=fun k x t v h=>by
  rcases keyIs_shape h with ⟨i,u,rfl,e⟩ | ⟨y,u,rfl,e⟩
  · exact nomatch e
  · injection e with e1 _
    subst e1
    cases v <;> rfl
theorem mixKind_int(prog:Program)(w:World)(i:Int)(t:Tok):(mixKind prog w).is (.inl i) (.int i t)=true:=keyIs_int i t
theorem mixKind_str(prog:Program)(w:World)(x:Str)(t:Tok):(mixKind prog w).is (.inr x) (.str x t)=true:=keyIs_str x t
end L2
namespace L2
inductive V where
 | non | bl (b:Bool) | int (i:Int) | str (x:Str) | byt (b:Array UInt8) | flt (b:UInt64) | ref (a:Addr) | ty (n:String)
 deriving DecidableEq
noncomputable def RelV:V→Value→Prop
 | .non,u=>u=Value.none
 | .bl b,u=>u=Value.bool b
 | .int i,u=>∃t,u=Value.int i t
 | .str x,u=>∃t,u=Value.str x t
 | .byt b,u=>∃t,u=Value.bytes b t
 | .flt b,u=>∃t,u=Value.float b t
 | .ref a,u=>u=Value.ref a
 | .ty n,u=>u=Value.type n
noncomputable abbrev Vals:List V→List Value→Prop:=Paired RelV
theorem Vals.length{xs:List V}{us:List Value}(r:Vals xs us):xs.length=us.length:=Paired.length r
theorem Vals.get:∀{xs:List V} {us:List Value} {i:Nat} {x:V},Vals xs us→xs[i]?=some x→∃u,us[i]?=some u∧RelV x u
 | _,_,_,_,.nil,e=>by simp at e
 | _,_,0,_,.cons r _,e=>by simp at e;subst e;exact ⟨_,rfl,r⟩
 | _,_,i+1,x,.cons _ t,e=>by
  obtain ⟨u,h1,h2⟩:=Vals.get (i:=i) (x:=x) t (by simpa using e)
  exact ⟨u,by simpa using h1,h2⟩
theorem Vals.set{x:V}{u:Value}(r:RelV x u):∀{xs:List V} {us:List Value} (i:Nat),Vals xs us→Vals (xs.set i x) (us.set i u)
 | _,_,_,.nil=> .nil
 | _,_,0,.cons _ t=> .cons r t
 | _,_,i+1,.cons q t=> .cons q (Vals.set r i t)
theorem Vals.append:∀{xs ys:List V} {us ws:List Value},Vals xs us→Vals ys ws→Vals (xs++ys) (us++ws)
 | _,_,_,_,.nil,s=>s
 | _,_,_,_,.cons r t,s=> .cons r (Vals.append t s)
theorem Vals.take:∀{xs:List V} {us:List Value} (n:Nat),Vals xs us→Vals (xs.take n) (us.take n)
 | _,_,0,_=> .nil
 | _,_,_+1,.nil=> .nil
 | _,_,n+1,.cons r t=> .cons r (Vals.take n t)
theorem Vals.drop:∀{xs:List V} {us:List Value} (n:Nat),Vals xs us→Vals (xs.drop n) (us.drop n)
 | _,_,0,r=>r
 | _,_,_+1,.nil=> .nil
 | _,_,n+1,.cons _ t=>Vals.drop n t
noncomputable def RelO:Option V→Option Value→Prop
 | some v,some u=>RelV v u
 | none,none=>True
 | _,_=>False
noncomputable def KV{κ:Type}:List (κ×V)→List (κ×Value)→Prop:=Paired fun (p:κ×V) (q:κ×Value)=>p.1=q.1∧RelV p.2 q.2
noncomputable def kV:Key→V
 | .inl i=> .int i
 | .inr x=> .str x
inductive HO where
 | lst (xs:List V)
 | tup (xs:List V)
 | dK (kvs:List (Key×V)) | dT (kvs:List (List Key×V))
 | set (S:Int→Bool) (n:Nat)
 | ins (C dx:Addr) (fs:List (Str×V))
 | own (x:Addr)
 | xd (fs:List (Str×V))
 | met (f x:Addr)
 | rng (lo hi:Int)
 | frz (o:Obj) (u:HO)
 | tbl (ps:Array Value)
 | ext (φ:Heap→Prop)
noncomputable abbrev Hp:=Addr→Option HO
noncomputable def upd(H:Hp)(a:Addr)(o:HO):Hp:=fun b=>if b=a then some o else H b
theorem upd_same{H:Hp}{a:Addr}{o:HO}:upd H a o a=some o:=by unfold upd;rw [if_pos rfl]
theorem upd_ne{H:Hp}{a b:Addr}{o:HO}(h:b≠a):upd H a o b=H b:=by unfold upd;rw [if_neg h]
theorem upd_upd{H:Hp}{a:Addr}{o u:HO}:upd (upd H a o) a u=upd H a u:=by
 funext b;unfold upd;split <;> rfl
theorem ne_of{H:Hp}{a b:Addr}{o u:HO}(h:H a=some o)(h':H b=some u)(d:o≠u):a≠b:=by
 intro e;subst e;rw [h]at h';exact d (Option.some.inj h')
theorem ne_of_none{H:Hp}{a b:Addr}{o:HO}(h:H a=some o)(h':H b=none):a≠b:=by
 intro e;subst e;rw [h]at h';cases h'
section
variable (P:Program) (w:World)
noncomputable def ObjOk(H:Hp)(h:Heap)(a:Addr):HO→Prop
 | .lst xs=>xs.length≤sizeLine∧∃(its:List Value) (n:Nat),Vals xs its∧h.get? a=some {cls:= .type "list",data:= .seq its.toArray n}
 | .tup xs=>xs.length≤sizeLine∧∃its:List Value,Vals xs its∧IsTup h a its.toArray
 | .dK kvs=>kvs.length≤sizeLine∧(a==sysModules)=false∧∃vs,KV kvs vs∧h.DictOf (mixKind P w) a vs
 | .dT kvs=>kvs.length≤sizeLine∧(a==sysModules)=false∧∃xs:List (List Key×Addr×Value),
  Paired (fun (p:List Key×V) (q:List Key×Addr×Value)=>p.1=q.1∧H q.2.1=some (.tup (p.1.map kV))∧RelV p.2 q.2.2) kvs xs∧
  ∃o es ep,h.get? a=some o∧o.ExactDict∧o.data= .dict es ep∧es.toList=xs.map (entryOfKey (tupleKind (mixKind P w)))∧(xs.map (·.1)).Nodup
 | .set S n=>h.SetOf (intKind P w) a S n
 | .ins C dx fs=>H dx=some (.own a)∧fs.length≤1000∧dx≠a∧h.get? a=some (PySem.W.instObj C dx)∧
  ∃mA,h.Ns1 dx mA∧(∀f,RelO (fs.lookup f) (mA f))∧PySem.Within mA (fs.map (·.1))
 | .own _=>∃o,h.get? a=some o
 | .xd fs=>∃mA,h.Ns1 a mA∧∀f,RelO (fs.lookup f) (mA f)
 | .rng lo hi=>∃t u v,h.get? a=some {cls:= .type "range",data:= .fields #[.int lo t,.int hi u,.int 1 v]}
 | .frz o u=>h.get? a=some o∧ObjOk H h a u
 | .tbl ps=>h.get? a=some {cls:= .none,data:= .fields ps}
 | .met f x=>h.get? a=some (PySem.W.methodObj (.ref f) (.ref x))
 | .ext φ=>φ h∧(∃o,h.get? a=some o)∧∀h1 h2:Heap,φ h1→(∀o,h1.get? a=some o→h2.get? a=some o)→φ h2
noncomputable def HOk(H:Hp)(h:Heap):Prop:=∀a o,H a=some o→ObjOk P w H h a o
end
section
variable {P:Program} {w:World} {H H':Hp} {h h':Heap} {a:Addr} {o:HO}
theorem ObjOk.lt(x:ObjOk P w H h a o):a < h.objs.size:=by
 cases o with
 | lst xs=>obtain ⟨_,_,_,_,e⟩:=x;exact Heap.lt_size e
 | tup xs=>obtain ⟨_,_,_,p⟩:=x;exact p.lt
 | dK kvs=>obtain ⟨_,_,_,_,o,_,_,e,_⟩:=x;exact Heap.lt_size e
 | dT kvs=>obtain ⟨_,_,_,_,o,_,_,e,_⟩:=x;exact Heap.lt_size e
 | set S n=>obtain ⟨o,_,_,_,e,_⟩:=x;exact Heap.lt_size e
 | ins C dx fs=>obtain ⟨_,_,_,e,_⟩:=x;exact Heap.lt_size e
 | own y=>obtain ⟨_,e⟩:=x;exact Heap.lt_size e
 | xd fs=>obtain ⟨_,⟨_,_,_,e,_⟩,_⟩:=x;exact Heap.lt_size e
 | rng lo hi=>obtain ⟨_,_,_,e⟩:=x;exact Heap.lt_size e
 | frz ob u=>obtain ⟨e,_⟩:=x;exact Heap.lt_size e
 | tbl ps=>exact Heap.lt_size (show h.get? a=some _ from x)
 | met f y=>exact Heap.lt_size (show h.get? a=some _ from x)
 | ext φ=>obtain ⟨_,⟨_,e⟩,_⟩:=x;exact Heap.lt_size e
theorem Paired.mapP{α β:Type}{F G:α→β→Prop}:∀{l₁:List α} {l₂:List β},Paired F l₁ l₂→(∀a b,F a b→G a b)→Paired G l₁ l₂
 | _,_,.nil,_=> .nil
 | _,_,.cons r t,f=> .cons (f _ _ r) (Paired.mapP t f)
theorem ObjOk.stay(x:ObjOk P w H h a o)(k:∀b u,(b=a∨H b=some (.own a))→h.get? b=some u→h'.get? b=some u)
 (ho:∀b,H b=some (.own a)→H' b=some (.own a)) (ht:∀b xs,H b=some (.tup xs)→H' b=some (.tup xs)):ObjOk P w H' h' a o:=by
 induction o with
 | lst xs=>obtain ⟨z,its,n,r,e⟩:=x;exact ⟨z,its,n,r,k _ _ (.inl rfl) e⟩
 | tup xs=>obtain ⟨z,its,r,ob,e,c⟩:=x;exact ⟨z,its,r,ob,k _ _ (.inl rfl) e,c⟩
 | dK kvs=>obtain ⟨z,y,vs,r,ob,es,ep,e,c⟩:=x;exact ⟨z,y,vs,r,ob,es,ep,k _ _ (.inl rfl) e,c⟩
 | dT kvs=>
  obtain ⟨z,y,xs,r,ob,es,ep,e,c⟩:=x
  exact ⟨z,y,xs,Paired.mapP r fun p q z=>⟨z.1,ht _ _ z.2.1,z.2.2⟩,ob,es,ep,k _ _ (.inl rfl) e,c⟩
 | set S n=>obtain ⟨ob,es,ep,t,e,c⟩:=x;exact ⟨ob,es,ep,t,k _ _ (.inl rfl) e,c⟩
 | ins C dx fs=>
  obtain ⟨d,z,ne,e,mA,⟨od,es,ep,e2,c⟩,r⟩:=x
  exact ⟨ho _ d,z,ne,k _ _ (.inl rfl) e,mA,⟨od,es,ep,k _ _ (.inr d) e2,c⟩,r⟩
 | own y=>obtain ⟨ob,e⟩:=x;exact ⟨ob,k _ _ (.inl rfl) e⟩
 | xd fs=>obtain ⟨mA,⟨od,es,ep,e,c⟩,r⟩:=x;exact ⟨mA,⟨od,es,ep,k _ _ (.inl rfl) e,c⟩,r⟩
 | rng lo hi=>obtain ⟨t,u,v,e⟩:=x;exact ⟨t,u,v,k _ _ (.inl rfl) e⟩
 | frz ob u ih=>obtain ⟨e,q⟩:=x;exact ⟨k _ _ (.inl rfl) e,ih q⟩
 | tbl ps=>
  have e:h.get? a=some {cls:= .none,data:= .fields ps}:=x
  show h'.get? a=some {cls:= .none,data:= .fields ps}
  exact k a _ (.inl rfl) e
 | met f y=>
  have e:h.get? a=some (PySem.W.methodObj (.ref f) (.ref y)):=x
  show h'.get? a=some (PySem.W.methodObj (.ref f) (.ref y))
  exact k a _ (.inl rfl) e
 | ext φ=>obtain ⟨p,⟨o,e⟩,st⟩:=x;exact ⟨st _ _ p fun o q=>k _ _ (.inl rfl) q,⟨o,k _ _ (.inl rfl) e⟩,st⟩
theorem HOk.lt(x:HOk P w H h)(e:H a=some o):a < h.objs.size:=(x a o e).lt
theorem HOk.fresh(x:HOk P w H h)(e:h.objs.size≤a):H a=none:=by
 cases q:H a with
 | none=>rfl
 | some u=>exact absurd (Nat.lt_of_lt_of_le (x.lt q) e) (Nat.lt_irrefl _)
theorem HOk.kept(x:HOk P w H h)(k:∀b u,h.get? b=some u→h'.get? b=some u):HOk P w H h':=fun a o e=>
 (x a o e).stay (fun b u _ q=>k b u q) (fun _ q=>q) fun _ _ q=>q
theorem HOk.laid(x:HOk P w H h)(k:∀b u,h.get? b=some u→h'.get? b=some u)(hp:h.objs.size≤a)(new:ObjOk P w (upd H a o) h' a o):HOk P w (upd H a o) h':=fun b u e=>by
 have hn:=x.fresh hp
 by_cases hb:b=a
 · subst hb;rw [upd_same]at e;cases e;exact new
 · rw [upd_ne hb]at e
   exact (x b u e).stay (fun c v _ q=>k c v q) (fun c q=>by rw [upd_ne (ne_of_none q hn)];exact q) fun c xs q=>by rw [upd_ne (ne_of_none q hn)];exact q
end
noncomputable def Rd(H:Hp)(a:Addr)(u:HO):Prop:=H a=some u∨∃o,H a=some (.frz o u)
theorem Rd.ok{P:Program}{w:World}{H:Hp}{h:Heap}{a:Addr}{u:HO}(r:Rd H a u)(x:HOk P w H h):ObjOk P w H h a u:=by
 rcases r with r | ⟨o,r⟩
 · exact x a u r
 · obtain ⟨_,q⟩:=x a _ r
   exact q
noncomputable def Mut:Option HO→Prop
 | some (.lst _)=>True
 | some (.dK _)=>True
 | some (.dT _)=>True
 | some (.set _ _)=>True
 | some (.ins _ _ _)=>True
 | some (.ext _)=>True
 | _=>False
section
variable {P:Program} {w:World} {H:Hp} {h h':Heap} {x e:Addr} {o':HO}
theorem HOk.write(ok:HOk P w H h)(mu:Mut (H x))(he:e=x∨H e=some (.own x))(k:∀b u,b≠e→h.get? b=some u→h'.get? b=some u)(heo:∃u,h'.get? e=some u)
 (new:ObjOk P w (upd H x o') h' x o'):HOk P w (upd H x o') h':=fun b u q=>by
 have nown:∀c y,H c=some (.own y)→c≠x:=fun c y r z=>by subst z;rw [r]at mu;exact mu
 have ntup:∀c xs,H c=some (.tup xs)→c≠x:=fun c xs r z=>by subst z;rw [r]at mu;exact mu
 by_cases hb:b=x
 · subst hb;rw [upd_same]at q;cases q;exact new
 · rw [upd_ne hb]at q
   by_cases hbe:b=e
   · have q':H b=some (.own x):=by
      rcases he with z | z
      · exact absurd (hbe.trans z) hb
      · rw [hbe];exact z
     rw [q]at q';cases q'
     obtain ⟨v,hv⟩:=heo
     exact ⟨v,by rw [hbe];exact hv⟩
   · refine (ok b u q).stay (fun c v hc r=>k c v ?_ r) (fun c r=>by rw [upd_ne (nown c b r)];exact r) fun c xs r=>by rw [upd_ne (ntup c xs r)];exact r
     rcases hc with rfl | hc
     · exact hbe
     · rintro rfl
       rcases he with z | z
       · exact nown c b hc z
       · rw [hc]at z;cases z;exact hb rfl
end
structure Un(fs ex:List Addr)(H H':Hp)(h h':Heap):Prop where
 keep:∀b o,h.get? b=some o→H b=none→b∉fs→b∉ex→h'.get? b=some o
 slot:∀b o,h.get? b=some o→H b=none→b∈fs→b∉ex→∃sl,h'.get? b=some {o with slots:=sl}
 free:∀b o,h.get? b=some o→H b=none→b∉ex→H' b=none
 there:∀b o,h.get? b=some o→b∉ex→∃o',h'.get? b=some o'
 tups:∀b xs,H b=some (.tup xs)→H' b=some (.tup xs)
 frzs:∀b o u,H b=some (.frz o u)→H' b=some (.frz o u)
 tbls:∀b ps,H b=some (.tbl ps)→∃more,H' b=some (.tbl (ps++more))
section
variable {fs fs' ex ex':List Addr} {H H1 H2:Hp} {h h1 h2 h':Heap} {a x e:Addr} {o:HO}
theorem Un.any(u:Un fs ex H H1 h h1){b:Addr}{ob:Obj}(q:h.get? b=some ob)(n:H b=none)(hx:b∉ex):∃sl,h1.get? b=some {ob with slots:=sl}:=by
 by_cases hb:b∈fs
 · exact u.slot b ob q n hb hx
 · exact ⟨ob.slots,u.keep b ob q n hb hx⟩
theorem Un.kept(k:∀b u,h.get? b=some u→h'.get? b=some u):Un fs ex H H h h':=
 ⟨fun b ob q _ _ _=>k b ob q,fun b ob q _ _ _=>⟨ob.slots,k b ob q⟩,fun _ _ _ n _=>n,fun b ob q _=>⟨ob,k b ob q⟩,fun _ _ q=>q,fun _ _ _ q=>q,fun _ ps q=>⟨#[],by rw [q];simp⟩⟩
theorem Un.refl:Un fs ex H H h h:=Un.kept fun _ _ q=>q
theorem Un.laid(k:∀b u,h.get? b=some u→h'.get? b=some u)(hp:h.objs.size≤a)(hn:H a=none):Un fs ex H (upd H a o) h h' where
 keep:=fun b u q _ _ _=>k b u q
 slot:=fun b u q _ _ _=>⟨u.slots,k b u q⟩
 free:=fun b u q n _=>by rw [upd_ne (Nat.ne_of_lt (Nat.lt_of_lt_of_le (Heap.lt_size q) hp))];exact n
 there:=fun b u q _=>⟨u,k b u q⟩
 tups:=fun b xs q=>by rw [upd_ne (ne_of_none q hn)];exact q
 frzs:=fun b u xs q=>by rw [upd_ne (ne_of_none q hn)];exact q
 tbls:=fun b ps q=>⟨#[],by rw [upd_ne (ne_of_none q hn),q];simp⟩
theorem Un.write(mu:Mut (H x))(he:e=x∨H e=some (.own x))(k:∀b u,b≠e→h.get? b=some u→h'.get? b=some u)(heo:∃u,h'.get? e=some u):Un fs ex H (upd H x o) h h':=by
 have hx:∀b,H b=none→b≠x:=fun b n z=>by subst z;rw [n]at mu;exact mu
 have hb:∀b,H b=none→b≠e:=fun b n z=>by
  subst z
  rcases he with r | r
  · exact hx b n r
  · rw [n]at r;cases r
 have hm:∀b u,H b=some u→¬Mut (some u)→b≠x:=fun b u q nm z=>by subst z;rw [q]at mu;exact nm mu
 refine ⟨fun b u q n _ _=>k b u (hb b n) q,fun b u q n _ _=>⟨u.slots,k b u (hb b n) q⟩,fun b u q n _=>by rw [upd_ne (hx b n)];exact n,fun b u q _=>?_,
  fun b xs q=>by rw [upd_ne (hm b _ q fun z=>z)];exact q,fun b u xs q=>by rw [upd_ne (hm b _ q fun z=>z)];exact q,fun b ps q=>⟨#[],by rw [upd_ne (hm b _ q fun z=>z),q];simp⟩⟩
 by_cases hbe:b=e
 · subst hbe;exact heo
 · exact ⟨u,k b u hbe q⟩
end
noncomputable def trk(h:Heap)(H:Hp):List Addr:=(List.range h.objs.size).filter fun a=>(H a).isSome
noncomputable def hidT(h:Heap)(H:Hp):Heap:=PySem.W.hideAll h (trk h H)
theorem hidT_size(h:Heap)(H:Hp):(hidT h H).objs.size=h.objs.size:=PySem.W.hideAll_size _ _
theorem hidT_get{h:Heap}{H:Hp}{b:Addr}{o:Obj}(e:h.get? b=some o)(n:H b=none):(hidT h H).get? b=some o:=
 PySem.W.hideAll_get _ e fun hm=>by
  have q:(H b).isSome=true:=(List.mem_filter.mp hm).2
  rw [n]at q;simp at q
theorem of_hidT{h:Heap}{H:Hp}{b:Addr}{o:Obj}(e:(hidT h H).get? b=some o):h.get? b=some o∧H b=none:=by
 have e':h.get? b=some o:=PySem.W.of_hideAll (trk h H) e
 refine ⟨e',?_⟩
 cases q:H b with
 | none=>rfl
 | some x=>
  have hm:b∈trk h H:=List.mem_filter.mpr ⟨List.mem_range.mpr (Heap.lt_size e'),by simp [q]⟩
  have z:(hidT h H).get? b=none:=PySem.W.hideAll_none (trk h H) hm
  rw [z]at e;cases e
end L2
namespace L2
structure Mod(K:PySem.W.Frag)(mg:Str→Option Value)(base:Heap):Prop where
 kin:K.In base
 glob:base.Ns mainGlobals mg
 blt:∃mb,base.Ns builtinsNs mb∧∀x:Str,x≠"__name__"→mb x=bootBuiltins x
 nolimit:base.NoLimit
structure Cx where
 prog:Program
 w:World
 K:PySem.W.Frag
 mg:Str→Option Value
 base:Heap
 A:Around
 N:List Str
 s₀:Shared
 H₀:Hp
 env:Env
 outer:List Env
 stack:List Env
 ex:List Addr
 fn:Str→Bool
 calm:Bool
 pn:List (Addr×Obj)
 xe:Value→Shared→Prop
noncomputable def frs(l:List Env):List Addr:=l.filterMap (·.frame)
noncomputable abbrev Cx.fs(X:Cx):List Addr:=frs X.outer
noncomputable def Vis(sc:Scope)(x:Str):Prop:=sc.names.lookup x=some .local∨sc.names.lookup x=some .cell∨sc.names.lookup x=some .free
noncomputable def Loc(sc:Scope)(x:Str):Prop:=sc.names.lookup x=some .local∨sc.names.lookup x=some .cell
noncomputable def Look(env:Env)(h:Heap)(m:Str→Option Value)(x:Str)(u:Value):Prop:=
 (env.kindOf x=some .local∧m x=some u)∨((env.kindOf x=some .cell∨env.kindOf x=some .free)∧∃c,env.cells.lookup x=some c∧h.IsCell c (some u))
structure Cx.Ok(X:Cx):Prop where
 mod:Mod X.K X.mg X.base
 kind:X.env.scope.kind= .function
 glob:X.env.globals=mainGlobals
 blt:X.env.builtins=builtinsNs
 above:X.s₀.heap.objs.size≤X.env.locals
 inj:∀x y c,X.env.cells.lookup x=some c→X.env.cells.lookup y=some c→x=y
 has:∀x,(X.env.kindOf x=some .cell∨X.env.kindOf x=some .free)→∃c,X.env.cells.lookup x=some c
 cab:∀x c,X.fn x=true→X.env.cells.lookup x=some c→X.s₀.heap.objs.size≤c
 hd:X.calm=true→X.A.handled=none
 frames:X.A.frames=some X.stack
 stk:X.stack=X.outer∨(X.stack=X.env::X.outer∧X.env.frame=some X.env.locals)
 exf:∀b∈X.ex,b≠X.env.locals∧∀x c,X.env.cells.lookup x=some c→c≠b
 bs:∀b o,X.base.get? b=some o→X.s₀.heap.get? b=some o∧X.H₀ b=none
 bsz:X.base.objs.size≤X.s₀.heap.objs.size
 noex:∀b o,X.base.get? b=some o→b∉X.ex
 exfs:∀b∈X.ex,b∉X.fs
 funs:X.s₀.heap.FunFrames X.base X.outer
 frf:∀b∈X.fs,X.H₀ b=none
structure Inv(X:Cx)(pins:List (Addr×Obj))(σ:List (Option V))(H:Hp)(s:Shared):Prop where
 ok:X.Ok
 os:s.os=X.s₀.os
 bare:AllBare s.gens
 base:Un X.fs X.ex X.H₀ H X.s₀.heap s.heap
 loc:∃m,s.heap.Ns X.env.locals m∧∀(i:Nat) (x:Str) (v:V),X.N[i]?=some x→σ[i]?=some (some v)→Vis X.env.scope x→∃u,RelV v u∧Look X.env s.heap m x u
 cell:∀x c,X.env.cells.lookup x=some c→∃v,s.heap.IsCell c v
 free:H X.env.locals=none
 freeC:∀x c,X.env.cells.lookup x=some c→H c=none
 pin:∀p∈X.pn++pins,s.heap.get? p.1=some p.2∧H p.1=none∧p.1≠X.env.locals∧p.1∉X.fs∧∀v,p.2.data≠ .cell v
 hok:HOk X.prog X.w H s.heap
 len:σ.length=X.N.length
section
variable {X:Cx} {pins:List (Addr×Obj)} {σ:List (Option V)} {H H':Hp} {s:Shared} {h':Heap}
theorem Cx.Ok.nofr(ok:X.Ok){b:Addr}{o:Obj}(e:X.base.get? b=some o):b∉X.fs:=fun hb=>by
 have:=(ok.funs.mem hb).1
 rw [e]at this;cases this
theorem Inv.bs(I:Inv X pins σ H s):∀b o,X.base.get? b=some o→s.heap.get? b=some o∧H b=none:=fun b o e=>
 ⟨I.base.keep b o (I.ok.bs b o e).1 (I.ok.bs b o e).2 (I.ok.nofr e) (I.ok.noex b o e),I.base.free b o (I.ok.bs b o e).1 (I.ok.bs b o e).2 (I.ok.noex b o e)⟩
theorem Inv.bk(I:Inv X pins σ H s):∀b o,X.base.get? b=some o→s.heap.get? b=some o:=fun b o e=>(I.bs b o e).1
theorem Inv.mod(I:Inv X pins σ H s):Mod X.K X.mg X.base:=I.ok.mod
theorem Inv.kIn(I:Inv X pins σ H s):X.K.In s.heap:=I.ok.mod.kin.keeps I.bk
theorem Inv.lt(I:Inv X pins σ H s):X.env.locals < s.heap.objs.size:=let ⟨_,hn,_⟩:=I.loc;hn.lt
theorem Inv.sz(I:Inv X pins σ H s):X.s₀.heap.objs.size≤s.heap.objs.size:=Nat.le_trans I.ok.above (Nat.le_of_lt I.lt)
theorem Inv.nofs(I:Inv X pins σ H s){a:Addr}(h:s.heap.objs.size≤a):a∉X.fs:=fun hb=>by
 obtain ⟨_,o,ho,_⟩:=I.ok.funs.mem hb
 exact absurd (Nat.lt_of_lt_of_le (Heap.lt_size ho) (Nat.le_trans I.sz h)) (Nat.lt_irrefl _)
theorem Inv.cne(I:Inv X pins σ H s):∀x c,X.env.cells.lookup x=some c→c≠X.env.locals:=fun x c e z=>by
 obtain ⟨v,o,ho,hd⟩:=I.cell x c e
 obtain ⟨m,⟨o',es,ep,ho',hd',_⟩,_⟩:=I.loc
 rw [z,ho']at ho;cases ho;rw [hd']at hd;cases hd
theorem Inv.funs(I:Inv X pins σ H s):s.heap.FunFrames X.base X.outer:=by
 have all:∀(l:List Env),(∀b∈frs l,b∈X.fs)→X.s₀.heap.FunFrames X.base l→s.heap.FunFrames X.base l:=by
  intro l
  induction l with
  | nil=>intro _ _;trivial
  | cons env r ih=>
   intro hs hl
   obtain ⟨hk,⟨L,o,hf,hn,ho,hd⟩,hr⟩:=hl
   have hL:L∈X.fs:=hs L (by unfold frs;rw [List.filterMap_cons,hf];exact List.mem_cons_self)
   obtain ⟨sl,e⟩:=I.base.slot L o ho (I.ok.frf L hL) hL fun z=>I.ok.exfs L z hL
   exact ⟨hk,⟨L,_,hf,hn,e,hd⟩,ih (fun b hb=>hs b (by unfold frs;rw [List.filterMap_cons,hf];exact List.mem_cons_of_mem _ hb)) hr⟩
 exact all X.outer (fun _ hb=>hb) I.ok.funs
theorem Inv.stack(I:Inv X pins σ H s):s.heap.FunFrames X.base X.stack:=by
 rcases I.ok.stk with e | ⟨e,hf⟩
 · rw [e];exact I.funs
 · rw [e]
   obtain ⟨m,hn,_⟩:=I.loc
   refine .cons (by rw [I.ok.kind];decide) hf hn ?_ I.funs
   exact Heap.get?_none_of_le (Nat.le_trans I.ok.bsz I.ok.above)
theorem Inv.stkSub(I:Inv X pins σ H s):∀b∈frs X.stack,b∈X.env.locals::X.fs:=fun b hb=>by
 rcases I.ok.stk with e | ⟨e,hf⟩
 · rw [e]at hb;exact List.mem_cons_of_mem _ hb
 · rw [e]at hb
   unfold frs at hb
   rw [List.filterMap_cons,hf]at hb
   exact hb
theorem Inv.stkFree(I:Inv X pins σ H s):∀b∈frs X.stack,H b=none:=fun b hb=>by
 rcases List.mem_cons.mp (I.stkSub b hb) with e | hb
 · rw [e];exact I.free
 · obtain ⟨_,o,ho,_⟩:=I.ok.funs.mem hb
   exact I.base.free b o ho (I.ok.frf b hb) fun z=>I.ok.exfs b z hb
theorem Inv.step{g':Array GenState}{t':Nat}{d':Drawn}{ch:List Addr}(I:Inv X pins σ H s)
 (hch:∀b∈ch,(b∈X.ex∨X.s₀.heap.objs.size≤b)∧b≠X.env.locals∧(∀x c,X.env.cells.lookup x=some c→c≠b)∧∀p∈X.pn++pins,p.1≠b)
 (keep:∀b o,b≠X.env.locals→b∉X.fs→b∉ch→s.heap.get? b=some o→H b=none→h'.get? b=some o)
 (slot:∀b o,b≠X.env.locals→b∈X.fs→b∉ch→s.heap.get? b=some o→H b=none→∃sl,h'.get? b=some {o with slots:=sl}) (free:∀b o,b∉ch→s.heap.get? b=some o→H b=none→H' b=none)
 (there:∀b o,b∉ch→s.heap.get? b=some o→∃o',h'.get? b=some o')
 (tups:∀b xs,H b=some (.tup xs)→H' b=some (.tup xs)) (frzs:∀b o u,H b=some (.frz o u)→H' b=some (.frz o u)) (tbls:∀b ps,H b=some (.tbl ps)→∃more,H' b=some (.tbl (ps++more)))
 (ns:∀m,s.heap.Ns X.env.locals m→h'.Ns X.env.locals m) (hok:HOk X.prog X.w H' h') (hg:AllBare g'):
 Inv X pins σ H' {s with heap:=h',gens:=g',drawn:=d',toks:=t'}:=by
 have neL:∀b o,X.s₀.heap.get? b=some o→b≠X.env.locals:=fun b o e=>Nat.ne_of_lt (Nat.lt_of_lt_of_le (Heap.lt_size e) I.ok.above)
 have neC:∀b o,X.s₀.heap.get? b=some o→b∉X.ex→b∉ch:=fun b o e hx hb=>by
  rcases (hch b hb).1 with z | z
  · exact hx z
  · exact absurd (Nat.lt_of_lt_of_le (Heap.lt_size e) z) (Nat.lt_irrefl _)
 have cellK:∀x c,X.env.cells.lookup x=some c→∀v,s.heap.IsCell c v→h'.IsCell c v:=fun x c e v ⟨o,ho,hd⟩=>by
  have nch:c∉ch:=fun z=>(hch c z).2.2.1 x c e rfl
  by_cases hc:c∈X.fs
  · obtain ⟨sl,q⟩:=slot c o (I.cne x c e) hc nch ho (I.freeC x c e)
    exact ⟨_,q,hd⟩
  · exact ⟨o,keep c o (I.cne x c e) hc nch ho (I.freeC x c e),hd⟩
 refine ⟨I.ok,I.os,hg,⟨fun b o e n hb hx=>?_,fun b o e n hb hx=>?_,fun b o e n hx=>?_,fun b o e hx=>?_,fun b xs e=>tups b xs (I.base.tups b xs e),fun b o xs e=>frzs b o xs (I.base.frzs b o xs e),fun b ps e=>?_⟩,?_,fun x c e=>?_,?_,fun x c e=>?_,fun p hp=>?_,hok,I.len⟩
 · exact keep b o (neL b o e) hb (neC b o e hx) (I.base.keep b o e n hb hx) (I.base.free b o e n hx)
 · obtain ⟨sl,e1⟩:=I.base.slot b o e n hb hx
   obtain ⟨sl',e2⟩:=slot b _ (neL b o e) hb (neC b o e hx) e1 (I.base.free b o e n hx)
   exact ⟨sl',e2⟩
 · obtain ⟨o',e1⟩:=I.base.there b o e hx
   exact free b o' (neC b o e hx) e1 (I.base.free b o e n hx)
 · obtain ⟨o',e1⟩:=I.base.there b o e hx
   exact there b o' (neC b o e hx) e1
 · obtain ⟨m1,e1⟩:=I.base.tbls b ps e
   obtain ⟨m2,e2⟩:=tbls b _ e1
   exact ⟨m1++m2,by rw [e2,Array.append_assoc]⟩
 · obtain ⟨m,hn,hl⟩:=I.loc
   refine ⟨m,ns m hn,fun i x v e1 e2 e3=>?_⟩
   obtain ⟨u,r,l⟩:=hl i x v e1 e2 e3
   refine ⟨u,r,?_⟩
   rcases l with l | ⟨k,c,e,z⟩
   · exact .inl l
   · exact .inr ⟨k,c,e,cellK x c e _ z⟩
 · obtain ⟨v,z⟩:=I.cell x c e
   exact ⟨v,cellK x c e v z⟩
 · obtain ⟨m,⟨o,_,_,ho,_⟩,_⟩:=I.loc
   exact free _ o (fun z=>(hch _ z).2.1 rfl) ho I.free
 · obtain ⟨v,o,ho,hd⟩:=I.cell x c e
   exact free c o (fun z=>(hch c z).2.2.1 x c e rfl) ho (I.freeC x c e)
 · obtain ⟨e,n,ne,nf,d⟩:=I.pin p hp
   have nch:p.1∉ch:=fun z=>(hch p.1 z).2.2.2 p hp rfl
   exact ⟨keep p.1 p.2 ne nf nch e n,free p.1 p.2 nch e n,ne,nf,d⟩
theorem Inv.un{t':Nat}(I:Inv X pins σ H s)(u:Un X.fs [] H H' s.heap h')(hok:HOk X.prog X.w H' h'):Inv X pins σ H' {s with heap:=h',toks:=t'}:=by
 obtain ⟨m,⟨o,es,ep,ho,r⟩,_⟩:=id I.loc
 obtain ⟨sl,hL⟩:=u.any ho I.free (by simp)
 exact I.step (g':=s.gens) (d':=s.drawn) (ch:=[]) (fun _ z=>nomatch z) (fun b o _ hb _ e n=>u.keep b o e n hb (by simp)) (fun b o _ hb _ e n=>u.slot b o e n hb (by simp)) (fun b o _ e n=>u.free b o e n (by simp)) (fun b o _ e=>u.there b o e (by simp)) u.tups u.frzs u.tbls (fun m' hm=>by
  obtain ⟨o',es',ep',ho',r'⟩:=hm
  rw [ho]at ho';cases ho'
  exact ⟨_,es',ep',hL,r'⟩) hok I.bare
theorem Inv.call{g':Array GenState}{t':Nat}{d':Drawn}{ch:List Addr}(I:Inv X pins σ H s)(u:Un (frs X.stack) ch H H' s.heap h')(hok:HOk X.prog X.w H' h')(hg:AllBare g')
 (hch:∀b∈ch,(b∈X.ex∨X.s₀.heap.objs.size≤b)∧b≠X.env.locals∧(∀x c,X.env.cells.lookup x=some c→c≠b)∧∀p∈X.pn++pins,p.1≠b):
 Inv X pins σ H' {s with heap:=h',gens:=g',drawn:=d',toks:=t'}:=by
 obtain ⟨m,⟨o,es,ep,ho,r⟩,_⟩:=id I.loc
 obtain ⟨sl,hL⟩:=u.any ho I.free fun z=>(hch _ z).2.1 rfl
 exact I.step (ch:=ch) hch (fun b o hL hb hc e n=>u.keep b o e n (fun z=>(List.mem_cons.mp (I.stkSub b z)).elim hL hb) hc) (fun b o _ _ hc e n=>u.any e n hc) (fun b o hc e n=>u.free b o e n hc) (fun b o hc e=>u.there b o e hc) u.tups u.frzs u.tbls (fun m' hm=>by
  obtain ⟨o',es',ep',ho',r'⟩:=hm
  rw [ho]at ho';cases ho'
  exact ⟨_,es',ep',hL,r'⟩) hok hg
theorem Inv.turned{t':Nat}{it:Addr}(I:Inv X pins σ H s)(k:∀b o,b≠it→s.heap.get? b=some o→h'.get? b=some o)(hn:H it=none)(hL:it≠X.env.locals)
 (h1:it∈X.ex∨X.s₀.heap.objs.size≤it) (h2:∀x c,X.env.cells.lookup x=some c→c≠it) (h3:∀p∈X.pn++pins,p.1≠it):Inv X pins σ H {s with heap:=h',toks:=t'}:=by
 have nit:∀b u,H b=some u→b≠it:=fun b u e z=>by rw [z,hn]at e;cases e
 refine I.step (g':=s.gens) (d':=s.drawn) (ch:=[it]) (fun b hb=>?_) (fun b o _ _ hc e _=>k b o (fun z=>hc (by simp [z])) e) (fun b o _ _ hc e _=>⟨o.slots,k b o (fun z=>hc (by simp [z])) e⟩) (fun _ _ _ _ n=>n)
  (fun b o hc e=>⟨o,k b o (fun z=>hc (by simp [z])) e⟩) (fun _ _ e=>e) (fun _ _ _ e=>e) (fun b ps e=>⟨#[],by rw [e];simp⟩) (fun m hm=>?_) (fun b u e=>?_) I.bare
 · have e:b=it:=by simpa using hb
   subst e
   exact ⟨h1,hL,h2,h3⟩
 · obtain ⟨o,es,ep,ho,r⟩:=hm
   exact ⟨o,es,ep,k _ o (Ne.symm hL) ho,r⟩
 · refine (I.hok b u e).stay (fun c v hc q=>k c v ?_ q) (fun _ q=>q) fun _ _ q=>q
   rcases hc with z | z
   · rw [z];exact nit b u e
   · exact nit c _ z
theorem Inv.tok(I:Inv X pins σ H s)(t:Nat):Inv X pins σ H {s with toks:=t}:=I.un (h':=s.heap) (t':=t) Un.refl I.hok
theorem Inv.kept{t':Nat}(I:Inv X pins σ H s)(k:∀b u,s.heap.get? b=some u→h'.get? b=some u):Inv X pins σ H {s with heap:=h',toks:=t'}:=I.un (Un.kept k) (I.hok.kept k)
theorem Inv.laid{a:Addr}{o:HO}{t':Nat}(I:Inv X pins σ H s)(k:∀b u,s.heap.get? b=some u→h'.get? b=some u)(hp:s.heap.objs.size≤a)(new:ObjOk X.prog X.w (upd H a o) h' a o):
 Inv X pins σ (upd H a o) {s with heap:=h',toks:=t'}:=I.un (Un.laid k hp (I.hok.fresh hp)) (I.hok.laid k hp new)
theorem Inv.write{x e:Addr}{o:HO}{t':Nat}(I:Inv X pins σ H s)(mu:Mut (H x))(he:e=x∨H e=some (.own x))(k:∀b u,b≠e→s.heap.get? b=some u→h'.get? b=some u)(heo:∃u,h'.get? e=some u)
 (new:ObjOk X.prog X.w (upd H x o) h' x o):Inv X pins σ (upd H x o) {s with heap:=h',toks:=t'}:=I.un (Un.write mu he k heo) (I.hok.write mu he k heo new)
theorem Inv.weak{σ':List (Option V)}(I:Inv X pins σ H s)(hl:σ'.length=σ.length)(w:∀(i:Nat) v,σ'[i]?=some (some v)→σ[i]?=some (some v)):Inv X pins σ' H s:=
 ⟨I.ok,I.os,I.bare,I.base,let ⟨m,hn,hl'⟩:=I.loc;⟨m,hn,fun i x v e1 e2 e3=>hl' i x v e1 (w i v e2) e3⟩,I.cell,I.free,I.freeC,I.pin,I.hok,hl.trans I.len⟩
theorem Inv.pins_of{pins':List (Addr×Obj)}(I:Inv X pins σ H s)(h:∀p∈pins',s.heap.get? p.1=some p.2∧H p.1=none∧p.1≠X.env.locals∧p.1∉X.fs∧∀v,p.2.data≠ .cell v):Inv X pins' σ H s:=
 ⟨I.ok,I.os,I.bare,I.base,I.loc,I.cell,I.free,I.freeC,fun p hp=>(List.mem_append.mp hp).elim (fun z=>I.pin p (List.mem_append_left _ z)) (h p),I.hok,I.len⟩
theorem nodup_ix{N:List Str}(hN:N.Nodup){i j:Nat}{x:Str}(a:N[i]?=some x)(b:N[j]?=some x):i=j:=by
 obtain ⟨h1,e1⟩:=List.getElem?_eq_some_iff.mp a
 obtain ⟨h2,e2⟩:=List.getElem?_eq_some_iff.mp b
 exact (List.getElem_inj hN).mp (e1.trans e2.symm)
theorem store_ok2{M:Model}{A:Around}{E:Value→Shared→Prop}{i:Nat}{x:Str}{v:V}{u:Value}{Q:Unit→Shared→Prop}(I:Inv X pins σ H s)(hN:X.N.Nodup)(hi:X.N[i]?=some x)(hx:Loc X.env.scope x)(r:RelV v u)
 (h:∀s',Inv X pins (σ.set i (some v)) H s'→(∃a,Heap.SameBut a s.heap s'.heap∧(a=X.env.locals∨X.env.cells.lookup x=some a))→Q () s') (hf:X.fn x=true∨X.env.scope.names.lookup x=some .local:=by first | exact .inl rfl | exact .inr rfl | assumption):wpAny M A (storeName X.env x u) Q E s:=by
 obtain ⟨m,hn,hl⟩:=id I.loc
 have hcls:(X.env.scope.kind== .class || (X.env.scope.kind== .module && X.env.locals !=X.env.globals))=false:=by rw [I.ok.kind];rfl
 have hiσ:i < σ.length:=by rw [I.len];exact (List.getElem?_eq_some_iff.mp hi).1
 have cne:=I.cne
 have tracked:∀{a:Addr} {h':Heap},(∃o,s.heap.get? a=some o∧H a=none)→Heap.SameBut a s.heap h'→HOk X.prog X.w H h':=fun {a h'} ha hs b ob e=>by
  obtain ⟨_,_,hfree⟩:=ha
  refine (I.hok b ob e).stay (fun c w' hc q=>(hs.2 c ?_).trans q) (fun _ q=>q) fun _ _ q=>q
  rintro rfl
  rcases hc with rfl | hc
  · rw [hfree]at e;cases e
  · rw [hfree]at hc;cases hc
 rcases hx with hk | hk
 · refine wpAny_storeName_local hk hn (fun h' hn' hs=>?_) hcls
   obtain ⟨oL,_,_,hoL,_⟩:=id hn
   refine h _ ⟨I.ok,I.os,I.bare,⟨fun b o e n hb hx=>?_,fun b o e n hb hx=>?_,I.base.free,fun b o e hx=>?_,I.base.tups,I.base.frzs,I.base.tbls⟩,⟨_,hn',fun j y v' e1 e2 e3=>?_⟩,fun y c e=>?_,I.free,I.freeC,fun p hp=>?_,tracked ⟨oL,hoL,I.free⟩ hs,by simpa using I.len⟩ ⟨_,hs,.inl rfl⟩
   · exact (hs.2 b (Nat.ne_of_lt (Nat.lt_of_lt_of_le (Heap.lt_size e) I.ok.above))).trans (I.base.keep b o e n hb hx)
   · obtain ⟨sl,e1⟩:=I.base.slot b o e n hb hx
     exact ⟨sl,(hs.2 b (Nat.ne_of_lt (Nat.lt_of_lt_of_le (Heap.lt_size e) I.ok.above))).trans e1⟩
   · obtain ⟨o',e1⟩:=I.base.there b o e hx
     exact ⟨o',(hs.2 b (Nat.ne_of_lt (Nat.lt_of_lt_of_le (Heap.lt_size e) I.ok.above))).trans e1⟩
   · by_cases hj:j=i
     · subst hj
       rw [hi]at e1;cases e1
       rw [List.getElem?_set_self hiσ]at e2
       cases e2
       exact ⟨u,r,.inl ⟨hk,by simp⟩⟩
     · rw [List.getElem?_set_ne (Ne.symm hj)]at e2
       obtain ⟨u',r',q⟩:=hl j y v' e1 e2 e3
       refine ⟨u',r',?_⟩
       rcases q with ⟨k,e⟩ | ⟨k,c,e,z⟩
       · refine .inl ⟨k,?_⟩
         have:y≠x:=fun e=>hj (nodup_ix hN e1 (e▸hi))
         simp [this,e]
       · exact .inr ⟨k,c,e,z.sameBut hs (cne y c e)⟩
   · obtain ⟨w',z⟩:=I.cell y c e
     exact ⟨w',z.sameBut hs (cne y c e)⟩
   · obtain ⟨e,n,ne,nf,d⟩:=I.pin p hp
     exact ⟨(hs.2 p.1 ne).trans e,n,ne,nf,d⟩
 · have hfn:X.fn x=true:=by
    rcases hf with z | z
    · exact z
    · rw [z]at hk;cases hk
   obtain ⟨c,hc⟩:=I.ok.has x (.inl hk)
   obtain ⟨w',z⟩:=I.cell x c hc
   refine wpAny_storeName_cell I.ok.kind hk hc z (fun h' hc' hs=>?_)
   obtain ⟨oc,hoc,hocd⟩:=id z
   refine h {s with heap:=h'} ⟨I.ok,I.os,I.bare,⟨fun b o e n hb hx=>?_,fun b o e n hb hx=>?_,I.base.free,fun b o e hx=>?_,I.base.tups,I.base.frzs,I.base.tbls⟩,⟨m,hn.sameBut hs (Ne.symm (cne x c hc)),fun j y v' e1 e2 e3=>?_⟩,fun y c' e=>?_,I.free,I.freeC,fun p hp=>?_,tracked ⟨oc,hoc,I.freeC x c hc⟩ hs,by simpa using I.len⟩ ⟨c,hs,.inr hc⟩
   · exact (hs.2 b (Nat.ne_of_lt (Nat.lt_of_lt_of_le (Heap.lt_size e) (I.ok.cab x c hfn hc)))).trans (I.base.keep b o e n hb hx)
   · obtain ⟨sl,e1⟩:=I.base.slot b o e n hb hx
     exact ⟨sl,(hs.2 b (Nat.ne_of_lt (Nat.lt_of_lt_of_le (Heap.lt_size e) (I.ok.cab x c hfn hc)))).trans e1⟩
   · obtain ⟨o',e1⟩:=I.base.there b o e hx
     exact ⟨o',(hs.2 b (Nat.ne_of_lt (Nat.lt_of_lt_of_le (Heap.lt_size e) (I.ok.cab x c hfn hc)))).trans e1⟩
   · by_cases hj:j=i
     · subst hj
       rw [hi]at e1;cases e1
       rw [List.getElem?_set_self hiσ]at e2
       cases e2
       exact ⟨u,r,.inr ⟨.inl hk,c,hc,hc'⟩⟩
     · rw [List.getElem?_set_ne (Ne.symm hj)]at e2
       obtain ⟨u',r',q⟩:=hl j y v' e1 e2 e3
       refine ⟨u',r',?_⟩
       rcases q with q | ⟨k,c',e,z'⟩
       · exact .inl q
       · refine .inr ⟨k,c',e,z'.sameBut hs ?_⟩
         rintro rfl
         exact hj (nodup_ix hN e1 (I.ok.inj _ _ _ e hc▸hi))
   · by_cases hcc:c'=c
     · subst hcc;exact ⟨_,hc'⟩
     · obtain ⟨w2,z2⟩:=I.cell y c' e
       exact ⟨w2,z2.sameBut hs hcc⟩
   · obtain ⟨e,n,ne,nf,d⟩:=I.pin p hp
     refine ⟨(hs.2 p.1 ?_).trans e,n,ne,nf,d⟩
     intro q
     rw [q,hoc]at e
     have q':oc=p.2:=Option.some.inj e
     exact d w' (by rw [← q'];exact hocd)
theorem store_ok{M:Model}{A:Around}{E:Value→Shared→Prop}{i:Nat}{x:Str}{v:V}{u:Value}{Q:Unit→Shared→Prop}(I:Inv X pins σ H s)(hN:X.N.Nodup)(hi:X.N[i]?=some x)(hx:Loc X.env.scope x)(r:RelV v u)
 (h:∀s',Inv X pins (σ.set i (some v)) H s'→Q () s') (hf:X.fn x=true∨X.env.scope.names.lookup x=some .local:=by first | exact .inl rfl | exact .inr rfl | assumption):wpAny M A (storeName X.env x u) Q E s:=
 store_ok2 I hN hi hx r (fun s' I' _=>h s' I') hf
theorem Inv.call'{s':Shared}{ch:List Addr}(I:Inv X pins σ H s)(ho:s'.os=s.os)(u:Un (frs X.stack) ch H H' s.heap s'.heap)(hok:HOk X.prog X.w H' s'.heap)(hg:AllBare s'.gens)
 (hch:∀b∈ch,(b∈X.ex∨X.s₀.heap.objs.size≤b)∧b≠X.env.locals∧(∀x c,X.env.cells.lookup x=some c→c≠b)∧∀p∈X.pn++pins,p.1≠b):Inv X pins σ H' s':=by
 obtain ⟨h',g',d',t',o'⟩:=s'
 have e:o'=s.os:=ho
 subst e
 exact I.call (g':=g') (t':=t') (d':=d') u hok hg hch
end
noncomputable abbrev XK:=Value→Option Addr→Hp→Prop
noncomputable abbrev St:=List (Option V)
noncomputable abbrev VK:=V→Hp→Prop
noncomputable abbrev TE:=St→Hp→VK→Prop
noncomputable abbrev TT:=St→Hp→(Bool→Hp→Prop)→Prop
noncomputable abbrev TA:=St→Hp→(List V→Hp→Prop)→Prop
structure Ends where
 nx:St→Hp→Prop
 rt:VK
 bk:St→Hp→Prop:=fun _ _=>False
 ct:St→Hp→Prop:=fun _ _=>False
noncomputable abbrev TS:=Ends→St→Hp→Prop
noncomputable def EP(X:Cx)(pins:List (Addr×Obj))(σ:St)(Q:VK)(u:Value)(s':Shared):Prop:=∃v H',Inv X pins σ H' s'∧RelV v u∧Q v H'
noncomputable def TP(X:Cx)(pins:List (Addr×Obj))(σ:St)(Q:Bool→Hp→Prop)(b:Bool)(s':Shared):Prop:=∃H',Inv X pins σ H' s'∧Q b H'
noncomputable def AP(X:Cx)(pins:List (Addr×Obj))(σ:St)(Q:List V→Hp→Prop)(us:List Value)(s':Shared):Prop:=∃vs H',Inv X pins σ H' s'∧Vals vs us∧Q vs H'
noncomputable def SP(X:Cx)(pins:List (Addr×Obj))(D:Ends)(f:Flow)(s':Shared):Prop:=
 match f with
 | .next=>∃σ' H',Inv X pins σ' H' s'∧D.nx σ' H'
 | .brk=>∃σ' H',Inv X pins σ' H' s'∧D.bk σ' H'
 | .cont=>∃σ' H',Inv X pins σ' H' s'∧D.ct σ' H'
 | .ret u=>∃v σ' H',Inv X pins σ' H' s'∧RelV v u∧D.rt v H'
noncomputable def PE(X:Cx)(e:Expr)(t:TE):Prop:=
 ∀(pins:List (Addr×Obj)) (s:Shared) (σ:St) (H:Hp) (Q:VK),Inv X pins σ H s→t σ H Q→wpAny (model X.prog X.w) X.A (eval e X.env) (EP X pins σ Q) X.xe s
noncomputable def PT(X:Cx)(e:Expr)(t:TT):Prop:=
 ∀(pins:List (Addr×Obj)) (s:Shared) (σ:St) (H:Hp) (Q:Bool→Hp→Prop),Inv X pins σ H s→t σ H Q→wpAny (model X.prog X.w) X.A (isTrue e X.env (eval e X.env)) (TP X pins σ Q) X.xe s
noncomputable def PW(X:Cx)(e:Expr)(t:TT):Prop:=
 ∀(whole:Sem Value) (pins:List (Addr×Obj)) (s:Shared) (σ:St) (H:Hp) (Q:Bool→Hp→Prop),Inv X pins σ H s→t σ H Q→wpAny (model X.prog X.w) X.A (isTrue e X.env whole) (TP X pins σ Q) X.xe s
theorem PW.pt{X:Cx}{e:Expr}{t:TT}(h:PW X e t):PT X e t:=h _
noncomputable def PA(X:Cx)(es:List Expr)(t:TA):Prop:=
 ∀(pos:Pos) (pins:List (Addr×Obj)) (s:Shared) (σ:St) (H:Hp) (Q:List V→Hp→Prop),Inv X pins σ H s→t σ H Q→wpAny (model X.prog X.w) X.A (spliced (backTo pos (starEach es X.env))) (AP X pins σ Q) X.xe s
noncomputable def PS(X:Cx)(st:Stmt)(t:TS):Prop:=
 ∀(pins:List (Addr×Obj)) (s:Shared) (σ:St) (H:Hp) (D:Ends),Inv X pins σ H s→t D σ H→wpAny (model X.prog X.w) X.A (exec st X.env) (SP X pins D) X.xe s
noncomputable def PSs(X:Cx)(st:List Stmt)(t:TS):Prop:=
 ∀(pins:List (Addr×Obj)) (s:Shared) (σ:St) (H:Hp) (D:Ends),Inv X pins σ H s→t D σ H→wpAny (model X.prog X.w) X.A (execs st X.env) (SP X pins D) X.xe s
theorem thn{α:Type}{t:Sem α}{Q Q':α→Shared→Prop}{M:Model}{A:Around}{E:Value→Shared→Prop}{s:Shared}(h:wpAny M A t Q E s)(hQ:∀a s,Q a s→Q' a s):wpAny M A t Q' E s:=wpAny_mono h hQ fun _ _ x=>x
end L2
namespace L2
section
variable {X:Cx}
noncomputable def tVar(i:Nat):TE:=fun σ H Q=>∃v,σ[i]?=some (some v)∧Q v H
noncomputable def tC(v:V):TE:=fun _ H Q=>Q v H
theorem pe_var{i:Nat}{x:Str}{pos:Pos}(hN:X.N[i]?=some x)(hv:Vis X.env.scope x)(hd:(x==("__debug__":Str))=false:=by decide)(hcd:(x==("__classdict__":Str))=false:=by decide):PE X (.Name x pos) (tVar i):=by
 intro pins s σ H Q I h
 obtain ⟨v,e,h⟩:=h
 obtain ⟨m,hn,hl⟩:=I.loc
 obtain ⟨u,r,l⟩:=hl i x v hN e hv
 have fin:EP X pins σ Q u s:=⟨v,H,I,r,h⟩
 rcases l with ⟨hk,hm⟩ | ⟨hk,c,hc,hcell⟩
 · exact wpAny_Name (wpAny_loadName_local I.ok.kind hk hn hm fin) hd
 · rcases hk with hk | hk
   · exact wpAny_Name (wpAny_loadName_cell I.ok.kind hk hc hcell fin) hd
   · exact wpAny_Name (wpAny_loadName_free I.ok.kind hk hc hcell fin hcd) hd
theorem pe_int{i j pos}:PE X (.Constant (.int i) j pos) (tC (.int i)):=fun _ _ _ H _ I h=>wpAny_Constant_int ⟨.int i,H,I.tok _,⟨_,rfl⟩,h⟩
theorem pe_bl{b j pos}:PE X (.Constant (.bool b) j pos) (tC (.bl b)):=fun _ _ _ H _ I h=>Constant_bool ⟨.bl b,H,I,rfl,h⟩
theorem pe_non{j pos}:PE X (.Constant .none j pos) (tC .non):=fun _ _ _ H _ I h=>Constant_none ⟨.non,H,I,rfl,h⟩
theorem pe_str{x j pos}:PE X (.Constant (.str x) j pos) (tC (.str x)):=fun _ _ _ H _ I h=>Calls.Constant_str ⟨.str x,H,I.tok _,⟨_,rfl⟩,h⟩
noncomputable def Gl(X:Cx)(x:Str):Prop:=X.env.kindOf x=some .globalImplicit
theorem ld_glob{E:Value→Shared→Prop}{pins:List (Addr×Obj)}{s:Shared}{σ:St}{H:Hp}{x:Str}{u:Value}{pos:Pos}{Q:Value→Shared→Prop}(I:Inv X pins σ H s)(hg:Gl X x)(hm:X.mg x=some u)(h:Q u s)
 (hd:(x==("__debug__":Str))=false:=by decide):wpAny (model X.prog X.w) X.A (eval (.Name x pos) X.env) Q E s:=
 Calls.Name_function_global I.ok.kind hg (Calls.loadGlobal_global (by rw [I.ok.glob];exact I.mod.glob.keeps I.bk) hm h) hd
theorem ld_blt{E:Value→Shared→Prop}{pins:List (Addr×Obj)}{s:Shared}{σ:St}{H:Hp}{x:Str}{u:Value}{pos:Pos}{Q:Value→Shared→Prop}(I:Inv X pins σ H s)(hg:Gl X x)(hm:X.mg x=none)(hv:bootBuiltins x=some u)(h:Q u s)
 (hn:x≠"__name__":=by decide) (hd:(x==("__debug__":Str))=false:=by decide):wpAny (model X.prog X.w) X.A (eval (.Name x pos) X.env) Q E s:=by
 obtain ⟨mb,h1,h2⟩:=I.mod.blt
 exact Calls.Name_function_global I.ok.kind hg (Calls.loadGlobal_builtin (by rw [I.ok.glob];exact I.mod.glob.keeps I.bk) hm (by rw [I.ok.blt];exact h1.keeps I.bk) ((h2 x hn).trans hv) h) hd
theorem pe_glob{x:Str}{v:V}{u:Value}{pos:Pos}(hg:Gl X x)(hm:X.mg x=some u)(r:RelV v u)(hd:(x==("__debug__":Str))=false:=by decide):PE X (.Name x pos) (tC v):=
 fun _ _ _ H _ I h=>ld_glob I hg hm ⟨v,H,I,r,h⟩ hd
theorem pe_bltn{x:Str}{v:V}{u:Value}{pos:Pos}(hg:Gl X x)(hm:X.mg x=none)(hv:bootBuiltins x=some u)(r:RelV v u)(hn:x≠"__name__":=by decide)(hd:(x==("__debug__":Str))=false:=by decide):PE X (.Name x pos) (tC v):=
 fun _ _ _ H _ I h=>ld_blt I hg hm hv ⟨v,H,I,r,h⟩ hn hd
variable {a b:Expr} {ta tb:TE} {pos:Pos}
noncomputable def PC(X:Cx)(op:CmpOp)(a b:Expr)(t:TE):Prop:=
 ∀(pins:List (Addr×Obj)) (s:Shared) (σ:St) (H:Hp) (Q:VK),Inv X pins σ H s→t σ H Q→
   wpAny (model X.prog X.w) X.A (eval a X.env) (fun v s₁=>wpAny (model X.prog X.w) X.A (eval b X.env) (fun u s₂=>wpAny (model X.prog X.w) X.A (compareOp op v u) (EP X pins σ Q) X.xe s₂) X.xe s₁) X.xe s
theorem nobehind(b:Expr){op:CmpOp}(h:op≠ .In)(h2:op≠ .NotIn):behindInMarks op b=false:=by
 have e1:(op==CmpOp.In)=false:=by cases op <;> first | rfl | exact absurd rfl h
 have e2:(op==CmpOp.NotIn)=false:=by cases op <;> first | rfl | exact absurd rfl h2
 cases b <;> simp [behindInMarks,e1,e2]
noncomputable def tB(t:TE):TT:=fun σ H Q=>t σ H fun x H1=>∃c,x= .bl c∧Q c H1
theorem pt_cmp{op:CmpOp}{t:TE}(h:PC X op a b t)(h1:behindInMarks op b=false:=by first | exact nobehind _ (by decide) (by decide) | rfl):PT X (.Compare a [op] [b] pos) (tB t):=by
 intro pins s σ H Q I hw
 refine wpAny_isTrue_Compare1 (thn (h pins s σ H _ I hw) fun v s1 h1=>thn h1 fun u s2 h2=>thn h2 fun c s3 ⟨x,H1,I1,r1,q1⟩=>?_) h1
 obtain ⟨d,rfl,q⟩:=q1
 cases r1
 exact wpAny_truthy_bool ⟨H1,I1,q⟩
theorem pt_val{e:Expr}{t:TE}(h:PE X e t)(he:∀whole,isTrue e X.env whole=(do let v ← whole;standAt e.pos;holding [v] (truthy v)):=by intro _;rfl):PT X e (tB t):=by
 intro pins s σ H Q I hw
 refine isTrue_plain (thn (h pins s σ H _ I hw) fun v s1 ⟨x,H1,I1,r1,q1⟩=>?_) (he _)
 obtain ⟨d,rfl,q⟩:=q1
 cases r1
 exact wpAny_truthy_bool ⟨H1,I1,q⟩
variable {tA tB':TT} {rest:List Expr}
noncomputable def tAnd(t u:TT):TT:=fun σ H Q=>t σ H fun c H1=>if c=true then u σ H1 Q else Q false H1
noncomputable def tOr(t u:TT):TT:=fun σ H Q=>t σ H fun c H1=>if c=true then Q true H1 else u σ H1 Q
noncomputable def tNot(t:TT):TT:=fun σ H Q=>t σ H fun c H1=>Q (!c) H1
theorem pw_and1(ha:PT X a tA):PW X (.BoolOp .And [a] pos) tA:=by
 intro wh pins s σ H Q I h
 refine isTrue_and (thn (ha pins s σ H Q I h) fun c s1 e=>?_)
 cases c with
 | true=>exact isTrue_and_nil e
 | false=>exact e
theorem pw_or1(ha:PT X a tA):PW X (.BoolOp .Or [a] pos) tA:=by
 intro wh pins s σ H Q I h
 refine isTrue_or (thn (ha pins s σ H Q I h) fun c s1 e=>?_)
 cases c with
 | false=>exact isTrue_or_nil e
 | true=>exact e
theorem pw_and(ha:PT X a tA)(hb:PW X (.BoolOp .And (b::rest) pos) tB'):PW X (.BoolOp .And (a::b::rest) pos) (tAnd tA tB'):=by
 intro wh pins s σ H Q I h
 refine isTrue_and (thn (ha pins s σ H _ I h) fun c s1 ⟨H1,I1,q1⟩=>?_)
 cases c with
 | true=>exact hb wh pins s1 σ H1 Q I1 q1
 | false=>exact ⟨H1,I1,q1⟩
theorem pw_or(ha:PT X a tA)(hb:PW X (.BoolOp .Or (b::rest) pos) tB'):PW X (.BoolOp .Or (a::b::rest) pos) (tOr tA tB'):=by
 intro wh pins s σ H Q I h
 refine isTrue_or (thn (ha pins s σ H _ I h) fun c s1 ⟨H1,I1,q1⟩=>?_)
 cases c with
 | true=>exact ⟨H1,I1,q1⟩
 | false=>exact hb wh pins s1 σ H1 Q I1 q1
theorem pt_not(ha:PT X a tA):PT X (.UnaryOp .Not a pos) (tNot tA):=by
 intro pins s σ H Q I h
 exact isTrue_not (ha pins s σ H (fun c H1=>Q (!c) H1) I h)
noncomputable def tAndV(ta tb:TE):TE:=fun σ H Q=>ta σ H fun x H1=>∃c,x= .bl c∧if c=true then tb σ H1 Q else Q (.bl false) H1
noncomputable def tOrV(ta tb:TE):TE:=fun σ H Q=>ta σ H fun x H1=>∃c,x= .bl c∧if c=true then Q (.bl true) H1 else tb σ H1 Q
noncomputable def tNotV(ta:TE):TE:=fun σ H Q=>ta σ H fun x H1=>∃c,x= .bl c∧Q (.bl (!c)) H1
theorem pe_one{op}{t:TE}(h:PE X a t):PE X (.BoolOp op [a] pos) t:=fun pins s σ H Q I hw=>BoolOp_one (h pins s σ H Q I hw)
theorem pe_and(ha:PE X a ta)(hb:PE X (.BoolOp .And (b::rest) pos) tb):PE X (.BoolOp .And (a::b::rest) pos) (tAndV ta tb):=by
 intro pins s σ H Q I h
 refine BoolOp_and (thn (ha pins s σ H _ I h) fun v s1 ⟨x,H1,I1,r1,q1⟩=>?_)
 obtain ⟨c,rfl,q1⟩:=q1
 cases r1
 refine wpAny_truthy_bool ?_
 cases c with
 | true=>exact hb pins s1 σ H1 Q I1 q1
 | false=>exact ⟨.bl false,H1,I1,rfl,q1⟩
theorem pe_not(ha:PE X a ta):PE X (.UnaryOp .Not a pos) (tNotV ta):=by
 intro pins s σ H Q I h
 refine UnaryOp_ (thn (ha pins s σ H _ I h) fun v s1 ⟨x,H1,I1,r1,q1⟩=>?_)
 obtain ⟨c,rfl,q1⟩:=q1
 cases r1
 exact not_of (wpAny_truthy_bool ⟨.bl (!c),H1,I1,rfl,q1⟩)
noncomputable def tIf(t:TT)(ta tb:TE):TE:=fun σ H Q=>t σ H fun c H1=>if c=true then ta σ H1 Q else tb σ H1 Q
end
end L2
namespace L2
noncomputable def SqL(K:PySem.W.Frag)(H:Hp)(a:Addr)(xs:List V):Prop:=
 Rd H a (.lst xs)∨
  ∃(o:Obj) (its:Array Value) (n:Nat),K.lookup a=some o∧o.cls= .type "list"∧o.dict=none∧o.data= .seq its n∧its.size≤sizeLine∧Vals xs its.toList
noncomputable def SqT(K:PySem.W.Frag)(H:Hp)(a:Addr)(xs:List V):Prop:=
 Rd H a (.tup xs)∨
  ∃(o:Obj) (its:Array Value) (n:Nat),K.lookup a=some o∧o.cls= .type "tuple"∧o.data= .seq its n∧its.size≤sizeLine∧Vals xs its.toList
noncomputable def absV:Value→Option V
 | .none=>some .non
 | .bool b=>some (.bl b)
 | .int i _=>some (.int i)
 | .str x _=>some (.str x)
 | .bytes b _=>some (.byt b)
 | .float b _=>some (.flt b)
 | .ref a=>some (.ref a)
 | .type n=>some (.ty n)
 | _=>none
theorem RelV.abs{x:V}{u:Value}(r:RelV x u):absV u=some x:=by
 cases x with
 | non=>cases r;rfl
 | bl _=>cases r;rfl
 | int _=>obtain ⟨t,rfl⟩:=r;rfl
 | str _=>obtain ⟨t,rfl⟩:=r;rfl
 | byt _=>obtain ⟨t,rfl⟩:=r;rfl
 | flt _=>obtain ⟨t,rfl⟩:=r;rfl
 | ref _=>cases r;rfl
 | ty _=>cases r;rfl
theorem RelV.inj{x y:V}{u:Value}(r:RelV x u)(q:RelV y u):x=y:=Option.some.inj (r.abs.symm.trans q.abs)
theorem Vals.inj:∀{xs ys:List V} {us:List Value},Vals xs us→Vals ys us→xs=ys
 | _,_,_,.nil,.nil=>rfl
 | _,_,_,.cons r t,.cons r' t'=>by rw [r.inj r',Vals.inj t t']
section
variable {X:Cx} {pins:List (Addr×Obj)} {σ:St} {H:Hp} {s:Shared} {a:Addr} {xs ys:List V}
theorem SqL.of{K:PySem.W.Frag}(h:H a=some (.lst xs)):SqL K H a xs:= .inl (.inl h)
theorem SqT.of{K:PySem.W.Frag}(h:H a=some (.tup xs)):SqT K H a xs:= .inl (.inl h)
theorem Inv.list(I:Inv X pins σ H s)(h:SqL X.K H a xs):∃its:List Value,Vals xs its∧PlainL s.heap a its.toArray∧xs.length≤sizeLine:=by
 rcases h with h | ⟨o,its,n,hk,hc,hd,hs,hz,r⟩
 · obtain ⟨z,its,n,r,e⟩:=h.ok I.hok
   exact ⟨its,r,⟨_,n,e,rfl,rfl,rfl⟩,z⟩
 · refine ⟨its.toList,r,⟨o,n,I.kIn a o hk,hc,hd,by simpa using hs⟩,?_⟩
   have e:=r.length
   simp only [Array.length_toList]at e
   omega
theorem Inv.tuple(I:Inv X pins σ H s)(h:SqT X.K H a xs):∃its:List Value,Vals xs its∧IsTup s.heap a its.toArray∧xs.length≤sizeLine:=by
 rcases h with h | ⟨o,its,n,hk,hc,hs,hz,r⟩
 · obtain ⟨z,its,r,p⟩:=h.ok I.hok
   exact ⟨its,r,p,z⟩
 · refine ⟨its.toList,r,⟨o,I.kIn a o hk,hc,n,by simpa using hs⟩,?_⟩
   have e:=r.length
   simp only [Array.length_toList]at e
   omega
theorem Inv.list_inj(I:Inv X pins σ H s)(h:SqL X.K H a xs)(h':SqL X.K H a ys):xs=ys:=by
 obtain ⟨its,r,⟨o,n,e,_,_,d⟩,_⟩:=I.list h
 obtain ⟨its',r',⟨o',n',e',_,_,d'⟩,_⟩:=I.list h'
 rw [e]at e';cases e'
 rw [d]at d'
 injection d' with d1 _
 have:its=its':=by simpa using congrArg Array.toList d1
 subst this
 exact r.inj r'
end
section
variable {X:Cx} {st:Stmt} {rest:List Stmt} {t u:TS} {e:Expr} {te:TE} {pos:Pos}
noncomputable def tNext:TS:=fun D σ H=>D.nx σ H
noncomputable def tSeq(t u:TS):TS:=fun D σ H=>t {D with nx:=u D} σ H
theorem pss_nil:PSs X [] tNext:=fun _ _ σ H _ I h=>wpAny_execs_nil ⟨σ,H,I,h⟩
theorem pss_cons(h1:PS X st t)(h2:PSs X rest u):PSs X (st::rest) (tSeq t u):=by
 intro pins s σ H D I h
 refine wpAny_execs_cons (thn (h1 pins s σ H {D with nx:=u D} I h) fun f s1 q=>?_)
 cases f with
 | next=>
  obtain ⟨σ',H',I',q⟩:=q
  exact h2 pins s1 σ' H' D I' q
 | ret v=>exact q
 | brk=>exact q
 | cont=>exact q
theorem pss_one(h1:PS X st t):PSs X [st] t:=by
 intro pins s σ H D I h
 refine wpAny_execs_cons (thn (h1 pins s σ H D I h) fun f s1 q=>?_)
 cases f with
 | next=>exact wpAny_execs_nil q
 | ret v=>exact q
 | brk=>exact q
 | cont=>exact q
noncomputable def tBreak:TS:=fun D σ H=>D.bk σ H
noncomputable def tCont:TS:=fun D σ H=>D.ct σ H
theorem Inv.quiet{pins:List (Addr×Obj)}{σ:St}{H:Hp}{s:Shared}(I:Inv X pins σ H s):interactive X.env=false:=by simp [interactive,I.ok.kind]
noncomputable def tDrop(te:TE):TS:=fun D σ H=>te σ H fun _ H1=>D.nx σ H1
theorem ps_expr(he:PE X e te)(hs:swapsWith e none pos.line X.env=pure false:=by rfl):PS X (.Expr e pos) (tDrop te):=by
 intro pins s σ H D I h
 exact wpAny_Expr_any (thn (he pins s σ H _ I h) fun v s1 ⟨x,H1,I1,r1,q1⟩=>⟨σ,H1,I1,q1⟩) I.quiet hs
noncomputable def tRet(te:TE):TS:=fun D σ H=>te σ H D.rt
theorem ps_ret(he:PE X e te):PS X (.Return (some e) pos) (tRet te):=by
 intro pins s σ H D I h
 exact wpAny_Return_some (thn (he pins s σ H _ I h) fun v s1 ⟨x,H1,I1,r1,q1⟩=>⟨x,σ,H1,I1,r1,q1⟩)
noncomputable def tRetN:TS:=fun D _ H=>D.rt .non H
noncomputable def tIfS(c:TT)(t u:TS):TS:=fun D σ H=>c σ H fun b H1=>if b=true then t D σ H1 else u D σ H1
theorem ps_if{c:Expr}{a b:List Stmt}{tc:TT}(hc:PT X c tc)(ha:PSs X a t)(hb:PSs X b u):PS X (.If c a b pos) (tIfS tc t u):=by
 intro pins s σ H D I h
 refine wpAny_If (thn (hc pins s σ H _ I h) fun d s1 ⟨H1,I1,q1⟩=>?_)
 cases d with
 | true=>exact ha pins s1 σ H1 D I1 q1
 | false=>exact hb pins s1 σ H1 D I1 q1
noncomputable def tNever:TS:=fun _ _ _=>False
theorem ps_never:PS X st tNever:=fun _ _ _ _ _ _ h=>h.elim
end
noncomputable abbrev TG:=V→St→Hp→(St→Hp→Prop)→Prop
noncomputable abbrev TGs:=List V→St→Hp→(St→Hp→Prop)→Prop
noncomputable def PG(X:Cx)(target:Expr)(t:TG):Prop:=
 ∀(pins:List (Addr×Obj)) (s:Shared) (σ:St) (H:Hp) (v:V) (u:Value) (Q:St→Hp→Prop),Inv X pins σ H s→RelV v u→t v σ H Q→
   wpAny (model X.prog X.w) X.A (assign target X.env u) (fun _ s'=>∃σ' H',Inv X pins σ' H' s'∧Q σ' H') X.xe s
noncomputable def PGs(X:Cx)(ts:List Expr)(t:TGs):Prop:=
 ∀(pins:List (Addr×Obj)) (s:Shared) (σ:St) (H:Hp) (vs:List V) (us:List Value) (Q:St→Hp→Prop),Inv X pins σ H s→Vals vs us→t vs σ H Q→
   wpAny (model X.prog X.w) X.A (assignInOrder ((assignEach ts X.env).map (·.2)) us) (fun _ s'=>∃σ' H',Inv X pins σ' H' s'∧Q σ' H') X.xe s
noncomputable abbrev TSet:=V→V→V→Hp→(Hp→Prop)→Prop
noncomputable def PSet(X:Cx)(t:TSet):Prop:=
 ∀(pins:List (Addr×Obj)) (s:Shared) (σ:St) (H:Hp) (o i v:V) (ov iv u:Value) (Q:Hp→Prop),Inv X pins σ H s→RelV o ov→RelV i iv→RelV v u→t o i v H Q→
   wpAny (model X.prog X.w) X.A (setItem ov iv u) (fun _ s'=>∃H',Inv X pins σ H' s'∧Q H') X.xe s
noncomputable abbrev TIp:=V→V→Hp→VK→Prop
noncomputable def PIp(X:Cx)(op:Operator)(t:TIp):Prop:=
 ∀(pins:List (Addr×Obj)) (s:Shared) (σ:St) (H:Hp) (x y:V) (v u:Value) (Q:VK),Inv X pins σ H s→RelV x v→RelV y u→t x y H Q→
   wpAny (model X.prog X.w) X.A (inplaceOp op v u) (EP X pins σ Q) X.xe s
section
variable {X:Cx} {pos:Pos}
noncomputable def gName(i:Nat):TG:=fun v σ H Q=>Q (σ.set i (some v)) H
theorem pg_name{i:Nat}{x:Str}(hN:X.N.Nodup)(hi:X.N[i]?=some x)(hx:Loc X.env.scope x)(hf:X.fn x=true∨X.env.scope.names.lookup x=some .local:=by first | exact .inl rfl | exact .inr rfl | assumption):PG X (.Name x pos) (gName i):=by
 intro pins s σ H v u Q I r h
 exact wpAny_assign_Name (store_ok I hN hi hx r (fun s' I'=>⟨_,H,I',h⟩) hf)
noncomputable def gNil:TGs:=fun vs σ H Q=>vs=[]∧Q σ H
noncomputable def gCons(t:TG)(u:TGs):TGs:=fun vs σ H Q=>∃v r,vs=v::r∧t v σ H fun σ' H'=>u r σ' H' Q
theorem pgs_nil:PGs X [] gNil:=by
 intro pins s σ H vs us Q I r h
 obtain ⟨e,h⟩:=h
 subst e
 cases r
 exact assignInOrder_nil ⟨σ,H,I,h⟩
theorem pgs_cons{e:Expr}{es:List Expr}{t:TG}{u:TGs}(h1:PG X e t)(h2:PGs X es u)
 (hs:(assignEach (e::es) X.env).map (·.2)=assign e X.env::(assignEach es X.env).map (·.2):=by rfl):PGs X (e::es) (gCons t u):=by
 intro pins s σ H vs us Q I r h
 obtain ⟨v,vr,e1,h⟩:=h
 subst e1
 cases r with
 | cons r rr=>
  rw [hs]
  refine assignInOrder_cons (thn (h1 pins s σ H _ _ _ I r h) fun _ s1 ⟨σ1,H1,I1,q1⟩=>?_)
  exact h2 pins s1 σ1 H1 _ _ Q I1 rr q1
noncomputable def gTup(K:PySem.W.Frag)(n:Nat)(t:TGs):TG:=fun v σ H Q=>∃a xs,v= .ref a∧SqT K H a xs∧xs.length=n∧t xs σ H Q
theorem pg_tup{es:List Expr}{k:Nat}{t:TGs}{n:Nat}(hc:X.calm=true)(h:PGs X es t)
 (hn:(assignEach es X.env).length=n:=by rfl) (hst:(assignEach es X.env).findIdx? (·.1)=none:=by rfl):PG X (.Tuple es k pos) (gTup X.K n t):=by
 intro pins s σ H v u Q I r hw
 obtain ⟨a,xs,e1,hq,hl,hw⟩:=hw
 subst e1
 cases r
 obtain ⟨its,rv,ht,hz⟩:=I.tuple hq
 refine assign_Tuple_tuple (I.ok.hd hc) ht (by simp [hn,← hl,rv.length]) hst fun h' hx=>?_
 have I1:Inv X pins σ H {s with heap:=h'}:=I.kept (t':=s.toks) fun b o e=>hx b o (Nat.ne_of_lt (Heap.lt_size e)) e
 exact h pins _ σ H xs _ Q I1 (by simpa using rv) hw
noncomputable def gSub(to ti:TE)(t:TSet):TG:=fun v σ H Q=>to σ H fun o H1=>ti σ H1 fun i H2=>t o i v H2 fun H3=>Q σ H3
theorem pg_sub{o i:Expr}{to ti:TE}{t:TSet}(ho:PE X o to)(hi:PE X i ti)(hs:PSet X t)
 (ha:∀v,assign (.Subscript o i pos) X.env v=(do
  let ov ← holding [v] (eval o X.env)
  let iv ← holding [v,ov] (eval i X.env)
  standAt pos
  holding [v,ov,iv] (setItem ov iv v)
  release [v,ov,iv] []):=by intro _;rfl):PG X (.Subscript o i pos) (gSub to ti t):=by
 intro pins s σ H v u Q I r h
 rw [ha]
 refine wpAny_bind (wpAny_holding (thn (ho pins s σ H _ I h) fun ov s1 ⟨x,H1,I1,r1,q1⟩=>?_))
 refine wpAny_bind (wpAny_holding (thn (hi pins s1 σ H1 _ I1 q1) fun iv s2 ⟨y,H2,I2,r2,q2⟩=>?_))
 refine wpAny_bind (wpAny_standAt (wpAny_bind (wpAny_holding (thn (hs pins s2 σ H2 x y v ov iv u _ I2 r1 r2 r q2) fun _ s3 ⟨H3,I3,q3⟩=>?_))))
 exact wpAny_release ⟨σ,H3,I3,q3⟩
noncomputable def tAsg(te:TE)(g:TG):TS:=fun D σ H=>te σ H fun x H1=>g x σ H1 D.nx
theorem ps_asg{tg e:Expr}{te:TE}{g:TG}(he:PE X e te)(hg:PG X tg g)(hs:swapsWithSole [tg] e pos.line X.env=pure false:=by rfl)(hw:swappedStores [tg] e X.env=pure none:=by rfl)
 (h1:(assignEach [tg] X.env).map (·.2)=[assign tg X.env]:=by rfl):PS X (.Assign [tg] e pos) (tAsg te g):=by
 intro pins s σ H D I h
 refine wpAny_Assign_stores (thn (he pins s σ H _ I h) fun v s1 ⟨x,H1,I1,r1,q1⟩=>?_) hs hw
 rw [h1]
 exact thn (hg pins s1 σ H1 x v _ I1 r1 q1) fun _ s2 q=>q
theorem ps_set{i:Nat}{x:Str}{e:Expr}{te:TE}{pos':Pos}(hN:X.N.Nodup)(hi:X.N[i]?=some x)(hx:Loc X.env.scope x)(he:PE X e te)(hs:swapsWith e (some (.Name x pos')) pos.line X.env=pure false:=by rfl)(hf:X.fn x=true∨X.env.scope.names.lookup x=some .local:=by first | exact .inl rfl | exact .inr rfl | assumption):
 PS X (.Assign [.Name x pos'] e pos) (tAsg te (gName i)):=by
 intro pins s σ H D I h
 refine wpAny_Assign_Name (thn (he pins s σ H _ I h) fun v s1 ⟨y,H1,I1,r1,q1⟩=>?_) hs
 exact store_ok I1 hN hi hx r1 (fun s2 I2=>⟨_,H1,I2,q1⟩) hf
noncomputable def tPar(i j:Nat)(ta:TA):TS:=fun D σ H=>ta σ H fun vs H1=>∃v w,vs=[v,w]∧D.nx ((σ.set i (some v)).set j (some w)) H1
noncomputable def tAug(i:Nat)(te:TE)(ti:TIp):TS:=fun D σ H=>∃x,σ[i]?=some (some x)∧te σ H fun y H1=>ti x y H1 fun z H2=>D.nx (σ.set i (some z)) H2
theorem ps_aug{i:Nat}{x:Str}{e:Expr}{te:TE}{op:Operator}{ti:TIp}{pos':Pos}(hN:X.N.Nodup)(hi:X.N[i]?=some x)(hx:Loc X.env.scope x)(he:PE X e te)(ho:PIp X op ti)(hf:X.fn x=true∨X.env.scope.names.lookup x=some .local:=by first | exact .inl rfl | exact .inr rfl | assumption):
 PS X (.AugAssign (.Name x pos') op e pos) (tAug i te ti):=by
 intro pins s σ H D I h
 obtain ⟨v,e1,h⟩:=h
 obtain ⟨m,hn,hl⟩:=I.loc
 have vis:Vis X.env.scope x:=by rcases hx with k | k;exact .inl k;exact .inr (.inl k)
 obtain ⟨u,r,l⟩:=hl i x v hi e1 vis
 refine wpAny_AugAssign_Name ?_
 have go:wpAny (model X.prog X.w) X.A (eval e X.env) (fun w s₂=>wpAny (model X.prog X.w) X.A (inplaceOp op u w) (fun r s₃=>wpAny (model X.prog X.w) X.A (storeName X.env x r) (fun _=>SP X pins D .next) X.xe s₃) X.xe s₂) X.xe s:=by
  refine thn (he pins s σ H _ I h) fun w s1 ⟨y,H1,I1,r1,q1⟩=>?_
  refine thn (ho pins s1 σ H1 v y u w _ I1 r r1 q1) fun z s2 ⟨zv,H2,I2,r2,q2⟩=>?_
  exact store_ok I2 hN hi hx r2 (fun s3 I3=>⟨_,H2,I3,q2⟩) hf
 rcases l with ⟨hk,hm⟩ | ⟨hk,c,hc,hcell⟩
 · exact wpAny_loadName_local I.ok.kind hk hn hm go
 · rcases hk with hk | hk
   · exact wpAny_loadName_cell I.ok.kind hk hc hcell go
   · rcases hx with k | k
     · have:X.env.scope.names.lookup x=some .free:=hk
       rw [k]at this;cases this
     · have:X.env.scope.names.lookup x=some .free:=hk
       rw [k]at this;cases this
noncomputable def tAugS(to ti te:TE)(tget:V→V→Hp→VK→Prop)(tip:TIp)(tset:TSet):TS:=fun D σ H=>to σ H fun o H1=>ti σ H1 fun i H2=>tget o i H2 fun x H3=>te σ H3 fun y H4=>tip x y H4 fun z H5=>tset o i z H5 fun H6=>D.nx σ H6
noncomputable def PGet(X:Cx)(t:V→V→Hp→VK→Prop):Prop:=
 ∀(pins:List (Addr×Obj)) (s:Shared) (σ:St) (H:Hp) (o i:V) (ov iv:Value) (Q:VK),Inv X pins σ H s→RelV o ov→RelV i iv→t o i H Q→
   wpAny (model X.prog X.w) X.A (getItem ov iv) (EP X pins σ Q) X.xe s
theorem ps_augS{o i e:Expr}{to ti te:TE}{tget:V→V→Hp→VK→Prop}{tip:TIp}{tset:TSet}{op:Operator}{tpos:Pos}(ho:PE X o to)(hi:PE X i ti)(hg:PGet X tget)(he:PE X e te)(hp:PIp X op tip)(hs:PSet X tset)
 (ha:∀ov iv new,augStore i ov iv new=(do holding [new,ov,iv] (setItem ov iv new);release [new,ov,iv] [];pure .next):=by intros;rfl):PS X (.AugAssign (.Subscript o i tpos) op e pos) (tAugS to ti te tget tip tset):=by
 intro pins s σ H D I h
 refine wpAny_AugAssign_SubscriptAny (thn (ho pins s σ H _ I h) fun ov s1 ⟨x1,H1,I1,r1,q1⟩=>?_) ha
 refine thn (hi pins s1 σ H1 _ I1 q1) fun iv s2 ⟨x2,H2,I2,r2,q2⟩=>?_
 refine thn (hg pins s2 σ H2 x1 x2 ov iv _ I2 r1 r2 q2) fun old s3 ⟨x3,H3,I3,r3,q3⟩=>?_
 refine thn (he pins s3 σ H3 _ I3 q3) fun v s4 ⟨x4,H4,I4,r4,q4⟩=>?_
 refine thn (hp pins s4 σ H4 x3 x4 old v _ I4 r3 r4 q4) fun new s5 ⟨x5,H5,I5,r5,q5⟩=>?_
 exact thn (hs pins s5 σ H5 x1 x2 x5 ov iv new _ I5 r1 r2 r5 q5) fun _ s6 ⟨H6,I6,q6⟩=>⟨σ,H6,I6,q6⟩
noncomputable def ipI(f:Int→Int→Int):TIp:=fun x y H Q=>∃i j,x= .int i∧y= .int j∧Q (.int (f i j)) H
theorem ip_add:PIp X .Add (ipI fun i j=>i+j):=by
 intro pins s σ H x y v u Q I r1 r2 h
 obtain ⟨i,j,e1,e2,q⟩:=h
 subst e1;subst e2
 obtain ⟨t,rfl⟩:=r1
 obtain ⟨t',rfl⟩:=r2
 exact iadd_int ⟨.int _,H,I.tok _,⟨_,rfl⟩,q⟩
end
structure It where
 go:Nat→Hp→Prop
 yld:Nat→Hp→V→Hp→Prop
 stop:Nat→Hp→Prop
noncomputable def FpOk(X:Cx)(pins:List (Addr×Obj))(H:Hp)(b:Addr):Prop:=
 H b=none∧b≠X.env.locals∧b∉X.fs∧(b∈X.ex∨X.s₀.heap.objs.size≤b)∧(∀x c,X.env.cells.lookup x=some c→c≠b)∧∀p∈X.pn++pins,p.1≠b
theorem Inv.fpOk{X:Cx}{pins:List (Addr×Obj)}{σ:St}{H H':Hp}{s:Shared}{b:Addr}(I:Inv X pins σ H s)(hb:s.heap.objs.size≤b)(hn:H' b=none):FpOk X pins H' b:=by
 refine ⟨hn,Nat.ne_of_gt (Nat.lt_of_lt_of_le I.lt hb),I.nofs hb,.inr (Nat.le_trans I.sz hb),fun x c e z=>?_,fun p hp z=>?_⟩
 · obtain ⟨v,q⟩:=I.cell x c e
   exact absurd (Nat.lt_of_lt_of_le q.lt (by rw [z];exact hb)) (Nat.lt_irrefl _)
 · exact absurd (Nat.lt_of_lt_of_le (Heap.lt_size (I.pin p hp).1) (by rw [z];exact hb)) (Nat.lt_irrefl _)
structure Turn(P:Program)(w:World)(K:PySem.W.Frag)(tg:Expr)(J:It)(fp:List Addr)(it:Addr)(tn:Nat→Heap→Prop):Prop where
 mem:it∈fp
 obj:∀i h,tn i h→∀b∈fp,∃o,h.get? b=some o∧∀v,o.data≠ .cell v
 keep:∀i h h',tn i h→(∀b∈fp,∀o,h.get? b=some o→h'.get? b=some o)→tn i h'
 item:∀(X:Cx),X.prog=P→X.w=w→X.K=K→X.calm=true→∀(i:Nat) (pins:List (Addr×Obj)) (s:Shared) (σ:St) (H:Hp) (E:Value→Shared→Prop),Inv X pins σ H s→(∀b∈fp,FpOk X pins H b)→tn i s.heap→J.go i H→
  wpAny (model P w) X.A (pyNext (.ref it)) (fun r s1=>∃u,r=some u∧
   wpAny (model P w) X.A (letOwnedTupleGo tg (.ref it) u) (fun _ s2=>∃x H',Inv X pins σ H' s2∧RelV x u∧J.yld i H x H'∧tn (i+1) s2.heap∧∀b∈fp,H' b=none) E s1) E s
 done:∀(X:Cx),X.prog=P→X.w=w→X.K=K→X.calm=true→∀(i:Nat) (pins:List (Addr×Obj)) (s:Shared) (σ:St) (H:Hp) (E:Value→Shared→Prop),Inv X pins σ H s→(∀b∈fp,FpOk X pins H b)→tn i s.heap→J.stop i H→
   wpAny (model P w) X.A (pyNext (.ref it)) (fun r s1=>r=none∧Inv X pins σ H s1) E s
 self:∀(A:Around) (i:Nat) (s:Shared) (Q:Value→Shared→Prop) (E:Value→Shared→Prop),tn i s.heap→Q (.ref it) s→wpAny (model P w) A (pyIter (.ref it)) Q E s
noncomputable abbrev TI:=St→Hp→(It→Hp→Prop)→Prop
noncomputable def PIE(X:Cx)(pins:List (Addr×Obj))(σ:St)(tg:Expr)(R:It→Hp→Prop)(itv:Value)(s2:Shared):Prop:=
 ∃(it:Addr) (fp:List Addr) (tn:Nat→Heap→Prop) (J:It) (H':Hp),itv= .ref it∧Inv X pins σ H' s2∧Turn X.prog X.w X.K tg J fp it tn∧tn 0 s2.heap∧(∀b∈fp,FpOk X pins H' b)∧R J H'
noncomputable def PI(X:Cx)(tg iter:Expr)(wi:TI):Prop:=
 ∀(pins:List (Addr×Obj)) (s:Shared) (σ:St) (H:Hp) (R:It→Hp→Prop),Inv X pins σ H s→wi σ H R→
   wpAny (model X.prog X.w) X.A (eval iter X.env) (fun v s1=>wpAny (model X.prog X.w) X.A (pyIter v) (PIE X pins σ tg R) X.xe s1) X.xe s
theorem go_of{M:Model}{A:Around}{E:Value→Shared→Prop}{s:Shared}{tg:Expr}{it:Addr}{u:Value}{o:Obj}{n:String}{vs:Array Value}{Q:Unit→Shared→Prop}(ho:s.heap.get? it=some o)(hc:o.cls= .type n)(hd:o.data= .fields vs)
 (hn:["enumerate","zip","dict_itemiterator","dict_reverseitemiterator","odict_iterator","itertools.zip_longest","itertools.pairwise"].contains n=false) (hQ:Q () s):wpAny M A (letOwnedTupleGo tg (.ref it) u) Q E s:=by
 unfold letOwnedTupleGo
 cases tg <;> first
  | exact wpAny_pure hQ
  | (cases u <;> first
   | exact wpAny_pure hQ
   | (refine wpAny_bind (wpAny_load ho ?_)
      rw [hc,hd]
      show wpAny M A (if (["enumerate","zip","dict_itemiterator","dict_reverseitemiterator","odict_iterator","itertools.zip_longest","itertools.pairwise"].contains n && vs[0]?==some (rawInt _))=true then _ else _) Q E s
      rw [if_neg (by intro h;rw [hn,Bool.false_and]at h;cases h)]
      exact wpAny_pure hQ))
noncomputable def Itl(K:PySem.W.Frag)(a:Addr):It:=
 ⟨fun i H=>∃xs x,SqL K H a xs∧xs[i]?=some x,fun i H x H'=>H'=H∧∀xs,SqL K H a xs→xs[i]?=some x,fun i H=>∃xs,SqL K H a xs∧xs.length≤i⟩
noncomputable def Itt(K:PySem.W.Frag)(a:Addr):It:=
 ⟨fun i H=>∃xs x,SqT K H a xs∧xs[i]?=some x,fun i H x H'=>H'=H∧∀xs,SqT K H a xs→xs[i]?=some x,fun i H=>∃xs,SqT K H a xs∧xs.length≤i⟩
noncomputable def Itr(lo:Int)(n:Nat):It:=⟨fun i _=>i < n,fun i H x H'=>H'=H∧x= .int (lo+i),fun i _=>n≤i⟩
theorem turn_list{P:Program}{w:World}{K:PySem.W.Frag}{tg:Expr}(a it:Addr):Turn P w K tg (Itl K a) [it] it (fun i h=>h.IsListIter it a i) where
 mem:=by simp
 obj:=fun i h st b hb=>by
  have e:b=it:=by simpa using hb
  subst e
  obtain ⟨o,e,c,d⟩:=st
  exact ⟨o,e,fun v z=>by rw [d]at z;cases z⟩
 keep:=fun i h h' st k=>st.at fun o e=>k it (by simp) o e
 item:=by
  intro X hP hw hK hc i pins s σ H E I hf st hg
  subst hP hw hK
  obtain ⟨xs,x,hq,hx⟩:=hg
  obtain ⟨its,rv,p,hz⟩:=I.list hq
  obtain ⟨u,hu,ru⟩:=rv.get hx
  obtain ⟨f0,f1,f2,f3,f4,f5⟩:=hf it (by simp)
  refine wpAny_pyNext_list_item st p.isList (x:=u) (by simpa using hu) fun h' st' sb=>?_
  have I1:Inv X pins σ H {s with heap:=h'}:=I.turned (t':=s.toks) (fun b o hb e=>(sb.2 b hb).trans e) f0 f1 f3 f4 f5
  obtain ⟨o,e,c,d⟩:=id st'
  exact ⟨u,rfl,go_of (s:={s with heap:=h'}) e c d (by decide) ⟨x,H,I1,ru,⟨rfl,fun ys hy=>by rw [I.list_inj hy hq];exact hx⟩,st',fun b hb=>(hf b hb).1⟩⟩
 done:=by
   intro X hP hw hK hc i pins s σ H E I hf st hg
   subst hP hw hK
   obtain ⟨xs,hq,hx⟩:=hg
   obtain ⟨its,rv,p,hz⟩:=I.list hq
   obtain ⟨f0,f1,f2,f3,f4,f5⟩:=hf it (by simp)
   have hl:=rv.length
   exact wpAny_pyNext_list_end (I.ok.hd hc) st p.isList (by simp;omega) fun h' eb=>⟨rfl,I.turned (t':=s.toks) (fun b o hb e=>eb b o hb e) f0 f1 f3 f4 f5⟩
 self:=fun _ _ _ _ _ st h=>wpAny_pyIter_listiter st h
theorem turn_range{P:Program}{w:World}{K:PySem.W.Frag}{tg:Expr}(it:Addr)(lo:Int)(n:Nat):Turn P w K tg (Itr lo n) [it] it (fun i h=>IsRangeIter h it (lo+(i:Nat) * 1) ((n:Int) - (i:Nat)) 1) where
 mem:=by simp
 obj:=fun i h st b hb=>by
  have e:b=it:=by simpa using hb
  subst e
  exact ⟨_,st,fun v z=>by
   have z':Data.fields _=Data.cell v:=z
   cases z'⟩
 keep:=fun i h h' st k=>k it (by simp) _ st
 item:=by
  intro X hP hw hK hc i pins s σ H E I hf st hg
  subst hP hw hK
  obtain ⟨f0,f1,f2,f3,f4,f5⟩:=hf it (by simp)
  have W:=Walks.range (prog:=X.prog) (w:=X.w) (I.ok.hd hc) it lo 1 n
  refine W.item i s _ _ hg st fun v h' tk hv st' kk=>?_
  obtain ⟨t,rfl⟩:=hv
  have I1:Inv X pins σ H {s with heap:=h',toks:=tk}:=I.turned (fun b o hb e=>kk b o (by simpa using hb) e) f0 f1 f3 f4 f5
  refine ⟨_,rfl,go_of (s:={s with heap:=h',toks:=tk}) (n:="range_iterator") st' rfl rfl (by decide) ⟨.int (lo+i),H,I1,⟨t,?_⟩,⟨rfl,rfl⟩,st',fun b hb=>(hf b hb).1⟩⟩
  rw [Int.mul_one]
 done:=by
   intro X hP hw hK hc i pins s σ H E I hf st hg
   subst hP hw hK
   obtain ⟨f0,f1,f2,f3,f4,f5⟩:=hf it (by simp)
   exact wpAny_pyNext_range_end (I.ok.hd hc) st (by have:n≤i:=hg;omega) fun h' eb=>⟨rfl,I.turned (t':=s.toks) (fun b o hb e=>eb b o hb e) f0 f1 f3 f4 f5⟩
 self:=fun _ _ _ _ _ st h=>wpAny_pyIter_rangeiter st h
end L2
namespace L2
section
variable {X:Cx} {tg:Expr}
noncomputable def iList(K:PySem.W.Frag)(tl:TE):TI:=fun σ H R=>tl σ H fun x H1=>∃a,x= .ref a∧(∃xs,SqL K H1 a xs)∧R (Itl K a) H1
noncomputable def iTup(K:PySem.W.Frag)(tl:TE):TI:=fun σ H R=>tl σ H fun x H1=>∃a,x= .ref a∧(∃xs,SqT K H1 a xs)∧R (Itt K a) H1
theorem pi_list{l:Expr}{tl:TE}(hl:PE X l tl):PI X tg l (iList X.K tl):=by
 intro pins s σ H R I h
 refine thn (hl pins s σ H _ I h) fun v s1 ⟨x,H1,I1,r1,q1⟩=>?_
 obtain ⟨a,e,⟨xs,hq⟩,q⟩:=q1
 subst e
 cases r1
 obtain ⟨its,rv,p,hz⟩:=I1.list hq
 refine wpAny_pyIter_list p.isList ?_
 refine ⟨s1.heap.objs.size,[s1.heap.objs.size],_,_,H1,rfl,I1.kept (t':=s1.toks) fun b o e=>Heap.get?_push_of_some _ e,turn_list a _,⟨_,Heap.get?_push_size _ rfl,rfl,rfl⟩,fun b hb=>?_,q⟩
 have e:b=s1.heap.objs.size:=by simpa using hb
 subst e
 exact I1.fpOk (Nat.le_refl _) (I1.hok.fresh (Nat.le_refl _))
theorem range_it{pins:List (Addr×Obj)}{σ:St}{H:Hp}{s:Shared}{R:It→Hp→Prop}{E:Value→Shared→Prop}{lo hi:Int}{t u v:Tok}{tk:Nat}(I:Inv X pins σ H s)(h1:-(2 ^ 62)≤lo)(h2:lo < 2 ^ 62)(h3:-(2 ^ 62)≤hi)(h4:hi < 2 ^ 62)
 (q:R (Itr lo (hi - lo).toNat) H):wpAny (model X.prog X.w) X.A (pyIter (.ref s.heap.objs.size)) (PIE X pins σ tg R) E {s with heap:=s.heap.push {cls:= .type "range",data:= .fields #[.int lo t,.int hi u,.int 1 v]},toks:=tk}:=by
 refine wpAny_pyIter_range (IsRange.new ..) (small_one h1 h2 h3 h4) ?_
 have I1:Inv X pins σ H {s with heap:=s.heap.push {cls:= .type "range",data:= .fields #[.int lo t,.int hi u,.int 1 v]},toks:=tk}:=I.kept fun b o e=>Heap.get?_push_of_some _ e
 refine ⟨(s.heap.push {cls:= .type "range",data:= .fields #[.int lo t,.int hi u,.int 1 v]}).objs.size,[(s.heap.push {cls:= .type "range",data:= .fields #[.int lo t,.int hi u,.int 1 v]}).objs.size],_,_,H,rfl,
  I1.kept (t':=tk) fun b o e=>Heap.get?_push_of_some _ e,turn_range _ lo (hi - lo).toNat,?_,fun b hb=>?_,q⟩
 · have e1:lo+((0:Nat):Int) * 1=lo:=by simp
   have e2:(((hi - lo).toNat:Nat):Int) - ((0:Nat):Int)=Builtin.Range.rangeSize lo hi 1:=by rw [rangeSize_one];split <;> omega
   show IsRangeIter _ _ (lo+((0:Nat):Int) * 1) ((((hi - lo).toNat:Nat):Int) - ((0:Nat):Int)) 1
   rw [e1,e2]
   exact Heap.get?_push_size _ rfl
 · have e:b=(s.heap.push {cls:= .type "range",data:= .fields #[.int lo t,.int hi u,.int 1 v]}).objs.size:=by simpa using hb
   subst e
   exact I1.fpOk (Nat.le_refl _) (I1.hok.fresh (Nat.le_refl _))
noncomputable def iRng1(ta:TA):TI:=fun σ H R=>ta σ H fun vs H1=>∃j:Int,vs=[.int j]∧-(2 ^ 62)≤j∧j < 2 ^ 62∧R (Itr 0 j.toNat) H1
noncomputable def iRng2(ta:TA):TI:=fun σ H R=>ta σ H fun vs H1=>∃i j:Int,vs=[.int i,.int j]∧(-(2 ^ 62)≤i∧i < 2 ^ 62∧-(2 ^ 62)≤j∧j < 2 ^ 62)∧R (Itr i (j - i).toNat) H1
theorem pi_range1{a:Expr}{ta:TA}{p pos:Pos}(hg:Gl X "range")(hm:X.mg "range"=none)(ha:PA X [a] ta)(hs:starEach [a] X.env=[(false,eval a X.env)]:=by rfl):PI X tg (.Call (.Name "range" p) [a] [] pos) (iRng1 ta):=by
 intro pins s σ H R I h
 refine Call_ (ld_blt I hg hm boot_range (PyProof.Rows.callWith_type1 (thn (ha pos pins s σ H _ I h) fun us s1 ⟨vs,H1,I1,r1,q1⟩=>?_) hs rfl))
 obtain ⟨j,e,q1,q2,q⟩:=q1
 subst e
 cases r1 with
 | cons r rr=>
  cases rr
  obtain ⟨t,rfl⟩:=r
  exact call_range_1 (range_it I1 (by omega) (by omega) q1 q2 (by simpa using q))
noncomputable def tFor(wi:TI)(g:TG)(tb:TS):TS:=fun D σ H=>wi σ H fun J H1=>∃W:Nat→Nat→St→Hp→Prop,(∃m,W 0 m σ H1)∧∀i m σ H,W i m σ H→
 (J.stop i H∧D.nx σ H)∨(J.go i H∧∃N:St→Hp→Prop,(∀σ' H',N σ' H'→∃m',m' < m∧W (i+1) m' σ' H')∧∀x H',J.yld i H x H'→g x σ H' fun σ2 H2=>tb {D with nx:=N,ct:=N,bk:=D.nx} σ2 H2)
noncomputable def pinsAt(fp:List Addr)(h:Heap):List (Addr×Obj):=fp.filterMap fun b=>(h.get? b).map fun o=>(b,o)
theorem mem_pinsAt{fp:List Addr}{h:Heap}{b:Addr}{o:Obj}(hb:b∈fp)(e:h.get? b=some o):(b,o)∈pinsAt fp h:=List.mem_filterMap.mpr ⟨b,hb,by rw [e];rfl⟩
theorem of_pinsAt{fp:List Addr}{h:Heap}{p:Addr×Obj}(hp:p∈pinsAt fp h):p.1∈fp∧h.get? p.1=some p.2:=by
 obtain ⟨b,hb,e⟩:=List.mem_filterMap.mp hp
 cases q:h.get? b with
 | none=>rw [q]at e;cases e
 | some o=>
  rw [q]at e
  have e':(b,o)=p:=Option.some.inj e
  subst e'
  exact ⟨hb,q⟩
theorem Inv.pinned{pins:List (Addr×Obj)}{σ:St}{H:Hp}{s:Shared}{fp:List Addr}(I:Inv X pins σ H s)(hf:∀b∈fp,FpOk X pins H b)(ho:∀b∈fp,∃o,s.heap.get? b=some o∧∀v,o.data≠ .cell v):Inv X (pins++pinsAt fp s.heap) σ H s:=
 I.pins_of fun p hp=>(List.mem_append.mp hp).elim (fun z=>I.pin p (List.mem_append_right _ z)) fun z=>by
  obtain ⟨hb,e⟩:=of_pinsAt z
  obtain ⟨f0,f1,f2,_⟩:=hf p.1 hb
  obtain ⟨o,e',d⟩:=ho p.1 hb
  rw [e]at e';cases e'
  exact ⟨e,f0,f1,f2,d⟩
theorem Inv.unpinned{pins pl:List (Addr×Obj)}{σ:St}{H:Hp}{s:Shared}(I:Inv X (pins++pl) σ H s):Inv X pins σ H s:=I.pins_of fun p hp=>I.pin p (List.mem_append_right _ (List.mem_append_left _ hp))
theorem ps_for{iter:Expr}{body:List Stmt}{wi:TI}{g:TG}{tb:TS}{pos:Pos}(hp:PassesOwn (model X.prog X.w) X.A X.env X.xe)(hc:X.calm=true)(hi:PI X tg iter wi)(hg:PG X tg g)(hb:PSs X body tb)
 (hs:∀x,foldedSetIterable iter X.env x=pure x:=by intro _;rfl):PS X (.For tg iter body [] pos) (tFor wi g tb):=by
 intro pins s σ H D I h
 refine wpAny_For (thn (hi pins s σ H _ I h) fun v s1 h1=>thn h1 fun itv s2 h2=>?_) hs
 obtain ⟨it,fp,tn,J,H2,e,I2,T,st2,f2,W,⟨m0,w0⟩,turn⟩:=h2
 subst e
 have stat:∀{H':Hp},(∀b∈fp,H' b=none)→∀b∈fp,FpOk X pins H' b:=fun hn b hb=>⟨hn b hb,(f2 b hb).2⟩
 refine codeAny_forLoop_any (fun n s'=>∃i σ' H',Inv X pins σ' H' s'∧tn i s'.heap∧(∀b∈fp,H' b=none)∧W i n σ' H') ?_ m0 ⟨0,σ,H2,I2,st2,fun b hb=>(f2 b hb).1,w0⟩
 rintro n s3 ⟨i,σ3,H3,I3,st3,fr3,w3⟩
 rcases turn i n σ3 H3 w3 with ⟨stop,qn⟩ | ⟨go,N,hN,step⟩
 · refine wpAny_passesOwn hp (thn (T.done X rfl rfl rfl hc i pins s3 σ3 H3 X.xe I3 (stat fr3) st3 stop) fun r s4 ⟨hr,I4⟩=>?_)
   subst hr
   exact wpAny_execs_nil ⟨σ3,H3,I4,qn⟩
 · refine wpAny_passesOwn hp (thn (T.item X rfl rfl rfl hc i pins s3 σ3 H3 X.xe I3 (stat fr3) st3 go) fun r s4 ⟨u,hr,h4⟩=>?_)
   subst hr
   refine wpAny_passesOwn hp (thn h4 fun _ s5 ⟨x,H5,I5,r5,y5,st5,fr5⟩=>?_)
   have I5':=I5.pinned (stat fr5) (T.obj _ _ st5)
   refine wpAny_passesOwn hp (thn (hg _ s5 σ3 H5 x u _ I5' r5 (step x H5 y5)) fun _ s6 ⟨σ6,H6,I6,q6⟩=>?_)
   refine wpAny_passesOwn hp (thn (hb _ s6 σ6 H6 _ I6 q6) fun f s7 q7=>?_)
   have again:∀{σ7:St} {H7:Hp},Inv X (pins++pinsAt fp s5.heap) σ7 H7 s7→N σ7 H7→∃m,m < n∧∃i σ' H',Inv X pins σ' H' s7∧tn i s7.heap∧(∀b∈fp,H' b=none)∧W i m σ' H':=fun {σ7 H7} I7 n7=>by
    obtain ⟨m',hm,w7⟩:=hN σ7 H7 n7
    refine ⟨m',hm,i+1,σ7,H7,I7.unpinned,T.keep _ _ _ st5 fun b hb o e=>(I7.pin (b,o) (List.mem_append_right _ (List.mem_append_right _ (mem_pinsAt hb e)))).1,fun b hb=>?_,w7⟩
    obtain ⟨o,e,d⟩:=T.obj _ _ st5 b hb
    exact (I7.pin (b,o) (List.mem_append_right _ (List.mem_append_right _ (mem_pinsAt hb e)))).2.1
   cases f with
   | next=>obtain ⟨σ7,H7,I7,n7⟩:=q7;exact again I7 n7
   | cont=>obtain ⟨σ7,H7,I7,n7⟩:=q7;exact again I7 n7
   | brk=>obtain ⟨σ7,H7,I7,q7⟩:=q7;exact ⟨σ7,H7,I7.unpinned,q7⟩
   | ret v=>obtain ⟨x7,σ7,H7,I7,r7,q7⟩:=q7;exact ⟨x7,σ7,H7,I7.unpinned,r7,q7⟩
end
theorem for_list{K:PySem.W.Frag}{a:Addr}{xs:List V}{g:TG}{tb:TS}{D:Ends}{σ:St}{H:Hp}(Pv:Nat→St→Hp→Prop)(h0:Pv 0 σ H)(hl:∀i σ H,i≤xs.length→Pv i σ H→SqL K H a xs)
 (hs:∀i x σ H,xs[i]?=some x→Pv i σ H→g x σ H fun σ2 H2=>tb {D with nx:=Pv (i+1),ct:=Pv (i+1),bk:=D.nx} σ2 H2) (hd:∀σ H,Pv xs.length σ H→D.nx σ H):
 ∃W:Nat→Nat→St→Hp→Prop,(∃m,W 0 m σ H)∧∀i m σ H,W i m σ H→
  ((Itl K a).stop i H∧D.nx σ H)∨((Itl K a).go i H∧∃N:St→Hp→Prop,(∀σ' H',N σ' H'→∃m',m' < m∧W (i+1) m' σ' H')∧∀x H',(Itl K a).yld i H x H'→g x σ H' fun σ2 H2=>tb {D with nx:=N,ct:=N,bk:=D.nx} σ2 H2):=by
 refine ⟨fun i m σ H=>m=xs.length - i∧i≤xs.length∧Pv i σ H,⟨xs.length,by simp,Nat.zero_le _,h0⟩,?_⟩
 rintro i m σ H ⟨rfl,hi,p⟩
 have q:=hl i σ H hi p
 by_cases hlt:i < xs.length
 · refine .inr ⟨⟨xs,xs[i],q,by simp [hlt]⟩,Pv (i+1),fun σ' H' p'=>⟨xs.length - (i+1),by omega,rfl,hlt,p'⟩,fun x H' y=>?_⟩
   obtain ⟨e,y⟩:=y
   subst e
   exact hs i x σ _ (y xs q) p
 · have e:i=xs.length:=by omega
   subst e
   exact .inl ⟨⟨xs,q,Nat.le_refl _⟩,hd σ H p⟩
theorem for_range{lo:Int}{n:Nat}{g:TG}{tb:TS}{D:Ends}{σ:St}{H:Hp}(Pv:Nat→St→Hp→Prop)(h0:Pv 0 σ H)
 (hs:∀i σ H,i < n→Pv i σ H→g (.int (lo+i)) σ H fun σ2 H2=>tb {D with nx:=Pv (i+1),ct:=Pv (i+1),bk:=D.nx} σ2 H2) (hd:∀σ H,Pv n σ H→D.nx σ H):
 ∃W:Nat→Nat→St→Hp→Prop,(∃m,W 0 m σ H)∧∀i m σ H,W i m σ H→
  ((Itr lo n).stop i H∧D.nx σ H)∨((Itr lo n).go i H∧∃N:St→Hp→Prop,(∀σ' H',N σ' H'→∃m',m' < m∧W (i+1) m' σ' H')∧∀x H',(Itr lo n).yld i H x H'→g x σ H' fun σ2 H2=>tb {D with nx:=N,ct:=N,bk:=D.nx} σ2 H2):=by
 refine ⟨fun i m σ H=>m=n - i∧i≤n∧Pv i σ H,⟨n,by simp,Nat.zero_le _,h0⟩,?_⟩
 rintro i m σ H ⟨rfl,hi,p⟩
 by_cases hlt:i < n
 · refine .inr ⟨hlt,Pv (i+1),fun σ' H' p'=>⟨n - (i+1),by omega,rfl,hlt,p'⟩,fun x H' y=>?_⟩
   obtain ⟨e,y⟩:=y
   subst e y
   exact hs i σ _ hlt p
 · have e:i=n:=by omega
   subst e
   exact .inl ⟨Nat.le_refl _,hd σ H p⟩
end L2
namespace L2
noncomputable abbrev R2:=V→V→Hp→VK→Prop
noncomputable def OpR(X:Cx)(f:Value→Value→Sem Value)(r:R2):Prop:=
 ∀(pins:List (Addr×Obj)) (s:Shared) (σ:St) (H:Hp) (x y:V) (v u:Value) (Q:VK),Inv X pins σ H s→RelV x v→RelV y u→r x y H Q→
   wpAny (model X.prog X.w) X.A (f v u) (EP X pins σ Q) X.xe s
noncomputable def UnR(X:Cx)(f:Value→Sem Value)(r:V→Hp→VK→Prop):Prop:=
 ∀(pins:List (Addr×Obj)) (s:Shared) (σ:St) (H:Hp) (x:V) (v:Value) (Q:VK),Inv X pins σ H s→RelV x v→r x H Q→
   wpAny (model X.prog X.w) X.A (f v) (EP X pins σ Q) X.xe s
noncomputable def CallR(X:Cx)(f:Value)(r:List V→Hp→VK→Prop):Prop:=
 ∀(pins:List (Addr×Obj)) (s:Shared) (σ:St) (H:Hp) (xs:List V) (us:List Value) (Q:VK),Inv X pins σ H s→Vals xs us→r xs H Q→
   wpAny (model X.prog X.w) X.A (call f us) (EP X pins σ Q) X.xe s
noncomputable def tOp(r:R2)(ta tb:TE):TE:=fun σ H Q=>ta σ H fun x H1=>tb σ H1 fun y H2=>r x y H2 Q
noncomputable def tUn(r:V→Hp→VK→Prop)(ta:TE):TE:=fun σ H Q=>ta σ H fun x H1=>r x H1 Q
noncomputable def rI(C:Int→Int→Prop)(g:Int→Int→V):R2:=fun x y H Q=>∃i j,x= .int i∧y= .int j∧C i j∧Q (g i j) H
noncomputable def rI0(g:Int→Int→V):R2:=fun x y H Q=>∃i j,x= .int i∧y= .int j∧Q (g i j) H
noncomputable def rU(g:Int→V):V→Hp→VK→Prop:=fun x H Q=>∃i,x= .int i∧Q (g i) H
section
variable {X:Cx} {a b c:Expr} {ta tb tc:TE} {pos:Pos}
theorem binT(ha:PE X a ta)(hb:PE X b tb){pins:List (Addr×Obj)}{s:Shared}{σ:St}{H:Hp}{R:V→V→Hp→Prop}(I:Inv X pins σ H s)
 (h:ta σ H fun x H1=>tb σ H1 fun y H2=>R x y H2) {Q:Value→Shared→Prop} {f:Value→Value→Sem Value}
 (hf:∀v u s2 x y H2,Inv X pins σ H2 s2→RelV x v→RelV y u→R x y H2→wpAny (model X.prog X.w) X.A (f v u) Q X.xe s2):
 wpAny (model X.prog X.w) X.A (eval a X.env) (fun v s₁=>wpAny (model X.prog X.w) X.A (eval b X.env) (fun u s₂=>wpAny (model X.prog X.w) X.A (f v u) Q X.xe s₂) X.xe s₁) X.xe s:=by
 refine thn (ha pins s σ H _ I h) fun v s1 ⟨x,H1,I1,r1,q1⟩=>?_
 refine thn (hb pins s1 σ H1 _ I1 q1) fun u s2 ⟨y,H2,I2,r2,q2⟩=>?_
 exact hf v u s2 x y H2 I2 r1 r2 q2
theorem pe_op{op:Operator}{r:R2}(ho:OpR X (binaryOp op) r)(ha:PE X a ta)(hb:PE X b tb):PE X (.BinOp a op b pos) (tOp r ta tb):=by
 intro pins s σ H Q I h
 exact wpAny_BinOp (binT ha hb I h fun v u s2 x y H2 I2 rx ry q=>ho pins s2 σ H2 x y v u Q I2 rx ry q)
theorem pe_un{op:UnaryOp}{r:V→Hp→VK→Prop}(ho:UnR X (unaryOp op) r)(ha:PE X a ta):PE X (.UnaryOp op a pos) (tUn r ta):=by
 intro pins s σ H Q I h
 exact UnaryOp_ (thn (ha pins s σ H _ I h) fun v s1 ⟨x,H1,I1,r1,q1⟩=>ho pins s1 σ H1 x v Q I1 r1 q1)
theorem opI{f:Value→Value→Sem Value}{C:Int→Int→Prop}{g:Int→Int→Int}
 (rule:∀(i j:Int) (t u:Tok) (s:Shared) (Q:Value→Shared→Prop) (E:Value→Shared→Prop),C i j→Q (.int (g i j) s.toks) {s with toks:=s.toks+1}→wpAny (model X.prog X.w) X.A (f (.int i t) (.int j u)) Q E s):
 OpR X f (rI C fun i j=> .int (g i j)):=by
 intro pins s σ H x y v u Q I rx ry h
 obtain ⟨i,j,rfl,rfl,hc,q⟩:=h
 obtain ⟨t,rfl⟩:=rx
 obtain ⟨t',rfl⟩:=ry
 exact rule i j t t' s _ _ hc ⟨.int (g i j),H,I.tok _,⟨_,rfl⟩,q⟩
theorem opI0{f:Value→Value→Sem Value}{g:Int→Int→Int}
 (rule:∀(i j:Int) (t u:Tok) (s:Shared) (Q:Value→Shared→Prop) (E:Value→Shared→Prop),Q (.int (g i j) s.toks) {s with toks:=s.toks+1}→wpAny (model X.prog X.w) X.A (f (.int i t) (.int j u)) Q E s):
 OpR X f (rI0 fun i j=> .int (g i j)):=by
 intro pins s σ H x y v u Q I rx ry h
 obtain ⟨i,j,rfl,rfl,q⟩:=h
 obtain ⟨t,rfl⟩:=rx
 obtain ⟨t',rfl⟩:=ry
 exact rule i j t t' s _ _ ⟨.int (g i j),H,I.tok _,⟨_,rfl⟩,q⟩
theorem opB0{f:Value→Value→Sem Value}{g:Int→Int→Bool}
 (rule:∀(i j:Int) (t u:Tok) (s:Shared) (Q:Value→Shared→Prop) (E:Value→Shared→Prop),Q (.bool (g i j)) s→wpAny (model X.prog X.w) X.A (f (.int i t) (.int j u)) Q E s):
 OpR X f (rI0 fun i j=> .bl (g i j)):=by
 intro pins s σ H x y v u Q I rx ry h
 obtain ⟨i,j,rfl,rfl,q⟩:=h
 obtain ⟨t,rfl⟩:=rx
 obtain ⟨t',rfl⟩:=ry
 exact rule i j t t' s _ _ ⟨.bl (g i j),H,I,rfl,q⟩
noncomputable def CDiv(i j:Int):Prop:=0 < j∧j < 1073741824
noncomputable def CPow(i j:Int):Prop:=0≤j∧j≤1000000∧i.natAbs < 2 ^ 64
noncomputable def CMul(i j:Int):Prop:=(-(2 ^ 64) < i∧i < 2 ^ 64)∨(-(2 ^ 64) < j∧j < 2 ^ 64)
theorem CMul.ok{i j:Int}(h:CMul i j):IntMulOk i j:=by
 rcases h with ⟨h1,h2⟩ | ⟨h1,h2⟩
 · exact .of_left (intBits_le_64 h1 h2)
 · exact .of_right (intBits_le_64 h1 h2)
theorem op_add:OpR X (binaryOp .Add) (rI0 fun i j=> .int (i+j)):=opI0 fun _ _ _ _ _ _ _ q=>add_int q
theorem op_sub:OpR X (binaryOp .Sub) (rI0 fun i j=> .int (i - j)):=opI0 fun _ _ _ _ _ _ _ q=>sub_int q
theorem op_mul:OpR X (binaryOp .Mult) (rI CMul fun i j=> .int (i * j)):=opI fun _ _ _ _ _ _ _ hc q=>mul_int q hc.ok
theorem op_fdiv:OpR X (binaryOp .FloorDiv) (rI CDiv fun i j=> .int (i / j)):=opI fun i j _ _ _ _ _ hc q=>by
 have h1:(0:Int) < j:=hc.1
 have h2:j < 1073741824:=hc.2
 exact floordiv_int (by omega) (by rw [Int.fdiv_eq_ediv_of_nonneg i (by omega)];exact q) (.inl (PyProof.noPylong_small (by omega)))
theorem op_mod:OpR X (binaryOp .Mod) (rI (fun _ j=>0 < j) fun i j=> .int (i % j)):=opI fun i j _ _ _ _ _ hc q=>by
 have h1:(0:Int) < j:=hc
 exact mod_int' (by omega) (by rw [Int.fmod_eq_emod_of_nonneg i (by omega)];exact q)
theorem op_pow:OpR X (binaryOp .Pow) (rI CPow fun i j=> .int (i ^ j.toNat)):=opI fun _ _ _ _ _ _ _ hc q=>pow_int_small hc.1 hc.2.1 hc.2.2 q
theorem unI{f:Value→Sem Value}{g:Int→Int}
 (rule:∀(i:Int) (t:Tok) (s:Shared) (Q:Value→Shared→Prop) (E:Value→Shared→Prop),Q (.int (g i) s.toks) {s with toks:=s.toks+1}→wpAny (model X.prog X.w) X.A (f (.int i t)) Q E s):
 UnR X f (rU fun i=> .int (g i)):=by
 intro pins s σ H x v Q I rx h
 obtain ⟨i,rfl,q⟩:=h
 obtain ⟨t,rfl⟩:=rx
 exact rule i t s _ _ ⟨.int (g i),H,I.tok _,⟨_,rfl⟩,q⟩
theorem un_neg:UnR X (unaryOp .USub) (rU fun i=> .int (-i)):=unI fun _ _ _ _ _ q=>neg_int q
end
noncomputable def scal:V→V→Bool
 | .non,.non=>true | .non,.int _=>true | .int _,.non=>true | .non,.bl _=>true | .bl _,.non=>true | .non,.str _=>true | .str _,.non=>true
 | .int _,.int _=>true | .bl _,.bl _=>true | .str _,.str _=>true | .byt _,.byt _=>true
 | .int _,.str _=>true | .str _,.int _=>true | .bl _,.str _=>true | .str _,.bl _=>true
 | _,_=>false
noncomputable def rEq:R2:=fun x y H Q=>scal x y=true∧Q (.bl (decide (x=y))) H
noncomputable def rNe:R2:=fun x y H Q=>scal x y=true∧Q (.bl (!decide (x=y))) H
theorem dec_int{i j:Int}:decide (V.int i=V.int j)=(i==j):=by
 rw [Bool.eq_iff_iff]
 simp
theorem dec_bl{i j:Bool}:decide (V.bl i=V.bl j)=(i==j):=by
 rw [Bool.eq_iff_iff]
 simp
theorem dec_str{i j:Str}:decide (V.str i=V.str j)=(i==j):=by
 rw [Bool.eq_iff_iff]
 simp
theorem dec_byt{i j:Array UInt8}:decide (V.byt i=V.byt j)=(i.toList==j.toList):=by
 rw [Bool.eq_iff_iff]
 cases i
 cases j
 simp
section
variable {X:Cx} {a b c:Expr} {ta tb tc:TE} {pos:Pos}
theorem fin_bl{pins:List (Addr×Obj)}{σ:St}{H:Hp}{s:Shared}{Q:VK}{k k':Bool}(I:Inv X pins σ H s)(q:Q (.bl k) H)(e:k=k'):EP X pins σ Q (.bool k') s:=by
 subst e
 exact ⟨.bl k,H,I,rfl,q⟩
theorem op_eq:OpR X (compareOp .Eq) rEq:=by
 intro pins s σ H x y v u Q I rx ry h
 obtain ⟨hs,q⟩:=h
 cases x with
 | non=>
  cases rx
  cases y with
  | non=>cases ry;exact PySem.EqNone.eq_none_none (fin_bl I q (by simp))
  | bl j=>cases ry;exact PySem.EqNone.eq_none_bool (fin_bl I q (by simp))
  | int j=>obtain ⟨t',rfl⟩:=ry;exact PySem.EqNone.eq_none_int (fin_bl I q (by simp))
  | str j=>obtain ⟨t',rfl⟩:=ry;exact PySem.EqNone.eq_none_str (fin_bl I q (by simp))
  | _=>exact absurd (show false=true from hs) Bool.false_ne_true
 | bl i=>
  cases rx
  cases y with
  | non=>cases ry;exact PySem.EqNone.eq_bool_none (fin_bl I q (by simp))
  | bl j=>cases ry;exact eq_bool (fin_bl I q dec_bl)
  | str j=>obtain ⟨t',rfl⟩:=ry;exact PySem.EqMixed.eq_bool_str (fin_bl I q (by simp))
  | _=>exact absurd (show false=true from hs) Bool.false_ne_true
 | int i=>
  obtain ⟨t,rfl⟩:=rx
  cases y with
  | non=>cases ry;exact PySem.EqNone.eq_int_none (fin_bl I q (by simp))
  | int j=>obtain ⟨t',rfl⟩:=ry;exact eq_int (fin_bl I q dec_int)
  | str j=>obtain ⟨t',rfl⟩:=ry;exact PySem.EqMixed.eq_int_str (fin_bl I q (by simp))
  | _=>exact absurd (show false=true from hs) Bool.false_ne_true
 | str i=>
  obtain ⟨t,rfl⟩:=rx
  cases y with
  | non=>cases ry;exact PySem.EqNone.eq_str_none (fin_bl I q (by simp))
  | bl j=>cases ry;exact PySem.EqMixed.eq_str_bool (fin_bl I q (by simp))
  | int j=>obtain ⟨t',rfl⟩:=ry;exact PySem.EqMixed.eq_str_int (fin_bl I q (by simp))
  | str j=>obtain ⟨t',rfl⟩:=ry;exact eq_str (fin_bl I q dec_str)
  | _=>exact absurd (show false=true from hs) Bool.false_ne_true
 | byt i=>
  obtain ⟨t,rfl⟩:=rx
  cases y with
  | byt j=>obtain ⟨t',rfl⟩:=ry;exact PySem.W.eq_bytes (fin_bl I q dec_byt)
  | _=>exact absurd (show false=true from hs) Bool.false_ne_true
 | _=>cases y <;> exact absurd (show false=true from hs) Bool.false_ne_true
theorem op_ne:OpR X (compareOp .NotEq) rNe:=by
 intro pins s σ H x y v u Q I rx ry h
 obtain ⟨hs,q⟩:=h
 cases x with
 | non=>
  cases rx
  cases y with
  | non=>cases ry;exact PySem.EqNone.ne_none_none (fin_bl I q (by simp))
  | bl j=>cases ry;exact PySem.EqNone.ne_none_bool (fin_bl I q (by simp))
  | int j=>obtain ⟨t',rfl⟩:=ry;exact PySem.EqNone.ne_none_int (fin_bl I q (by simp))
  | str j=>obtain ⟨t',rfl⟩:=ry;exact PySem.EqNone.ne_none_str (fin_bl I q (by simp))
  | _=>exact absurd (show false=true from hs) Bool.false_ne_true
 | bl i=>
  cases rx
  cases y with
  | non=>cases ry;exact PySem.EqNone.ne_bool_none (fin_bl I q (by simp))
  | bl j=>cases ry;exact ne_bool (fin_bl I q (congrArg not dec_bl))
  | str j=>obtain ⟨t',rfl⟩:=ry;exact PySem.EqMixed.ne_bool_str (fin_bl I q (by simp))
  | _=>exact absurd (show false=true from hs) Bool.false_ne_true
 | int i=>
  obtain ⟨t,rfl⟩:=rx
  cases y with
  | non=>cases ry;exact PySem.EqNone.ne_int_none (fin_bl I q (by simp))
  | int j=>obtain ⟨t',rfl⟩:=ry;exact ne_int (fin_bl I q (congrArg not dec_int))
  | str j=>obtain ⟨t',rfl⟩:=ry;exact PySem.EqMixed.ne_int_str (fin_bl I q (by simp))
  | _=>exact absurd (show false=true from hs) Bool.false_ne_true
 | str i=>
  obtain ⟨t,rfl⟩:=rx
  cases y with
  | non=>cases ry;exact PySem.EqNone.ne_str_none (fin_bl I q (by simp))
  | bl j=>cases ry;exact PySem.EqMixed.ne_str_bool (fin_bl I q (by simp))
  | int j=>obtain ⟨t',rfl⟩:=ry;exact PySem.EqMixed.ne_str_int (fin_bl I q (by simp))
  | str j=>obtain ⟨t',rfl⟩:=ry;exact ne_str (fin_bl I q (congrArg not dec_str))
  | _=>exact absurd (show false=true from hs) Bool.false_ne_true
 | byt i=>
  obtain ⟨t,rfl⟩:=rx
  cases y with
  | byt j=>obtain ⟨t',rfl⟩:=ry;exact PySem.W.ne_bytes (fin_bl I q (congrArg not dec_byt))
  | _=>exact absurd (show false=true from hs) Bool.false_ne_true
 | _=>cases y <;> exact absurd (show false=true from hs) Bool.false_ne_true
theorem op_lt:OpR X (compareOp .Lt) (rI0 fun i j=> .bl (decide (i < j))):=opB0 fun _ _ _ _ _ _ _ q=>lt_int q
theorem op_le:OpR X (compareOp .LtE) (rI0 fun i j=> .bl (decide (i≤j))):=opB0 fun _ _ _ _ _ _ _ q=>le_int q
theorem op_gt:OpR X (compareOp .Gt) (rI0 fun i j=> .bl (decide (j < i))):=opB0 fun _ _ _ _ _ _ _ q=>gt_int q
theorem op_in_str:OpR X (compareOp .In) (fun x y H Q=>∃i j,x= .str i∧y= .str j∧Q (.bl (!(Builtin.Str.occurrences j i 0 j.length 1).isEmpty)) H):=by
 intro pins s σ H x y v u Q I rx ry h
 obtain ⟨i,j,rfl,rfl,q⟩:=h
 obtain ⟨t,rfl⟩:=rx
 obtain ⟨t',rfl⟩:=ry
 exact in_str (fin_bl I q rfl)
theorem op_isN:OpR X (compareOp .Is) (fun x y H Q=>y= .non∧Q (.bl (decide (x= .non))) H):=by
 intro pins s σ H x y v u Q I rx ry h
 obtain ⟨rfl,q⟩:=h
 cases ry
 refine is_none_gen (fin_bl I q ?_)
 cases x <;> first
  | (cases rx;rfl)
  | (obtain ⟨t,rfl⟩:=rx;rfl)
theorem nomark(b:Expr){op:CmpOp}(h:op≠ .In:=by decide)(h2:op≠ .NotIn:=by decide):behindInMarks op b=false:=by
 have e1:(op==CmpOp.In)=false:=by cases op <;> first | rfl | exact absurd rfl h
 have e2:(op==CmpOp.NotIn)=false:=by cases op <;> first | rfl | exact absurd rfl h2
 cases b <;> simp [behindInMarks,e1,e2]
theorem pe_cmpR{op:CmpOp}{r:R2}(ho:OpR X (compareOp op) r)(ha:PE X a ta)(hb:PE X b tb)(hm:behindInMarks op b=false):PE X (.Compare a [op] [b] pos) (tOp r ta tb):=by
 intro pins s σ H Q I h
 exact wpAny_Compare1 (binT ha hb I h fun v u s2 x y H2 I2 rx ry q=>ho pins s2 σ H2 x y v u Q I2 rx ry q) hm
noncomputable def tTest(t:TE):TT:=fun σ H Q=>t σ H fun x H'=>∃k,x= .bl k∧Q k H'
theorem pt_cmpR{op:CmpOp}{r:R2}(ho:OpR X (compareOp op) r)(ha:PE X a ta)(hb:PE X b tb)(hm:behindInMarks op b=false):PT X (.Compare a [op] [b] pos) (tTest (tOp r ta tb)):=by
 intro pins s σ H Q I h
 refine wpAny_isTrue_Compare1 (thn (ha pins s σ H _ I h) fun v s1 ⟨x,H1,I1,r1,q1⟩=>thn (hb pins s1 σ H1 _ I1 q1) fun u s2 ⟨y,H2,I2,r2,q2⟩=>
  thn (ho pins s2 σ H2 x y v u _ I2 r1 r2 q2) fun c s3 ⟨z,H3,I3,r3,k,e,q3⟩=>?_) hm
 subst e
 cases r3
 exact wpAny_truthy_bool ⟨H3,I3,q3⟩
noncomputable def tChain(r r':R2)(ta tb tc:TE):TE:=fun σ H Q=>ta σ H fun x H1=>tb σ H1 fun y H2=>r x y H2 fun z H3=>∃k,z= .bl k∧
 (if k=true then tc σ H3 fun w' H4=>r' y w' H4 Q else Q (.bl false) H3)
theorem pe_chain{op op':CmpOp}{r r':R2}(ho:OpR X (compareOp op) r)(ho':OpR X (compareOp op') r')(ha:PE X a ta)(hb:PE X b tb)(hc:PE X c tc)
 (hm:lastMarks [op,op'] [b,c]=false:=by with_unfolding_all rfl):PE X (.Compare a [op,op'] [b,c] pos) (tChain r r' ta tb tc):=by
 intro pins s σ H Q I h
 refine Compare_chain (thn (ha pins s σ H _ I h) fun v s1 ⟨x,H1,I1,r1,q1⟩=>chain_link (thn (hb pins s1 σ H1 _ I1 q1) fun u s2 ⟨y,H2,I2,r2,q2⟩=>
  thn (ho pins s2 σ H2 x y v u _ I2 r1 r2 q2) fun d s3 ⟨z,H3,I3,r3,k,e,q3⟩=>?_)) hm
 subst e
 cases r3
 refine wpAny_truthy_bool ?_
 cases k with
 | false=>exact ite_ff ⟨.bl false,H3,I3,rfl,q3⟩
 | true=>exact ite_tt (chain_last (thn (hc pins s3 σ H3 _ I3 q3) fun w' s4 ⟨z',H4,I4,r4,q4⟩=>ho' pins s4 σ H4 y z' u w' Q I4 r2 r4 q4))
theorem pt_chain{op op':CmpOp}{r r':R2}(ho:OpR X (compareOp op) r)(ho':OpR X (compareOp op') r')(ha:PE X a ta)(hb:PE X b tb)(hc:PE X c tc)
 (hm:lastMarks [op,op'] [b,c]=false:=by with_unfolding_all rfl):PT X (.Compare a [op,op'] [b,c] pos) (tTest (tChain r r' ta tb tc)):=by
 intro pins s σ H Q I h
 refine isTrue_chain (thn (ha pins s σ H _ I h) fun v s1 ⟨x,H1,I1,r1,q1⟩=>test_link (thn (hb pins s1 σ H1 _ I1 q1) fun u s2 ⟨y,H2,I2,r2,q2⟩=>
  thn (ho pins s2 σ H2 x y v u _ I2 r1 r2 q2) fun d s3 ⟨z,H3,I3,r3,k,e,q3⟩=>?_)) hm
 subst e
 cases r3
 refine wpAny_truthy_bool ?_
 cases k with
 | false=>
  obtain ⟨k',e',q'⟩:=q3
  cases e'
  exact ite_ff ⟨H3,I3,q'⟩
 | true=>
  refine ite_tt (test_last (thn (hc pins s3 σ H3 _ I3 q3) fun w' s4 ⟨z',H4,I4,r4,q4⟩=>thn (ho' pins s4 σ H4 y z' u w' _ I4 r2 r4 q4) fun d' s5 ⟨z2,H5,I5,r5,k2,e2,q5⟩=>?_))
  subst e2
  cases r5
  exact wpAny_truthy_bool ⟨H5,I5,q5⟩
theorem line63:(sizeLine:Nat) < 2 ^ 63:=by rw [sizeLine_eq];decide
theorem op_add_str:OpR X (binaryOp .Add) (fun x y H Q=>∃i j,x= .str i∧y= .str j∧i.length+j.length≤sizeLine∧Q (.str (i++j)) H):=by
 intro pins s σ H x y v u Q I rx ry h
 obtain ⟨i,j,rfl,rfl,hz,q⟩:=h
 obtain ⟨t,rfl⟩:=rx
 obtain ⟨t',rfl⟩:=ry
 exact add_str (fun t' tk=>⟨.str (i++j),H,I.tok _,⟨_,rfl⟩,q⟩) hz
theorem vals1{x:V}{us:List Value}(r:Vals [x] us):∃u,us=[u]∧RelV x u:=by
 cases r with
 | cons r1 r2=>cases r2;exact ⟨_,rfl,r1⟩
theorem vals2{x y:V}{us:List Value}(r:Vals [x,y] us):∃u w',us=[u,w']∧RelV x u∧RelV y w':=by
 cases r with
 | cons r1 r2=>
  cases r2 with
  | cons r3 r4=>cases r4;exact ⟨_,_,rfl,r1,r3⟩
theorem call_int1:CallR X (.type "int") (fun xs H Q=>(∃i,xs=[.int i]∧Q (.int i) H)∨∃k,xs=[.bl k]∧Q (.int (if k then 1 else 0)) H):=by
 intro pins s σ H xs us Q I r h
 rcases h with ⟨i,rfl,q⟩ | ⟨k,rfl,q⟩
 · obtain ⟨u,rfl,t,rfl⟩:=vals1 r
   exact call_int_int ⟨.int i,H,I,⟨_,rfl⟩,q⟩
 · obtain ⟨u,rfl,r1⟩:=vals1 r
   cases r1
   exact call_int_bool ⟨.int (if k then 1 else 0),H,I.tok _,⟨_,rfl⟩,q⟩
end
end L2
namespace L2
structure ObjM(h:Heap)(x dx C:Addr)(mA:Str→Option Value):Prop where
 obj:h.get? x=some (PySem.W.instObj C dx)
 ns:h.Ns1 dx mA
 ne:dx≠x
theorem lookIn_ns{h:Heap}{dx:Addr}{mA:Str→Option Value}(n:h.Ns1 dx mA):∃od,h.get? dx=some od∧∀name,PySem.W.lookIn name od=some (mA name):=by
 obtain ⟨o,es,ep,ho,hd,hk,_,hm⟩:=n
 refine ⟨o,ho,fun name=>?_⟩
 have e:=hm name
 unfold nsFind findBy at e
 rw [← Array.find?_toList]at e
 unfold PySem.W.lookIn
 rw [hd]
 dsimp only
 split
 · rename_i y q
   rw [q]at e
   exact congrArg some e
 · rename_i q
   rw [q]at e
   have a:es.toList.any (·.refKey)=false:=by
    rw [List.any_eq_false]
    intro y hy
    obtain ⟨z,t,hkey⟩:=hk y (Array.mem_toList_iff.mp hy)
    simp [DictEntry.refKey,hkey]
   have a':¬es.toList.any (·.refKey)=true:=by rw [a];exact Bool.false_ne_true
   rw [if_neg a']
   exact congrArg some e
theorem ObjM.look{h:Heap}{x dx C:Addr}{mA:Str→Option Value}(I:ObjM h x dx C mA):∃od,PySem.W.InstAt h x (PySem.W.instObj C dx) C (some od)∧∀name,PySem.W.lookIn name od=some (mA name):=
 let ⟨od,ho,hl⟩:=lookIn_ns I.ns
 ⟨od,⟨I.obj,rfl,rfl,ho⟩,hl⟩
section
variable {prog:Program} {w:World} {A:Around} {E:Value→Shared→Prop} {s:Shared} {K:PySem.W.Frag} {x dx C f:Addr} {mA:Str→Option Value} {name:Str} {v:Value}
theorem get_map{expr:Bool}{Q:Value→Shared→Prop}(X:K.In s.heap)(I:ObjM s.heap x dx C mA)(hg:PySem.W.plainGet K C name=true)(hh:PySem.W.hasDictIn K C=true)
 (ha:PySem.W.findIn K (.ref C) name=some none) (hv:mA name=some v) (hv':PySem.W.handedIn v=true) (h:Q v {s with toks:=s.toks+1}):
 wpAny (model prog w) A (getAttr (.ref x) name expr) Q E s:=by
 obtain ⟨od,J,hl⟩:=I.look
 exact PySem.W.get_value X J (PySem.W.plainGet_of hg).1 (PySem.W.findObj_own hh ha rfl (by rw [hl,hv])) hv' h
theorem get_meth{pl:Sem Bool}{Q:Value×List Value→Shared→Prop}(X:K.In s.heap)(I:ObjM s.heap x dx C mA)(hg:PySem.W.plainGet K C name=true)
 (hf:PySem.W.findIn K (.ref C) name=some (some (.ref f))) (ht:PySem.W.isFn K (.ref f)=true) (hv:mA name=none) (h:Q (.ref f,[.ref x]) s):
 wpAny (model prog w) A (getMethod (.ref x) name pl) Q E s:=by
 obtain ⟨od,J,hl⟩:=I.look
 exact PySem.W.method_fn X J (PySem.W.plainGet_of hg).1 (PySem.W.plainGet_of hg).2 hf (beq_iff_eq.mp ht) (by show (PySem.W.lookIn name od).map (·.isSome)=some false;rw [hl,hv];rfl) h
theorem set_map{ns:List Str}{Q:Unit→Shared→Prop}(X:K.In s.heap)(I:ObjM s.heap x dx C mA)
 (hs:PySem.W.findIn K (.ref C) "__setattr__"=some (some (.builtin "object.__setattr__"))) (hp:PySem.W.plainOver K C=true) (ht:PySem.W.takerIn K C name=some none) (hh:PySem.W.hasDictIn K C=true)
 (hw:PySem.Within mA ns) (hsz:ns.length≤sizeLine)
 (h:∀h',ObjM h' x dx C (fun y=>if y=name then some v else mA y)→Heap.SameBut dx s.heap h'→Q () {s with heap:=h',toks:=s.toks+2}):
 wpAny (model prog w) A (setAttr (.ref x) name v) Q E s:=by
 obtain ⟨od,J,hl⟩:=I.look
 refine PySem.W.set_plain X J hs (PySem.W.osa_open (s:={s with toks:=s.toks+1}) (r:=none) X J hp ht fun b=>?_)
 obtain ⟨cd,hc,hd'⟩:=PySem.W.any_some hh
 have hx:s.heap.get? x=some ⟨.ref C,some dx,.plain,#[]⟩:=I.obj
 refine wpAny_bind (wpAny_pure (wpAny_bind (wpAny_bind (wpAny_loadPart hx (wpAny_bind (PySem.W.Looks.here (s:={s with toks:=s.toks+1}) (PySem.W.looks_clsIn X hc) ?_))))))
 rw [hd']
 refine wpAny_pure (a:=some dx) (wpAny_bind (wpAny_pure (wpAny_bind ?_)))
 refine wpAny_nsSet1 (s:={s with toks:=s.toks+1}) I.ns fun h' hn2 hs2=>?_
 obtain ⟨oD,esD,epD,hoD,hdD,hcD⟩:=hn2.count (PySem.Within.cons name v hw)
 refine wpAny_bind (wpAny_lookBehind hoD (by rw [hdD];exact pastItsLine_dict (Nat.le_trans hcD (by rw [List.length_cons];omega))) ?_)
 exact wpAny_pure (h _ ⟨(hs2.2 _ (Ne.symm I.ne)).trans I.obj,hn2,I.ne⟩ hs2)
theorem make_map{R:Result→Shared→Prop}{vs:List Value}{kw:List (Str×Value)}(X:K.In s.heap)(hm:PySem.W.makesIn K C=true)
 (hi:PySem.W.findIn K (.ref C) "__init__"=some (some (.ref f))) (hf:PySem.W.typeIn K (.ref f)=some (.type "function"))
 (h:codeAny (model prog w) (A.under (.builtin "type.__call__" ⟨.ref C::vs,kw⟩)) (.call (.ref f) ⟨.ref (s.heap.objs.size+1)::vs,kw⟩) (PySem.W.InitBack (s.heap.objs.size+1) R)
  {s with heap:=(s.heap.push PySem.W.emptyDict).push (PySem.W.instObj C s.heap.objs.size)}):
 codeAny (model prog w) A (.call (.ref C) ⟨vs,kw⟩) R s:=by
 obtain ⟨hh,g,d,t,os⟩:=s
 exact PySem.W.make_core (PySem.W.makes_of X hm) (PySem.W.looks_findIn X hi) (fun self=>PySem.W.bind_fn X self hf) (.inl rfl) h
end
noncomputable def putF(f:Str)(v:V):List (Str×V)→List (Str×V)
 | []=>[(f,v)]
 | (g,x)::r=>if g=f then (g,v)::r else (g,x)::putF f v r
theorem lookup_putF(f g:Str)(v:V):∀fs:List (Str×V),(putF f v fs).lookup g=if g=f then some v else fs.lookup g
 | []=>by
  show List.lookup g [(f,v)]=_
  by_cases h:g=f
  · have hb:(g==f)=true:=beq_iff_eq.mpr h
    simp only [List.lookup,hb,if_pos h]
  · have hb:(g==f)=false:=beq_eq_false_iff_ne.mpr h
    simp only [List.lookup,hb,if_neg h]
 | (k,x)::r=>by
  have ih:=lookup_putF f g v r
  rw [show putF f v ((k,x)::r)=(if k=f then (k,v)::r else (k,x)::putF f v r) from rfl]
  by_cases hk:k=f
  · rw [if_pos hk]
    by_cases h:g=k
    · have hb:(g==k)=true:=beq_iff_eq.mpr h
      simp only [List.lookup,hb,if_pos (h.trans hk)]
    · have hb:(g==k)=false:=beq_eq_false_iff_ne.mpr h
      simp only [List.lookup,hb,if_neg (fun e:g=f=>h (e.trans hk.symm))]
  · rw [if_neg hk]
    by_cases h:g=k
    · have hb:(g==k)=true:=beq_iff_eq.mpr h
      simp only [List.lookup,hb,if_neg (fun e:g=f=>hk (h.symm.trans e))]
    · have hb:(g==k)=false:=beq_eq_false_iff_ne.mpr h
      simp only [List.lookup,hb]
      exact ih
theorem keys_putF(f:Str)(v:V):∀fs:List (Str×V),f∈(putF f v fs).map (·.1)∧∀g,g∈fs.map (·.1)→g∈(putF f v fs).map (·.1)
 | []=>⟨by simp [putF],fun g h=>by simp at h⟩
 | (k,x)::r=>by
  obtain ⟨i1,i2⟩:=keys_putF f v r
  rw [show putF f v ((k,x)::r)=(if k=f then (k,v)::r else (k,x)::putF f v r) from rfl]
  by_cases hk:k=f
  · rw [if_pos hk]
    subst hk
    exact ⟨by simp,fun g h=>by simpa using h⟩
  · rw [if_neg hk]
    refine ⟨?_,fun g h=>?_⟩
    · rw [List.map_cons]
      exact List.mem_cons_of_mem _ i1
    · rw [List.map_cons]at h ⊢
      rcases List.mem_cons.mp h with e | e
      · exact List.mem_cons.mpr (.inl e)
      · exact List.mem_cons_of_mem _ (i2 g e)
theorem length_putF(f:Str)(v:V):∀fs:List (Str×V),(putF f v fs).length≤fs.length+1
 | []=>by simp [putF]
 | (k,x)::r=>by
  have ih:=length_putF f v r
  rw [show putF f v ((k,x)::r)=(if k=f then (k,v)::r else (k,x)::putF f v r) from rfl]
  by_cases hk:k=f
  · rw [if_pos hk,List.length_cons,List.length_cons];omega
  · rw [if_neg hk,List.length_cons,List.length_cons];omega
theorem RelO.some_of{v:V}{o:Option Value}(r:RelO (some v) o):∃u,o=some u∧RelV v u:=by
 cases o with
 | none=>exact (show False from r).elim
 | some u=>exact ⟨u,rfl,r⟩
theorem RelO.none_of{o:Option Value}(r:RelO none o):o=none:=by
 cases o with
 | none=>rfl
 | some u=>exact (show False from r).elim
theorem handed_of{v:V}{u:Value}(r:RelV v u):PySem.W.handedIn u=true:=by
 cases v with
 | non=>cases (show u=Value.none from r);rfl
 | bl b=>cases (show u=Value.bool b from r);rfl
 | int i=>obtain ⟨t,e⟩:=(show ∃t,u=Value.int i t from r);cases e;rfl
 | str x=>obtain ⟨t,e⟩:=(show ∃t,u=Value.str x t from r);cases e;rfl
 | byt b=>obtain ⟨t,e⟩:=(show ∃t,u=Value.bytes b t from r);cases e;rfl
 | flt b=>obtain ⟨t,e⟩:=(show ∃t,u=Value.float b t from r);cases e;rfl
 | ref a=>cases (show u=Value.ref a from r);rfl
 | ty n=>cases (show u=Value.type n from r);rfl
section
variable {P:Program} {w:World} {H H':Hp} {h h':Heap} {a C dx:Addr} {fs fs':List (Str×V)}
theorem ins_get(hok:HOk P w H h)(e:H a=some (.ins C dx fs)):∃mA,ObjM h a dx C mA∧(∀f,RelO (fs.lookup f) (mA f))∧PySem.Within mA (fs.map (·.1))∧fs.length≤1000∧H dx=some (.own a):=by
 obtain ⟨d,z,ne,ob,mA,n,r,q⟩:=(show ObjOk P w H h a (.ins C dx fs) from hok a _ e)
 exact ⟨mA,⟨ob,n,ne⟩,r,q,z,d⟩
end
structure Cls(K:PySem.W.Frag)(C:Addr):Prop where
 pg:PySem.W.plainGet K C Str.empty=true
 hd:PySem.W.hasDictIn K C=true
 po:PySem.W.plainOver K C=true
 sa:PySem.W.findIn K (.ref C) "__setattr__"=some (some (.builtin "object.__setattr__"))
theorem Cls.get{K:PySem.W.Frag}{C:Addr}(c:Cls K C)(f:Str):PySem.W.plainGet K C f=true:=c.pg
noncomputable def NoAttr(K:PySem.W.Frag)(C:Addr)(f:Str):Prop:=PySem.W.findIn K (.ref C) f=some none
theorem NoAttr.taker{K:PySem.W.Frag}{C:Addr}{f:Str}(n:NoAttr K C f):PySem.W.takerIn K C f=some none:=by
 unfold PySem.W.takerIn
 rw [show PySem.W.findIn K (.ref C) f=some none from n]
 rfl
structure Con(K:PySem.W.Frag)(C:Addr)(f:Str)(v:V)(u:Value):Prop where
 at_:PySem.W.findIn K (.ref C) f=some (some u)
 rel:RelV v u
 get:PySem.W.specialIn K u "__get__"=some none
 cp:PySem.W.copiedNames.contains f=false
structure Meth(K:PySem.W.Frag)(C:Addr)(m:Str)(f:Addr):Prop where
 at_:PySem.W.findIn K (.ref C) m=some (some (.ref f))
 fn:PySem.W.isFn K (.ref f)=true
 kp:PySem.W.keepIn K (.ref f)=true
section
variable {X:Cx} {pins:List (Addr×Obj)} {σ:St} {H:Hp} {s:Shared} {a C dx:Addr} {fs:List (Str×V)} {f:Str} {v:V} {A:Around} {E:Value→Shared→Prop}
theorem getattr_ok{b:Bool}{Q:Value→Shared→Prop}(I:Inv X pins σ H s)(e:H a=some (.ins C dx fs))(c:Cls X.K C)(n:NoAttr X.K C f)(l:fs.lookup f=some v)
 (h:∀u s',Inv X pins σ H s'→RelV v u→Q u s'):wpAny (model X.prog X.w) A (getAttr (.ref a) f b) Q E s:=by
 obtain ⟨mA,O,r,_,_,_⟩:=ins_get I.hok e
 obtain ⟨u,hu,ru⟩:=RelO.some_of (v:=v) (o:=mA f) (by rw [← l];exact r f)
 exact get_map I.kIn O (c.get f) c.hd n hu (handed_of ru) (h u _ (I.tok _) ru)
theorem getmeth_ok{m:Str}{g:Addr}{pl:Sem Bool}{Q:Value×List Value→Shared→Prop}(I:Inv X pins σ H s)(e:H a=some (.ins C dx fs))(c:Cls X.K C)(k:Meth X.K C m g)(l:fs.lookup m=none)
 (h:Q (.ref g,[.ref a]) s):wpAny (model X.prog X.w) A (getMethod (.ref a) m pl) Q E s:=by
 obtain ⟨mA,O,r,_,_,_⟩:=ins_get I.hok e
 have hn:mA m=none:=RelO.none_of (by rw [← l];exact r m)
 exact get_meth I.kIn O (c.get m) k.at_ k.fn hn h
theorem setattr_ok{y:V}{u:Value}{Q:Unit→Shared→Prop}(I:Inv X pins σ H s)(e:H a=some (.ins C dx fs))(c:Cls X.K C)(n:NoAttr X.K C f)(hl:fs.length < 1000)(ry:RelV y u)
 (h:∀s',Inv X pins σ (upd H a (.ins C dx (putF f y fs))) s'→Q () s'):wpAny (model X.prog X.w) A (setAttr (.ref a) f u) Q E s:=by
 obtain ⟨mA,O,r,wi,_,ho⟩:=ins_get I.hok e
 have hz:(fs.map (·.1)).length≤sizeLine:=by rw [List.length_map,sizeLine_eq];omega
 refine set_map I.kIn O c.sa c.po n.taker c.hd wi hz fun h' O' sb=>h _ ?_
 have hd:∃o,h'.get? dx=some o:=let ⟨o,_,_,e',_⟩:=O'.ns;⟨o,e'⟩
 refine I.write (x:=a) (e:=dx) (by rw [e];exact True.intro) (.inr ho) (fun b q hb z=>(sb.2 b hb).trans z) hd ?_
 refine ⟨by rw [upd_ne O.ne];exact ho,?_,O.ne,O'.obj,_,O'.ns,fun g=>?_,fun g hg=>?_⟩
 · have:=length_putF f y fs;omega
 · show RelO ((putF f y fs).lookup g) (if g=f then some u else mA g)
   rw [lookup_putF]
   by_cases q:g=f
   · rw [if_pos q,if_pos q];exact ry
   · rw [if_neg q,if_neg q];exact r g
 · by_cases q:g=f
   · rw [q];exact (keys_putF f y fs).1
   · refine (keys_putF f y fs).2 g (wi g fun z=>hg ?_)
     show (if g=f then some u else mA g)=none
     rw [if_neg q];exact z
theorem Inv.made(I:Inv X pins σ H s):Inv X pins σ (upd (upd H s.heap.objs.size (.own (s.heap.objs.size+1))) (s.heap.objs.size+1) (.ins C s.heap.objs.size []))
 {s with heap:=(s.heap.push PySem.W.emptyDict).push (PySem.W.instObj C s.heap.objs.size)}:=by
 have e1:(s.heap.push PySem.W.emptyDict).get? s.heap.objs.size=some PySem.W.emptyDict:=Heap.get?_push_size s.heap rfl
 have e2:((s.heap.push PySem.W.emptyDict).push (PySem.W.instObj C s.heap.objs.size)).get? (s.heap.objs.size+1)=some (PySem.W.instObj C s.heap.objs.size):=by
  have:=Heap.get?_push_size (s.heap.push PySem.W.emptyDict) (o:=PySem.W.instObj C s.heap.objs.size) rfl
  rwa [Heap.size_push]at this
 have e3:(s.heap.push PySem.W.emptyDict).Ns s.heap.objs.size (fun _=>none):=⟨PySem.W.emptyDict,#[],_,e1,rfl,(fun e he=>absurd he (by simp)),fun _=>rfl⟩
 have I1:=I.laid (a:=s.heap.objs.size) (o:= .own (s.heap.objs.size+1)) (h':=s.heap.push PySem.W.emptyDict) (t':=s.toks) (fun b u q=>Heap.get?_push_of_some _ q) (Nat.le_refl _) ⟨_,e1⟩
 refine I1.laid (a:=s.heap.objs.size+1) (o:= .ins C s.heap.objs.size []) (t':=s.toks) (fun b u q=>Heap.get?_push_of_some _ q) (Nat.le_of_eq (Heap.size_push _ _)) ?_
 have ne:s.heap.objs.size≠s.heap.objs.size+1:=Nat.ne_of_lt (Nat.lt_succ_self _)
 refine ⟨by rw [upd_ne ne,upd_same],Nat.zero_le _,ne,e2,fun _=>none,(Heap.Ns1.of_empty e3).at fun o q=>Heap.get?_push_of_some _ q,fun _=>True.intro,fun y hy=>absurd rfl hy⟩
theorem attr_of{prog:Program}{w:World}{env:Env}{e:Expr}{f:Str}{pos:Pos}{s:Shared}{Q:Value→Shared→Prop}(hb:attributeBase e f env (eval e env)=eval e env)
 (h:wpAny (model prog w) A (eval e env) (fun o s₁=>wpAny (model prog w) A (getAttr o f true) Q E s₁) E s):wpAny (model prog w) A (eval (.Attribute e f pos) env) Q E s:=
 Attribute_any_ h (by rw [arm_eval_Attribute,hb])
end
noncomputable def tFld(K:PySem.W.Frag)(ta:TE)(f:Str):TE:=fun σ H Q=>ta σ H fun x H1=>∃a C dx fs v,x= .ref a∧H1 a=some (.ins C dx fs)∧Cls K C∧NoAttr K C f∧fs.lookup f=some v∧Q v H1
noncomputable def sFld(K:PySem.W.Frag)(ta tv:TE)(f:Str):TS:=fun D σ H=>tv σ H fun y H1=>ta σ H1 fun x H2=>∃a C dx fs,x= .ref a∧H2 a=some (.ins C dx fs)∧Cls K C∧NoAttr K C f∧fs.length < 1000∧
 D.nx σ (upd H2 a (.ins C dx (putF f y fs)))
noncomputable def InOp(X:Cx)(op:Operator)(rd:V→V→Hp→VK→Prop):Prop:=
 ∀(pins:List (Addr×Obj)) (s:Shared) (σ:St) (H:Hp) (x y:V) (u v:Value) (Q:VK),Inv X pins σ H s→RelV x u→RelV y v→rd x y H Q→wpAny (model X.prog X.w) X.A (inplaceOp op u v) (EP X pins σ Q) X.xe s
noncomputable def sFldAug(K:PySem.W.Frag)(ta tv:TE)(rd:V→V→Hp→VK→Prop)(f:Str):TS:=fun D σ H=>ta σ H fun x H1=>∃a C dx fs v,x= .ref a∧H1 a=some (.ins C dx fs)∧Cls K C∧NoAttr K C f∧fs.lookup f=some v∧
 tv σ H1 fun y H2=>rd v y H2 fun z H3=>∃dx' fs',H3 a=some (.ins C dx' fs')∧fs'.length < 1000∧D.nx σ (upd H3 a (.ins C dx' (putF f z fs')))
section
variable {X:Cx} {o e value:Expr} {f:Str} {pos pos' tpos:Pos} {ta tv:TE}
theorem pe_fld(he:PE X e ta)(hb:attributeBase e f X.env (eval e X.env)=eval e X.env):PE X (.Attribute e f pos) (tFld X.K ta f):=by
 intro pins s σ H Q I h
 refine attr_of hb (thn (he pins s σ H _ I h) fun u s1 ⟨x,H1,I1,rx,a,C,dx,fs,v,ex,ea,c,n,l,q⟩=>?_)
 subst ex
 obtain rfl:u=Value.ref a:=rx
 exact getattr_ok I1 ea c n l fun u' s2 I2 ru=>⟨v,H1,I2,ru,q⟩
theorem ps_fld(ha:PE X o ta)(hv:PE X value tv)(hs:swapsWith value (some (.Attribute o f pos')) pos.line X.env=pure false):PS X (.Assign [.Attribute o f pos'] value pos) (sFld X.K ta tv f):=by
 intro pins s σ H D I h
 refine plainObj_wpAny_Assign_Attribute (thn (hv pins s σ H _ I h) fun u s1 ⟨y,H1,I1,ry,q⟩=>thn (ha pins s1 σ H1 _ I1 q) fun ov s2 ⟨x,H2,I2,rx,a,C,dx,fs,ex,ea,c,n,l,q2⟩=>?_) hs
 subst ex
 obtain rfl:ov=Value.ref a:=rx
 exact setattr_ok I2 ea c n l ry fun s3 I3=>⟨σ,_,I3,q2⟩
theorem ps_fldaug{op:Operator}{rd:V→V→Hp→VK→Prop}(ha:PE X o ta)(hv:PE X value tv)(hop:InOp X op rd):PS X (.AugAssign (.Attribute o f tpos) op value pos) (sFldAug X.K ta tv rd f):=by
 intro pins s σ H D I h
 refine wpAny_AugAssign_AttributeAny (thn (ha pins s σ H _ I h) fun ov s1 ⟨x,H1,I1,rx,a,C,dx,fs,v,ex,ea,c,n,l,q⟩=>?_)
 subst ex
 obtain rfl:ov=Value.ref a:=rx
 refine getattr_ok I1 ea c n l fun u s2 I2 ru=>thn (hv pins s2 σ H1 _ I2 q) fun w3 s3 ⟨y,H2,I3,ry,q3⟩=>thn (hop pins s3 σ H2 v y u w3 _ I3 ru ry q3) fun w4 s4 ⟨z,H3,I4,rz,dx',fs',ea',l',q4⟩=>?_
 exact setattr_ok I4 ea' c n l' rz fun s5 I5=>⟨σ,_,I5,q4⟩
noncomputable def rAdd:V→V→Hp→VK→Prop:=fun x y H Q=>∃i j,x= .int i∧y= .int j∧Q (.int (i+j)) H
theorem in_add:InOp X .Add rAdd:=by
 rintro pins s σ H x y u v Q I rx ry ⟨i,j,rfl,rfl,q⟩
 obtain ⟨t,rfl⟩:=(show ∃t,u=Value.int i t from rx)
 obtain ⟨t',rfl⟩:=(show ∃t',v=Value.int j t' from ry)
 exact PyProof.Rows.iadd_int ⟨.int (i+j),H,I.tok _,⟨_,rfl⟩,q⟩
end
section
variable {X:Cx} {pins:List (Addr×Obj)} {σ:St} {H:Hp} {s:Shared} {A:Around} {E:Value→Shared→Prop} {Q:Value→Shared→Prop} {c:Value} {b:Bool}
inductive TyOf(K:PySem.W.Frag)(H:Hp):V→Value→Prop where
 | non:TyOf K H .non (.type "NoneType")
 | bl (x:Bool):TyOf K H (.bl x) (.type "bool")
 | int (i:Int):TyOf K H (.int i) (.type "int")
 | str (x:Str):TyOf K H (.str x) (.type "str")
 | flt (x:UInt64):TyOf K H (.flt x) (.type "float")
 | lst {a:Addr} {xs:List V} (e:H a=some (.lst xs)):TyOf K H (.ref a) (.type "list")
 | frz {a:Addr} {o:Obj} {xs:List V} (e:H a=some (.frz o (.lst xs))):TyOf K H (.ref a) (.type "list")
 | tup {a:Addr} {xs:List V} (e:H a=some (.tup xs)):TyOf K H (.ref a) (.type "tuple")
 | dK {a:Addr} {kvs:List (Key×V)} (e:H a=some (.dK kvs)):TyOf K H (.ref a) (.type "dict")
 | dT {a:Addr} {kvs:List (List Key×V)} (e:H a=some (.dT kvs)):TyOf K H (.ref a) (.type "dict")
 | ins {a C dx:Addr} {fs:List (Str×V)} (e:H a=some (.ins C dx fs)) (cl:Cls K C) (ha:PySem.W.findIn K (.ref C) "__class__"=some (some (.builtin "object.__class__")))
  (hn:PySem.W.specialIn K (.builtin "object.__class__") "__get__"=some (some (.builtin "getset_descriptor.__get__"))) (htk:PySem.W.takesIn K (.builtin "object.__class__")=some true)
  (hm:PySem.W.mroIn K C (.type "object")=some true):TyOf K H (.ref a) (.ref C)
theorem isinst_ok{x:V}{u t:Value}(I:Inv X pins σ H s)(rx:RelV x u)(ty:TyOf X.K H x t)(e:PySem.W.kitOne X.K t c=some b)(h:∀tk,Q (.bool b) {s with toks:=tk}):
 wpAny (model X.prog X.w) A (call (.builtin "isinstance") [u,c]) Q E s:=by
 cases ty with
 | non=>cases (show u=Value.none from rx);exact PySem.W.kia_one PySem.W.kitx_none I.kIn True.intro e (fun z=>nomatch z) h
 | bl y=>cases (show u=Value.bool y from rx);exact PySem.W.kia_one PySem.W.kitx_bool I.kIn True.intro e (fun z=>nomatch z) h
 | int i=>obtain ⟨t,q⟩:=(show ∃t,u=Value.int i t from rx);cases q;exact PySem.W.kia_one PySem.W.kitx_int I.kIn True.intro e (fun z=>nomatch z) h
 | str y=>obtain ⟨t,q⟩:=(show ∃t,u=Value.str y t from rx);cases q;exact PySem.W.kia_one PySem.W.kitx_str I.kIn True.intro e (fun z=>nomatch z) h
 | flt y=>obtain ⟨t,q⟩:=(show ∃t,u=Value.float y t from rx);cases q;exact PySem.W.kia_one PySem.W.kitx_float I.kIn True.intro e (fun z=>nomatch z) h
 | @lst a xs ea=>
  cases (show u=Value.ref a from rx)
  obtain ⟨_,_,n,_,h1⟩:=(show ObjOk X.prog X.w H s.heap a (.lst xs) from I.hok a _ ea)
  exact PySem.W.kia_one PySem.W.kitx_list I.kIn ⟨_,h1,rfl⟩ e (fun z=>nomatch z) h
 | @frz a ob xs ea=>
  cases (show u=Value.ref a from rx)
  obtain ⟨_,_,_,n,_,h1⟩:=(show ObjOk X.prog X.w H s.heap a (.frz ob (.lst xs)) from I.hok a _ ea)
  exact PySem.W.kia_one PySem.W.kitx_list I.kIn ⟨_,h1,rfl⟩ e (fun z=>nomatch z) h
 | @tup a xs ea=>
  cases (show u=Value.ref a from rx)
  obtain ⟨_,_,_,p⟩:=(show ObjOk X.prog X.w H s.heap a (.tup xs) from I.hok a _ ea)
  obtain ⟨o,h1,h2,_⟩:=p
  exact PySem.W.kia_one PySem.W.kitx_tuple I.kIn ⟨o,h1,h2⟩ e (fun z=>nomatch z) h
 | @dK a kvs ea=>
  cases (show u=Value.ref a from rx)
  obtain ⟨_,_,vs,_,p⟩:=(show ObjOk X.prog X.w H s.heap a (.dK kvs) from I.hok a _ ea)
  obtain ⟨o,es,ep,h1,h2,_⟩:=p
  exact PySem.W.kia_one PySem.W.kitx_dict I.kIn ⟨o,h1,h2.1⟩ e (fun z=>nomatch z) h
 | @dT a kvs ea=>
  cases (show u=Value.ref a from rx)
  obtain ⟨_,_,xs,_,o,es,ep,h1,h2,_⟩:=(show ObjOk X.prog X.w H s.heap a (.dT kvs) from I.hok a _ ea)
  exact PySem.W.kia_one PySem.W.kitx_dict I.kIn ⟨o,h1,h2.1⟩ e (fun z=>nomatch z) h
 | @ins a C dx fs ea cl ha hn htk hm=>
  cases (show u=Value.ref a from rx)
  obtain ⟨mA,O,_⟩:=ins_get I.hok ea
  obtain ⟨od,J,_⟩:=O.look
  exact PySem.W.kia_one (PySem.W.kitx_own (cl.get _) cl.hd ha hn htk hm) I.kIn J e (fun z=>nomatch z) h
end
end L2
namespace L2
structure Room(k:Nat)(A:Around):Prop where
 hd:A.handled=none
 dp:A.depth+3 * k+5 < recursionLimit
 un:A.units+16 * k+200 < cLine
theorem Room.mono{j k:Nat}{A:Around}(r:Room k A)(h:j≤k):Room j A:=⟨r.hd,by have:=r.dp;omega,by have:=r.un;omega⟩
theorem Room.deeper{k:Nat}{A:Around}(r:Room (k+1) A)(env:Env):Room k (A.deeper env):=
 ⟨r.hd,by have:=r.dp;show A.depth+1+3 * k+5 < _;omega,by have:=r.un;show A.units+3+16 * k+200 < _;omega⟩
theorem make_depth{A:Around}{C:Addr}{us:List Value}{kw:List (Str×Value)}:(A.under (.builtin "type.__call__" ⟨.ref C::us,kw⟩)).depth=A.depth+1:=by
 first | rfl | simp [Around.under,Code.weight,Code.isCreation,Code.isGuard,Code.isCaller,Code.frames,Code.isFrame,guardIds]
theorem make_units{A:Around}{C:Addr}{us:List Value}{kw:List (Str×Value)}:(A.under (.builtin "type.__call__" ⟨.ref C::us,kw⟩)).units=A.units+1:=by
 first | rfl | simp [Around.under,Code.cUnits,Code.frames,Code.isFrame]
theorem Room.make{k:Nat}{A:Around}(r:Room (k+1) A)(C:Addr)(us:List Value)(kw:List (Str×Value)):Room k (A.under (.builtin "type.__call__" ⟨.ref C::us,kw⟩)):=
 ⟨r.hd,by have:=r.dp;rw [make_depth];omega,by have:=r.un;rw [make_units];omega⟩
theorem Room.depth{k:Nat}{A:Around}(r:Room k A):A.depth < recursionLimit:=by have:=r.dp;omega
theorem Room.units{k:Nat}{A:Around}(r:Room k A):A.units+64 < cLine:=by have:=r.un;omega
noncomputable def tNil:TA:=fun _ H Q=>Q [] H
noncomputable def tCons(ta:TE)(tr:TA):TA:=fun σ H Q=>ta σ H fun x H1=>tr σ H1 fun xs H2=>Q (x::xs) H2
section
variable {X:Cx} {e:Expr} {es:List Expr} {te:TE} {t:TA} {pos:Pos}
theorem pa_nil:PA X [] tNil:=fun _ _ _ _ H Q I h=>Calls.spliced_nil ⟨[],H,I,.nil,h⟩
theorem pa_cons(ha:PE X e te)(hr:PA X es t)(hs:starEach (e::es) X.env=(false,eval e X.env)::starEach es X.env:=by rfl):PA X (e::es) (tCons te t):=by
 intro pos pins s σ H Q I h
 rw [hs]
 show wpAny _ _ (spliced ((false,eval e X.env)::backTo pos (starEach es X.env))) _ _ s
 refine Calls.spliced_cons (thn (ha pins s σ H _ I h) fun u s1 ⟨x,H1,I1,r1,q1⟩=>?_)
 exact thn (hr pos pins s1 σ H1 _ I1 q1) fun us s2 ⟨xs,H2,I2,r2,q2⟩=>⟨x::xs,H2,I2,.cons r1 r2,q2⟩
noncomputable def tTup(t:TA):TE:=fun σ H Q=>t σ H fun xs H1=>xs.length≤sizeLine∧∀p,H1 p=none→Q (.ref p) (upd H1 p (.tup xs))
noncomputable def tLst(t:TA):TE:=fun σ H Q=>t σ H fun xs H1=>xs.length≤sizeLine∧∀p,H1 p=none→Q (.ref p) (upd H1 p (.lst xs))
theorem pe_tup{x1}(h:PA X es t):PE X (.Tuple es x1 pos) (tTup t):=by
 intro pins s σ H Q I hq
 refine wpAny_Tuple_spliced (thn (h pos pins s σ H _ I hq) fun us s1 ⟨xs,H1,I1,r,z,q⟩=>⟨by rw [← r.length];exact z,?_⟩)
 have hf:H1 s1.heap.objs.size=none:=I1.hok.fresh (Nat.le_refl _)
 refine ⟨.ref s1.heap.objs.size,upd H1 s1.heap.objs.size (.tup xs),I1.laid (t':=s1.toks) (fun b u e=>Heap.get?_push_of_some _ e) (Nat.le_refl _) ?_,rfl,q _ hf⟩
 exact ⟨z,us,r,⟨_,Heap.get?_push_size _ rfl,rfl,_,rfl⟩⟩
theorem pe_lst(h:PA X es t):PE X (.List es pos) (tLst t):=by
 intro pins s σ H Q I hq
 refine wpAny_List_spliced (thn (h pos pins s σ H _ I hq) fun us s1 ⟨xs,H1,I1,r,z,q⟩=>⟨by rw [← r.length];exact z,?_⟩)
 have hf:H1 s1.heap.objs.size=none:=I1.hok.fresh (Nat.le_refl _)
 refine ⟨.ref s1.heap.objs.size,upd H1 s1.heap.objs.size (.lst xs),I1.laid (t':=s1.toks) (fun b u e=>Heap.get?_push_of_some _ e) (Nat.le_refl _) ?_,rfl,q _ hf⟩
 exact ⟨z,us,0,r,Heap.get?_push_size _ rfl⟩
end
noncomputable abbrev Sp:=List V→Hp→VK→XK→Prop
noncomputable abbrev CXT:=List Env→Hp→Shared→XK→Value→Shared→Prop
structure Env0(P:Program)(w:World)(K:PySem.W.Frag)(mg:Str→Option Value)(base:Heap)(A:Around)(outer:List Env)(s:Shared)(H:Hp):Prop where
 frames:A.frames=some outer
 mod:Mod K mg base
 bs:∀b o,base.get? b=some o→s.heap.get? b=some o∧H b=none
 bsz:base.objs.size≤s.heap.objs.size
 funs:s.heap.FunFrames base outer
 frf:∀b∈frs outer,H b=none
 hok:HOk P w H s.heap
 bare:AllBare s.gens
noncomputable def CE(outer:List Env)(P:Program)(w:World)(H:Hp)(s:Shared)(Q:VK)(u:Value)(s':Shared):Prop:=
 ∃v H',s'.os=s.os∧AllBare s'.gens∧Un (frs outer) [] H H' s.heap s'.heap∧HOk P w H' s'.heap∧RelV v u∧Q v H'
noncomputable def CR(CX:CXT)(outer:List Env)(P:Program)(w:World)(H:Hp)(s:Shared)(Q:VK)(E:XK)(r:Result)(s':Shared):Prop:=
 match r with
 | .ok (.ret u)=>CE outer P w H s Q u s'
 | .ok _=>False
 | .error e=>CX outer H s E e s'
structure FnOk(P:Program)(w:World)(K:PySem.W.Frag)(mg:Str→Option Value)(base:Heap)(CX:CXT)(k:Nat)(f:Addr)(fd:FuncData)(ps:List Str)(sp:Sp):Prop where
 len:∀vs H Q E,sp vs H Q E→vs.length=ps.length
 run:∀(A:Around) (outer:List Env) (s:Shared) (H:Hp) (args:Args) (us:List Value) (vs:List V) (Q:VK) (E:XK),Room k A→Env0 P w K mg base A outer s H→BindsTo s fd args (ps.zip us)→Vals vs us→sp vs H Q E→
  codeAny (model P w) A (.call (.ref f) args) (CR CX outer P w H s Q E) s
theorem FnOk.mono{P:Program}{w:World}{K:PySem.W.Frag}{mg:Str→Option Value}{base:Heap}{CX:CXT}{j k:Nat}{f:Addr}{fd:FuncData}{ps:List Str}{sp:Sp}(F:FnOk P w K mg base CX j f fd ps sp)(h:j≤k):
 FnOk P w K mg base CX k f fd ps sp:=⟨F.len,fun A outer s H args us vs Q E hr=>F.run A outer s H args us vs Q E (hr.mono h)⟩
theorem FnOk.imp{P:Program}{w:World}{K:PySem.W.Frag}{mg:Str→Option Value}{base:Heap}{CX:CXT}{k:Nat}{f:Addr}{fd:FuncData}{ps:List Str}{sp sp':Sp}(F:FnOk P w K mg base CX k f fd ps sp)
 (h:∀vs H Q E,sp' vs H Q E→sp vs H Q E):FnOk P w K mg base CX k f fd ps sp':=
 ⟨fun vs H Q E q=>F.len vs H Q E (h _ _ _ _ q),fun A outer s H args us vs Q E hr he hb hv hs=>F.run A outer s H args us vs Q E hr he hb hv (h _ _ _ _ hs)⟩
theorem Env0.make{P:Program}{w:World}{K:PySem.W.Frag}{mg:Str→Option Value}{base:Heap}{A:Around}{outer:List Env}{s:Shared}{H:Hp}(e:Env0 P w K mg base A outer s H)(C:Addr)(us:List Value)(kw:List (Str×Value)):
 Env0 P w K mg base (A.under (.builtin "type.__call__" ⟨.ref C::us,kw⟩)) outer s H:=⟨by first | exact e.frames | (simpa [Around.under,Code.envs,Code.isFrame,pushEnvs] using e.frames),e.mod,e.bs,e.bsz,e.funs,e.frf,e.hok,e.bare⟩
section
variable {X:Cx} {pins:List (Addr×Obj)} {σ:St} {H:Hp} {s s':Shared}
theorem Inv.env0(I:Inv X pins σ H s):Env0 X.prog X.w X.K X.mg X.base X.A X.stack s H:=
 ⟨I.ok.frames,I.ok.mod,I.bs,Nat.le_trans I.ok.bsz I.sz,I.stack,I.stkFree,I.hok,I.bare⟩
theorem Inv.after{Q:VK}{u:Value}(I:Inv X pins σ H s)(h:CE X.stack X.prog X.w H s Q u s'):EP X pins σ Q u s':=by
 obtain ⟨v,H',os,bare,un,hok,r,q⟩:=h
 obtain ⟨hh,g,d,t,os'⟩:=s'
 obtain rfl:os'=s.os:=os
 exact ⟨v,H',I.call (h':=hh) (g':=g) (d':=d) (t':=t) (ch:=[]) un hok bare (fun b z=>absurd z (by simp)),r,q⟩
end
noncomputable def tCall(sp:Sp)(dvs:List V)(E:XK)(t:TA):TE:=fun σ H Q=>t σ H fun vs H1=>sp (vs++dvs) H1 Q E
noncomputable def Binds(K:PySem.W.Frag)(fd:FuncData)(ps:List Str)(ds:List Value):Prop:=
 ∀(s:Shared) (us:List Value),K.In s.heap→(us++ds).length=ps.length→BindsTo s fd ⟨us,[]⟩ (ps.zip (us++ds))
theorem Binds.all{K:PySem.W.Frag}{fd:FuncData}{ps:List Str}(h:∀us:List Value,us.length=ps.length→bindArgs fd ⟨us,[]⟩=pure (ps.zip us)):Binds K fd ps []:=fun s us _ hl=>by
 rw [List.append_nil]at hl ⊢
 exact .of_eq (h us hl)
noncomputable def Passes(CX:CXT)(X:Cx)(E:XK):Prop:=∀(pins:List (Addr×Obj)) (σ:St) (H:Hp) (s:Shared) (e:Value) (s':Shared),Inv X pins σ H s→CX X.stack H s E e s'→X.xe e s'
section
variable {X:Cx} {CX:CXT} {k:Nat} {f C:Addr} {fd:FuncData} {ps:List Str} {sp:Sp} {dvs:List V} {ds:List Value} {E:XK} {x m:Str} {p pos apos:Pos} {e o:Expr} {es:List Expr} {ta:TE} {t:TA}
theorem run_fn{pins:List (Addr×Obj)}{σ:St}{H:Hp}{s:Shared}{Q:VK}{us:List Value}{vs:List V}(F:FnOk X.prog X.w X.K X.mg X.base CX k f fd ps sp)(hr:Room k X.A)(hb:Binds X.K fd ps ds)(hd:Vals dvs ds)(hx:Passes CX X E)
 (I:Inv X pins σ H s) (r:Vals vs us) (h:sp (vs++dvs) H Q E):wpAny (model X.prog X.w) X.A (call (.ref f) us) (EP X pins σ Q) X.xe s:=by
 have r2:Vals (vs++dvs) (us++ds):=r.append hd
 have hl:(us++ds).length=ps.length:=by rw [← r2.length];exact F.len _ _ _ _ h
 refine wpAny_call (codeAny_mono (F.run X.A X.stack s H ⟨us,[]⟩ (us++ds) (vs++dvs) Q E hr I.env0 (hb s us I.kIn hl) r2 h) fun r s' hq=>?_)
 cases r with
 | error e=>exact hx pins σ H s e s' I hq
 | ok fl=>
  cases fl with
  | ret u=>exact I.after hq
  | next=>exact False.elim hq
  | brk=>exact False.elim hq
  | cont=>exact False.elim hq
theorem pe_call(F:FnOk X.prog X.w X.K X.mg X.base CX k f fd ps sp)(hr:Room k X.A)(hg:Gl X x)(hm:X.mg x=some (.ref f))(hk:PySem.W.keepIn X.K (.ref f)=true)(hb:Binds X.K fd ps ds)(hd:Vals dvs ds)(hx:Passes CX X E)
 (ha:PA X (e::es) t) (hdb:(x==("__debug__":Str))=false:=by decide) (he:starEach (e::es) X.env=(false,eval e X.env)::starEach es X.env:=by rfl) (hpl:(backTo pos (starEach es X.env)).any (·.1)=false:=by rfl):
 PE X (.Call (.Name x p) (e::es) [] pos) (tCall sp dvs E t):=by
 intro pins s σ H Q I h
 refine wpAny_Call_Name_kw (ld_glob I hg hm ?_ hdb)
 refine PySem.W.callWith_K (h₀:=X.base) I.ok.mod.kin hk (thn (ha pos pins s σ H _ I h) fun us s1 ⟨vs,H1,I1,r,q⟩=>⟨I1.kIn,?_⟩) he hpl
 exact run_fn F hr hb hd hx I1 r q
structure Mk(K:PySem.W.Frag)(C f:Addr):Prop where
 makes:PySem.W.makesIn K C=true
 init:PySem.W.findIn K (.ref C) "__init__"=some (some (.ref f))
 fn:PySem.W.isFn K (.ref f)=true
 kp:PySem.W.keepIn K (.ref C)=true
end
section
variable {X:Cx} {CX:CXT} {k:Nat} {f C:Addr} {fd:FuncData} {ps ks:List Str} {sp:Sp} {E:XK} {x m:Str} {p pos apos kpos:Pos} {e o:Expr} {es:List Expr} {kws:List Keyword} {te ta:TE} {t tk:TA} {nm:Option Str}
structure KBinds(K:PySem.W.Frag)(fd:FuncData)(ps ks:List Str)(g:List Value→List Value→List Value)(gV:List V→List V→List V):Prop where
 to:∀(s:Shared) (us ws:List Value),K.In s.heap→(g us ws).length=ps.length→BindsTo s fd ⟨us,ks.zip ws⟩ (ps.zip (g us ws))
 rel:∀{vs:List V} {us:List Value} {zs:List V} {ws:List Value},Vals vs us→Vals zs ws→Vals (gV vs zs) (g us ws)
variable {g:List Value→List Value→List Value} {gV:List V→List V→List V}
end
structure FnScope(N P:List Str)(sc:Scope):Prop where
 kind:sc.kind= .function
 co:sc.isCoroutine=false
 gen:sc.isGenerator=false
 nd:N.Nodup
 pre:N.take P.length=P
 par:∀x∈P,sc.names.lookup x=some .local∨sc.names.lookup x=some .cell
 nofree:∀y∈sc.names,y.2≠ .free
theorem bindL_out{kindOf:Str→Option NameKind}{x:Str}:∀{binds:List (Str×Value)} {m:Str→Option Value},(∀v,(x,v)∉binds)→bindL kindOf binds m x=m x
 | [],_,_=>rfl
 | (n,v)::r,m,h=>by
  unfold bindL
  rw [bindL_out fun w hw=>h w (List.mem_cons_of_mem _ hw)]
  split
  · have:x≠n:=by rintro rfl;exact h v List.mem_cons_self
    simp [this]
  · rfl
theorem bindC_out{kindOf:Str→Option NameKind}{x:Str}:∀{binds:List (Str×Value)} {m:Str→Option Value},(∀v,(x,v)∉binds)→bindC kindOf binds m x=m x
 | [],_,_=>rfl
 | (n,v)::r,m,h=>by
  unfold bindC
  rw [bindC_out fun w hw=>h w (List.mem_cons_of_mem _ hw)]
  split
  · rfl
  · have:x≠n:=by rintro rfl;exact h v List.mem_cons_self
    simp [this]
theorem bindL_get{kindOf:Str→Option NameKind}{x:Str}{v:Value}:∀{P:List Str} {vs:List Value} {i:Nat} {m:Str→Option Value},P.Nodup→P[i]?=some x→vs[i]?=some v→kindOf x=some .local→
 bindL kindOf (P.zip vs) m x=some v
 | [],_,_,_,_,h,_,_=>by simp at h
 | _::_,[],_,_,_,_,h,_=>by simp at h
 | p::P,w::vs,0,m,nd,h1,h2,hk=>by
  simp at h1 h2;subst h1;subst h2
  show bindL kindOf ((p,w)::P.zip vs) m p=_
  unfold bindL
  rw [bindL_out fun v hv=>(List.nodup_cons.mp nd).1 (List.of_mem_zip hv).1,if_pos hk]
  simp
 | p::P,w::vs,i+1,m,nd,h1,h2,hk=>by
  show bindL kindOf ((p,w)::P.zip vs) m x=_
  unfold bindL
  exact bindL_get (i:=i) (List.nodup_cons.mp nd).2 (by simpa using h1) (by simpa using h2) hk
theorem bindC_get{kindOf:Str→Option NameKind}{x:Str}{v:Value}:∀{P:List Str} {vs:List Value} {i:Nat} {m:Str→Option Value},P.Nodup→P[i]?=some x→vs[i]?=some v→kindOf x≠some .local→
 bindC kindOf (P.zip vs) m x=some v
 | [],_,_,_,_,h,_,_=>by simp at h
 | _::_,[],_,_,_,_,h,_=>by simp at h
 | p::P,w::vs,0,m,nd,h1,h2,hk=>by
  simp at h1 h2;subst h1;subst h2
  show bindC kindOf ((p,w)::P.zip vs) m p=_
  unfold bindC
  rw [bindC_out fun v hv=>(List.nodup_cons.mp nd).1 (List.of_mem_zip hv).1,if_neg hk]
  simp
 | p::P,w::vs,i+1,m,nd,h1,h2,hk=>by
  show bindC kindOf ((p,w)::P.zip vs) m x=_
  unfold bindC
  exact bindC_get (i:=i) (List.nodup_cons.mp nd).2 (by simpa using h1) (by simpa using h2) hk
noncomputable def start(N:List Str)(vs:List V):St:=vs.map some++List.replicate (N.length - vs.length) none
noncomputable def cxOf(CX:CXT)(P:Program)(w:World)(K:PySem.W.Frag)(mg:Str→Option Value)(base:Heap)(N:List Str)(qual:Str)(scope:Scope)(f:Addr)(cd:Value)(A:Around)(outer:List Env)(s:Shared)(H:Hp)(E:XK):Cx where
 prog:=P
 w:=w
 K:=K
 mg:=mg
 base:=base
 A:=A.deeper (envOfC qual scope s.heap.objs.size f cd)
 N:=N
 s₀:=s
 H₀:=H
 env:=envOfC qual scope s.heap.objs.size f cd
 outer:=outer
 stack:=envOfC qual scope s.heap.objs.size f cd::outer
 ex:=[]
 calm:=true
 fn:=fun _=>true
 pn:=[]
 xe:=fun e s'=>wpAny (model P w) (A.deeper (envOfC qual scope s.heap.objs.size f cd)) (leaving (envOfC qual scope s.heap.objs.size f cd) e) (fun _ s''=>CX outer H s E e s'') (fun e' s''=>CX outer H s E e' s'') s'
theorem cell_has{sc:Scope}{n:Nat}{x:Str}(h:sc.names.lookup x=some .cell):∃c,(cellsFrom n sc.names []).lookup x=some c:=by
 have q:=PySem.W.cellsFrom_some sc.names n [] (.inl h)
 exact Option.isSome_iff_exists.mp q
theorem inv_start{CX:CXT}{P:Program}{w:World}{K:PySem.W.Frag}{mg:Str→Option Value}{base:Heap}{N ps:List Str}{qual:Str}{scope:Scope}{f:Addr}{cd:Value}{A:Around}{outer:List Env}{s s1:Shared}{H:Hp}{E:XK}{us:List Value}{vs:List V}
 (S:FnScope N ps scope) (hd:A.handled=none) (e0:Env0 P w K mg base A outer s H) (hl:vs.length=ps.length) (r:Vals vs us)
 (x:InCallC s s.heap.objs.size (bindL (envOfC qual scope s.heap.objs.size f cd).kindOf (ps.zip us) fun _=>none) (cellsFrom (s.heap.objs.size+1) scope.names []) (bindC (envOfC qual scope s.heap.objs.size f cd).kindOf (ps.zip us) fun _=>none) s1):
 Inv (cxOf CX P w K mg base N qual scope f cd A outer s H E) [] (start N vs) H s1:=by
 have hpl:ps.length≤N.length:=by have:=congrArg List.length S.pre;rw [List.length_take]at this;omega
 obtain ⟨h1,tk,rfl,hk⟩:=x.done
 have noA:∀b:Addr,b∉(cxOf CX P w K mg base N qual scope f cd A outer s H E).ex:=fun b z=>absurd (show b∈([]:List Addr) from z) (by simp)
 refine ⟨⟨e0.mod,S.kind,rfl,rfl,Nat.le_refl _,fun y z c h1 h2=>?_,fun y hy=>?_,fun y c _ h=>?_,fun _=>hd,Around.frames_deeper e0.frames,.inr ⟨rfl,rfl⟩,fun b z=>absurd z (noA b),e0.bs,e0.bsz,fun b _ _=>noA b,fun b z=>absurd z (noA b),e0.funs,e0.frf⟩,
  rfl,e0.bare,Un.kept hk,⟨_,x.toInCall.ns,fun i y v h1 h2 h3=>?_⟩,fun y c h=>⟨_,x.cell y c h⟩,e0.hok.fresh (Nat.le_refl _),fun y c h=>?_,fun p hp=>absurd (show p∈([]:List (Addr×Obj)) from hp) (by simp),e0.hok.kept hk,?_⟩
 · exact name_of_addr x.apart (PySem.mem_of_lookup h1) (PySem.mem_of_lookup h2)
 · have hy:scope.names.lookup y=some .cell∨scope.names.lookup y=some .free:=hy
   rcases hy with hy | hy
   · exact cell_has hy
   · exact absurd rfl (S.nofree _ (PySem.mem_of_lookup hy))
 · exact Nat.le_of_lt (x.above y c (PySem.mem_of_lookup h))
 · have hi:i < vs.length:=by
    unfold start at h2
    by_cases hi:i < vs.length
    · exact hi
    · rw [List.getElem?_append_right (by simpa using hi)]at h2
      rw [List.getElem?_replicate]at h2
      split at h2 <;> cases h2
   have ha:vs[i]?=some v:=by
    unfold start at h2
    rw [List.getElem?_append_left (by simpa using hi),List.getElem?_map]at h2
    cases e:vs[i]? with
    | none=>rw [e]at h2;cases h2
    | some a=>rw [e]at h2;cases h2;rfl
   obtain ⟨u,hu,rv⟩:=r.get ha
   have hp:ps[i]?=some y:=by
    rw [← S.pre,List.getElem?_take_of_lt (by omega)];exact h1
   have ndP:ps.Nodup:=by rw [← S.pre];exact S.nd.sublist (List.take_sublist _ _)
   refine ⟨u,rv,?_⟩
   rcases S.par y (List.mem_of_getElem? hp) with k | k
   · exact .inl ⟨k,bindL_get ndP hp hu k⟩
   · obtain ⟨c,e⟩:=cell_has (n:=s.heap.objs.size+1) k
     refine .inr ⟨.inl k,c,e,?_⟩
     have q:=x.cell y c e
     rw [bindC_get ndP hp hu (by show scope.names.lookup y≠_;rw [k];decide)]at q
     exact q
 · exact e0.hok.fresh (Nat.le_of_lt (x.above y c (PySem.mem_of_lookup h)))
 · unfold start
   show _=N.length
   rw [List.length_append,List.length_map,List.length_replicate]
   omega
theorem fn_of{CX:CXT}{P:Program}{w:World}{K:PySem.W.Frag}{mg:Str→Option Value}{base:Heap}{k:Nat}{f:Addr}{name qual:Str}{params:Arguments}{body:List Stmt}{scope:Scope}{dV kV doc pm cdv ct oc:Value}{an od:Option Addr}
 {osl:Array (Option Value)} {N ps:List Str} {sp:Sp} (lk:K.lookup f=some ⟨oc,od,.func (PySem.W.fnOf name qual params body scope dV kV doc pm an cdv ct),osl⟩) (hcd:PySem.W.codeIn K cdv qual=true) (S:FnScope N ps scope)
 (len:∀vs H Q E,sp vs H Q E→vs.length=ps.length)
 (hbody:∀(A:Around) (outer:List Env) (s:Shared) (H:Hp) (vs:List V) (Q:VK) (E:XK),Room k (A.deeper (envOfC qual scope s.heap.objs.size f cdv))→sp vs H Q E→
  ∃t,PSs (cxOf CX P w K mg base N qual scope f cdv A outer s H E) body t∧t {nx:=fun _ H'=>Q .non H',rt:=Q} (start N vs) H):
 FnOk P w K mg base CX (k+1) f (PySem.W.fnOf name qual params body scope dV kV doc pm an cdv ct) ps sp:=by
 refine ⟨len,fun A outer s H args us vs Q E hr e0 hb r hsp=>?_⟩
 have hl:=len _ _ _ _ hsp
 have KX:K.In s.heap:=e0.mod.kin.keeps fun b o e=>(e0.bs b o e).1
 have lim:s.heap.NoLimit:=e0.mod.nolimit.keeps fun b o e=>(e0.bs b o e).1
 have hkind:∀y∈ps.zip us,scope.names.lookup y.1=some .local∨(scope.names.lookup y.1=some .cell∧((cellsFrom (s.heap.objs.size+1) scope.names []).lookup y.1).isSome=true):=fun ⟨n,v⟩ hy=>by
  rcases S.par n (List.of_mem_zip hy).1 with q | q
  · exact .inl q
  · exact .inr ⟨q,PySem.W.cellsFrom_some _ _ _ (.inl q)⟩
 refine codeAny_call_function hr.depth (KX _ _ lk) rfl S.co S.gen rfl (PySem.W.codeRec_of KX hcd) (hb _ _ _ _ ?_)
 refine wpAny_newFunctionEnv_cells S.kind hkind fun env he s1 x=>?_
 subst he
 refine ⟨lim.keeps x.toInCall.keep,codeAny_func ?_⟩
 obtain ⟨t,ht,hq⟩:=hbody A outer s H vs Q E (hr.deeper _) hsp
 have I:Inv (cxOf CX P w K mg base N qual scope f cdv A outer s H E) [] (start N vs) H s1:=inv_start S hr.hd e0 hl r x
 refine wpAny_mono (ht [] s1 (start N vs) H _ I hq) (fun fl s' hs=>?_) fun e s' hs=>hs
 have fin:∀{σ':St} {H':Hp} {v:V} {u:Value},Inv (cxOf CX P w K mg base N qual scope f cdv A outer s H E) [] σ' H' s'→RelV v u→Q v H'→CE outer P w H s Q u s':=
  fun {σ' H' v u} J rv q=>⟨v,H',J.os,J.bare,J.base,J.hok,rv,q⟩
 cases fl with
 | ret u=>
  obtain ⟨v,σ',H',J,rv,q⟩:=hs
  exact fin J rv q
 | next=>
  obtain ⟨σ',H',J,q⟩:=hs
  exact fin (v:=V.non) (u:=Value.none) J rfl q
 | brk=>
  obtain ⟨_,_,_,q⟩:=hs
  exact False.elim q
 | cont=>
  obtain ⟨_,_,_,q⟩:=hs
  exact False.elim q
end L2
namespace L2
section
variable {X:Cx} {x:Str} {p pos:Pos} {e:Expr} {es:List Expr} {t:TA} {id T:String} {r:List V→Hp→VK→Prop}
noncomputable def tCB(r:List V→Hp→VK→Prop)(t:TA):TE:=fun σ H Q=>t σ H fun vs H1=>r vs H1 Q
theorem pe_callB(hc:CallR X (.builtin id) r)(hg:Gl X x)(hm:X.mg x=none)(hv:bootBuiltins x=some (.builtin id))(ha:PA X (e::es) t)(hn:x≠"__name__":=by decide)(hdb:(x==("__debug__":Str))=false:=by decide)
 (he:starEach (e::es) X.env=(false,eval e X.env)::starEach es X.env:=by rfl) (hpl:(backTo pos (starEach es X.env)).any (·.1)=false:=by rfl):PE X (.Call (.Name x p) (e::es) [] pos) (tCB r t):=by
 intro pins s σ H Q I h
 refine wpAny_Call_Name_kw (ld_blt I hg hm hv ?_ hn hdb)
 exact PyProof.Rows.callWith_builtin1 (thn (ha pos pins s σ H _ I h) fun us s1 ⟨vs,H1,I1,r1,q1⟩=>hc pins s1 σ H1 vs us Q I1 r1 q1) he hpl
theorem pe_callTy(hc:CallR X (.type T) r)(hg:Gl X x)(hm:X.mg x=none)(hv:bootBuiltins x=some (.type T))(ha:PA X (e::es) t)(hn:x≠"__name__":=by decide)(hdb:(x==("__debug__":Str))=false:=by decide)
 (he:starEach (e::es) X.env=(false,eval e X.env)::starEach es X.env:=by rfl) (hpl:(backTo pos (starEach es X.env)).any (·.1)=false:=by rfl):PE X (.Call (.Name x p) (e::es) [] pos) (tCB r t):=by
 intro pins s σ H Q I h
 refine wpAny_Call_Name_kw (ld_blt I hg hm hv ?_ hn hdb)
 exact PyProof.Rows.callWith_type1 (thn (ha pos pins s σ H _ I h) fun us s1 ⟨vs,H1,I1,r1,q1⟩=>hc pins s1 σ H1 vs us Q I1 r1 q1) he hpl
end
end L2
namespace HT
open PySem PyProof.Rows
section
variable {prog:Program} {w:World} {A:Around} {E:Value→Shared→Prop} {s:Shared}
noncomputable def sIx(n d:Nat):Option Int→Nat
 | none=>d
 | some v=>if v < 0 then (v+(n:Int)).toNat else min v.toNat n
theorem sIx_nat(n d k:Nat):sIx n d (some (k:Int))=min k n:=by
 show (if (k:Int) < 0 then ((k:Int)+(n:Int)).toNat else min (k:Int).toNat n)=min k n
 rw [if_neg (by omega),Int.toNat_natCast]
end
end HT
namespace L2
noncomputable abbrev TO:=St→Hp→(Option Int→Hp→Prop)→Prop
noncomputable def PO(X:Cx)(e:Option Expr)(t:TO):Prop:=
 ∀(pins:List (Addr×Obj)) (s:Shared) (σ:St) (H:Hp) (Q:Option Int→Hp→Prop),Inv X pins σ H s→t σ H Q→
   wpAny (model X.prog X.w) X.A (evalPart e X.env) (fun u s'=>∃o H',Inv X pins σ H' s'∧IsPart u o∧Q o H') X.xe s
noncomputable def tNoPart:TO:=fun _ H Q=>Q none H
noncomputable def tPart(t:TE):TO:=fun σ H Q=>t σ H fun x H1=>∃i,x= .int i∧Q (some i) H1
section
variable {X:Cx} {e:Expr} {te:TE} {lo hi:Option Expr} {tl th:TO} {pos p2:Pos}
theorem po_none:PO X none tNoPart:=by
 intro pins s σ H Q I h
 rw [evalPart_none]
 exact wpAny_pure ⟨none,H,I,.none,h⟩
theorem po_some(h:PE X e te):PO X (some e) (tPart te):=by
 intro pins s σ H Q I hw
 rw [evalPart_some]
 refine thn (h pins s σ H _ I hw) fun u s1 ⟨x,H1,I1,r1,q1⟩=>?_
 obtain ⟨i,rfl,q⟩:=q1
 obtain ⟨t,rfl⟩:=r1
 exact ⟨some i,H1,I1,.int i t,q⟩
noncomputable def SlR(X:Cx)(r:V→Option Int→Option Int→Hp→VK→Prop):Prop:=
 ∀(pins:List (Addr×Obj)) (s:Shared) (σ:St) (H:Hp) (x:V) (v vl vu:Value) (lo hi:Option Int) (sl:Addr) (Q:VK),Inv X pins σ H s→RelV x v→s.heap.IsSliceOf sl vl vu .none→IsPart vl lo→IsPart vu hi→r x lo hi H Q→
   ∃T id,typeLookup (.type T) "__getitem__"=pure (some (.builtin id))∧s.TypeIs v T∧wpAny (model X.prog X.w) X.A (getItem v (.ref sl)) (EP X pins σ Q) X.xe s
noncomputable def tSl(r:V→Option Int→Option Int→Hp→VK→Prop)(te:TE)(tl th:TO):TE:=fun σ H Q=>te σ H fun x H1=>tl σ H1 fun l H2=>th σ H2 fun u H3=>r x l u H3 Q
theorem pe_slice{r:V→Option Int→Option Int→Hp→VK→Prop}(hr:SlR X r)(he:PE X e te)(hl:PO X lo tl)(hu:PO X hi th):PE X (.Subscript e (.Slice lo hi none p2) pos) (tSl r te tl th):=by
 intro pins s σ H Q I h
 refine Subscript_ (thn (he pins s σ H _ I h) fun v s1 ⟨x,H1,I1,r1,q1⟩=>?_)
 refine wpAny_Slice (thn (hl pins s1 σ H1 _ I1 q1) fun vl s2 ⟨l,H2,I2,pl,q2⟩=>thn (hu pins s2 σ H2 _ I2 q2) fun vu s3 ⟨u,H3,I3,pu,q3⟩=>?_)
 rw [evalPart_none]
 refine wpAny_pure ?_
 have I4:Inv X pins σ H3 {s3 with heap:=s3.heap.push {cls:= .type "slice",data:= .fields #[vl,vu,.none]}}:=I3.kept (t':=s3.toks) fun b ob q=>Heap.get?_push_of_some _ q
 obtain ⟨T,id,hT,ht,hg⟩:=hr pins {s3 with heap:=s3.heap.push {cls:= .type "slice",data:= .fields #[vl,vu,.none]}} σ H3 x v vl vu l u s3.heap.objs.size Q I4 r1 (Heap.IsSliceOf.new ..) pl pu q3
 show wpAny (model X.prog X.w) X.A (subscriptTail e (.Slice lo hi none p2) v (.ref s3.heap.objs.size)) (EP X pins σ Q) X.xe {s3 with heap:=s3.heap.push {cls:= .type "slice",data:= .fields #[vl,vu,.none]}}
 exact tail_any (ops:=[.ref s3.heap.objs.size,v]) ht hT hg (by with_unfolding_all rfl)
noncomputable def cutV(xs:List V)(lo hi:Option Int):List V:=(xs.drop (HT.sIx xs.length 0 lo)).take (HT.sIx xs.length xs.length hi - HT.sIx xs.length 0 lo)
theorem cutV_length(xs:List V)(lo hi:Option Int):(cutV xs lo hi).length≤xs.length:=by
 unfold cutV
 rw [List.length_take,List.length_drop]
 omega
end
end L2
namespace L2
noncomputable def ixN(n:Nat)(i:Int):Option Nat:=if 0≤i then (if i < n then some i.toNat else none) else if -(n:Int)≤i then some (i+n).toNat else none
noncomputable def atI{α:Type}(xs:List α)(i:Int):Option α:=(ixN xs.length i).bind fun j=>xs[j]?
theorem ixN_seq{n:Nat}{i:Int}{j:Nat}(h:ixN n i=some j):seqIndex? i n=some j∧j < n∧-(n:Int)≤i∧i < n:=by
 unfold ixN at h
 by_cases h0:0≤i
 · rw [if_pos h0]at h
   by_cases h1:i < n
   · rw [if_pos h1]at h
     have e:i.toNat=j:=Option.some.inj h
     exact ⟨by rw [seqIndex_of h0 h1,e],by omega,by omega,h1⟩
   · rw [if_neg h1]at h;cases h
 · rw [if_neg h0]at h
   by_cases h1:-(n:Int)≤i
   · rw [if_pos h1]at h
     have e:(i+n).toNat=j:=Option.some.inj h
     exact ⟨by rw [seqIndex_neg (by omega) h1,e],by omega,h1,by omega⟩
   · rw [if_neg h1]at h;cases h
theorem atI_get{α:Type}{xs:List α}{i:Int}{v:α}(h:atI xs i=some v):∃j,seqIndex? i xs.length=some j∧xs[j]?=some v∧j < xs.length∧-(xs.length:Int)≤i∧i < xs.length:=by
 unfold atI at h
 cases e:ixN xs.length i with
 | none=>rw [e]at h;cases h
 | some j=>
  rw [e]at h
  obtain ⟨h1,h2,h3,h4⟩:=ixN_seq e
  exact ⟨j,h1,h,h2,h3,h4⟩
theorem atI_nat{α:Type}{xs:List α}{j:Nat}{v:α}(h:xs[j]?=some v):atI xs (j:Int)=some v:=by
 have hj:j < xs.length:=(List.getElem?_eq_some_iff.mp h).1
 have e:ixN xs.length (j:Int)=some j:=by
  unfold ixN
  rw [if_pos (by omega),if_pos (by omega)];simp
 unfold atI;rw [e];exact h
noncomputable def PlainIx(b:Expr):Prop:=∀o i,subscripted b false o i=operate [o,i] (getItem o i)
noncomputable def IxR(X:Cx)(r:R2):Prop:=
 ∀(value slice:Expr) (pins:List (Addr×Obj)) (s:Shared) (σ:St) (H:Hp) (x y:V) (v u:Value) (Q:VK),Inv X pins σ H s→RelV x v→RelV y u→r x y H Q→
   subscripted slice false v u=operate [v,u] (getItem v u)→wpAny (model X.prog X.w) X.A (subscriptTail value slice v u) (EP X pins σ Q) X.xe s
noncomputable def MtR(X:Cx)(id:String)(r:V→List V→Hp→VK→Prop):Prop:=
 ∀(pins:List (Addr×Obj)) (s:Shared) (σ:St) (H:Hp) (x:V) (xs:List V) (v:Value) (us:List Value) (Q:VK),Inv X pins σ H s→RelV x v→Vals xs us→r x xs H Q→
   wpAny (model X.prog X.w) X.A (call (.builtin id) (v::us)) (EP X pins σ Q) X.xe s
section
variable {X:Cx} {a b:Expr} {ta tb:TE} {pos:Pos}
theorem pe_ix{r:R2}(hr:IxR X r)(ha:PE X a ta)(hb:PE X b tb)(hs:PlainIx b):PE X (.Subscript a b pos) (tOp r ta tb):=by
 intro pins s σ H Q I h
 exact Subscript_ (binT ha hb I h fun v u s2 x y H2 I2 rx ry q=>hr a b pins s2 σ H2 x y v u Q I2 rx ry q (hs _ _))
noncomputable def rIxL(K:PySem.W.Frag):R2:=fun x y H Q=>∃p xs i v,x= .ref p∧y= .int i∧SqL K H p xs∧atI xs i=some v∧Q v H
noncomputable def rIxT(K:PySem.W.Frag):R2:=fun x y H Q=>∃p xs i v,x= .ref p∧y= .int i∧SqT K H p xs∧atI xs i=some v∧Q v H
noncomputable def rIxS:R2:=fun x y H Q=>∃z i c,x= .str z∧y= .int i∧z.length≤sizeLine∧atI z.cps.toList i=some c∧Q (.str ⟨#[c]⟩) H
theorem ix_list:IxR X (rIxL X.K):=by
 intro value slice pins s σ H x y v u Q I rx ry h hs
 obtain ⟨p,xs,i,z,rfl,rfl,hq,he,q⟩:=h
 cases rx
 obtain ⟨t,rfl⟩:=ry
 obtain ⟨its,r,pl,hz⟩:=I.list hq
 obtain ⟨j,h1,h2,h3,h4,h5⟩:=atI_get he
 obtain ⟨w,ew,rw'⟩:=r.get h2
 have hl:=r.length
 have hn:=line63
 have fin:EP X pins σ Q w s:=⟨z,H,I,rw',q⟩
 by_cases h0:0≤i
 · have hj:i.toNat=j:=by
    rw [seqIndex_of h0 h5]at h1
    exact Option.some.inj h1
   exact item_listR pl.isList h0 (by omega) (by rw [hj];simpa using ew) fin hs
 · have hj:(i+(its.toArray.size:Int)).toNat=j:=by
    rw [seqIndex_neg (by omega) h4]at h1
    rw [List.size_toArray,← hl]
    exact Option.some.inj h1
   exact subscriptTail_builtinR (x:=w) pl.isList.typeIs slot_list_getitem.lookup
    (wpAny_getItem_list_neg (Q:=fun r s'=>r=w∧EP X pins σ Q r s') pl.isList (by omega) (by rw [List.size_toArray] <;> omega) (by omega) (by rw [hj];simpa using ew) ⟨rfl,fin⟩) hs
theorem ix_tup:IxR X (rIxT X.K):=by
 intro value slice pins s σ H x y v u Q I rx ry h hs
 obtain ⟨p,xs,i,z,rfl,rfl,hq,he,q⟩:=h
 cases rx
 obtain ⟨t,rfl⟩:=ry
 obtain ⟨its,r,pl,hz⟩:=I.tuple hq
 obtain ⟨j,h1,h2,h3,h4,h5⟩:=atI_get he
 obtain ⟨w,ew,rw'⟩:=r.get h2
 have hl:=r.length
 have hn:=line63
 have fin:EP X pins σ Q w s:=⟨z,H,I,rw',q⟩
 exact subscriptTail_builtinR (x:=w) pl.typeIs slot_tuple_getitem.lookup
  (getItem_tuple (j:=j) (Q:=fun r s'=>r=w∧EP X pins σ Q r s') pl (by omega) (by omega) (by rw [List.size_toArray,← hl];exact h1) (by simpa using ew) ⟨rfl,fin⟩) hs
theorem ix_str:IxR X rIxS:=by
 intro value slice pins s σ H x y v u Q I rx ry h hs
 obtain ⟨z,i,c,rfl,rfl,hz,he,q⟩:=h
 obtain ⟨t,rfl⟩:=rx
 obtain ⟨t',rfl⟩:=ry
 obtain ⟨j,h1,h2,h3,h4,h5⟩:=atI_get he
 have hl:z.cps.toList.length=z.length:=by simp [Str.length]
 rw [hl]at h1 h4 h5
 have hn:=line63
 exact tail_any (typeIs_str s z t) slot_str_getitem.lookup (getItem_str (c:=c) (by
  have e1:decide (i < -(2 ^ 63:Int))=false:=decide_eq_false (by omega)
  have e2:decide (i ≥ 2 ^ 63)=false:=decide_eq_false (by omega)
  rw [e1,e2,Bool.or_false]) (by rw [h1];simpa using h2) ⟨.str ⟨#[c]⟩,H,I.tok _,⟨_,rfl⟩,q⟩) hs
theorem mapSeq_set(its:List Value)(n j:Nat)(u:Value):Obj.mapSeq (·.setIfInBounds j u) {cls:= .type "list",data:= .seq its.toArray n}={cls:= .type "list",data:= .seq (its.set j u).toArray n}:=by
 simp [Obj.mapSeq]
theorem Inv.lst{pins:List (Addr×Obj)}{σ:St}{H:Hp}{s:Shared}{p:Addr}{xs:List V}(I:Inv X pins σ H s)(h:H p=some (.lst xs)):
 ∃(its:List Value) (n:Nat),Vals xs its∧s.heap.get? p=some {cls:= .type "list",data:= .seq its.toArray n}∧xs.length≤sizeLine:=by
 obtain ⟨z,its,n,r,e⟩:=I.hok p _ h
 exact ⟨its,n,r,e,z⟩
theorem Inv.lstUpd{pins:List (Addr×Obj)}{σ:St}{H:Hp}{s:Shared}{p:Addr}{xs ys:List V}{its its':List Value}{n n':Nat}{f:Obj→Obj}(I:Inv X pins σ H s)(h:H p=some (.lst xs))
 (ho:s.heap.get? p=some {cls:= .type "list",data:= .seq its.toArray n}) (hf:f {cls:= .type "list",data:= .seq its.toArray n}={cls:= .type "list",data:= .seq its'.toArray n'}) (r:Vals ys its') (hz:ys.length≤sizeLine) (t:Nat):
 Inv X pins σ (upd H p (.lst ys)) {s with heap:=s.heap.update p f,toks:=t}:=by
 have e:(s.heap.update p f).get? p=some {cls:= .type "list",data:= .seq its'.toArray n'}:=by
  rw [Heap.get?_update_self f ho (by rw [hf] <;> rfl),hf]
 refine I.write (x:=p) (e:=p) (by rw [h];trivial) (.inl rfl) (fun b u hb q=>(Heap.get?_update_other _ _ (Ne.symm hb)).trans q) ⟨_,e⟩ ?_
 exact ⟨hz,its',n',r,e⟩
noncomputable def rSetL:V→V→V→Hp→(Hp→Prop)→Prop:=fun o i v H Q=>∃p xs k j,o= .ref p∧i= .int k∧H p=some (.lst xs)∧ixN xs.length k=some j∧Q (upd H p (.lst (xs.set j v)))
theorem set_list:PSet X rSetL:=by
 intro pins s σ H o i v ov iv u Q I ro ri rv h
 obtain ⟨p,xs,k,j,rfl,rfl,hp,hj,q⟩:=h
 cases ro
 obtain ⟨t,rfl⟩:=ri
 obtain ⟨its,n,r,ho,hz⟩:=I.lst hp
 obtain ⟨h1,h2,h3,h4⟩:=ixN_seq hj
 have hl:=r.length
 have hn:=line63
 have I':Inv X pins σ (upd H p (.lst (xs.set j v))) {s with heap:=s.heap.update p (Obj.mapSeq (·.setIfInBounds j u))}:=
  I.lstUpd hp ho (mapSeq_set its n j u) (r.set rv j) (by rw [List.length_set];exact hz) s.toks
 by_cases h0:0≤k
 · have hk:k.toNat=j:=by
    rw [seqIndex_of h0 h4]at h1
    exact Option.some.inj h1
   exact PySem.W.ki_setAt ho h0 (by omega) (by rw [List.size_toArray,← hl];exact h4) (by rw [hk];exact ⟨_,I',q⟩)
 · have hk:(k+(its.toArray.size:Int)).toNat=j:=by
    rw [seqIndex_neg (by omega) h3]at h1
    rw [List.size_toArray,← hl]
    exact Option.some.inj h1
   exact PySem.W.ki_setBack ho (by omega) (by rw [List.size_toArray,← hl];exact h3) (by omega) (by rw [hk];exact ⟨_,I',q⟩)
theorem slice_bounds(lo hi:Option Int)(n:Nat):(sliceBounds lo hi none n).1=((HT.sIx n 0 lo:Nat):Int)∧(sliceBounds lo hi none n).2.1=((HT.sIx n n hi:Nat):Int)∧(sliceBounds lo hi none n).2.2=1:=by
 refine ⟨?_,?_,rfl⟩
 · cases lo with
   | none=>simp [sliceBounds,HT.sIx]
   | some i=>
    simp only [sliceBounds,HT.sIx,Option.getD_none,show (1:Int) > 0 by decide,if_true]
    by_cases h:i < 0
    · simp only [h,if_true] <;> omega
    · simp only [h,if_false] <;> omega
 · cases hi with
   | none=>simp [sliceBounds,HT.sIx]
   | some i=>
    simp only [sliceBounds,HT.sIx,Option.getD_none,show (1:Int) > 0 by decide,if_true]
    by_cases h:i < 0
    · simp only [h,if_true] <;> omega
    · simp only [h,if_false] <;> omega
theorem slicePick_cut(its:List Value)(lo hi:Option Int):slicePick its.toArray lo hi none=((its.drop (HT.sIx its.length 0 lo)).take (HT.sIx its.length its.length hi - HT.sIx its.length 0 lo)).toArray:=by
 obtain ⟨h1,h2,h3⟩:=slice_bounds lo hi its.toArray.size
 unfold slicePick
 rw [h1,h2,h3]
 simp only [sliceRange_one,pick_run,List.size_toArray] <;> rfl
noncomputable def rSlL(K:PySem.W.Frag):V→Option Int→Option Int→Hp→VK→Prop:=fun x lo hi H Q=>∃a xs,x= .ref a∧SqL K H a xs∧∀p,H p=none→Q (.ref p) (upd H p (.lst (cutV xs lo hi)))
theorem sl_list:SlR X (rSlL X.K):=by
 intro pins s σ H x v vl vu lo hi sl Q I rx hs pl pu h
 obtain ⟨a,xs,rfl,hx,q⟩:=h
 cases rx
 obtain ⟨its,r,ht,hz⟩:=I.list hx
 have hlen:=r.length
 refine ⟨"list",_,slot_list_getitem.lookup,ht.isList.typeIs,?_⟩
 refine wpAny_getItem_list_slice ht.isList hs pl pu .none (by simp) ?_ (by rw [List.size_toArray] <;> omega)
 rw [slicePick_cut,← hlen]
 refine ⟨.ref s.heap.objs.size,_,I.laid (t':=s.toks) (o:= .lst (cutV xs lo hi)) (fun b ob q=>Heap.get?_push_of_some _ q) (Nat.le_refl _) ?_,rfl,q _ (I.hok.fresh (Nat.le_refl _))⟩
 exact ⟨Nat.le_trans (cutV_length xs lo hi) hz,_,0,(r.drop (HT.sIx xs.length 0 lo)).take (HT.sIx xs.length xs.length hi - HT.sIx xs.length 0 lo),Heap.get?_push_size _ rfl⟩
noncomputable def flatV:V→Bool
 | .non=>true
 | .bl _=>true
 | .int _=>true
 | .str _=>true
 | _=>false
noncomputable def eqV:V→V→Bool
 | .non,.non=>true
 | .bl a,.bl b=>a==b
 | .bl a,.int b=>(if a then 1 else 0)==b
 | .int a,.bl b=>a==(if b then 1 else 0)
 | .int a,.int b=>a==b
 | .str a,.str b=>a==b
 | _,_=>false
theorem eqAt_V{A:Around}{s:Shared}{y x:V}{u v:Value}(ry:RelV y u)(rx:RelV x v)(fy:flatV y=true)(fx:flatV x=true):SeqAt.EqAt A s u v (eqV y x):=by
 cases y with
 | non=>
  cases ry
  cases x with
  | non=>cases rx;exact SeqAt.EqAt.same _
  | bl b=>cases rx;exact SeqAt.EqAt.none_bool b
  | int b=>obtain ⟨t,rfl⟩:=rx;exact SeqAt.EqAt.none_int b t
  | str b=>obtain ⟨t,rfl⟩:=rx;exact SeqAt.EqAt.none_str b t
  | _=>exact absurd (show false=true from fx) Bool.false_ne_true
 | bl a=>
  cases ry
  cases x with
  | non=>cases rx;exact SeqAt.EqAt.bool_none a
  | bl b=>cases rx;exact SeqAt.EqAt.bool_bool a b
  | int b=>obtain ⟨t,rfl⟩:=rx;exact SeqAt.EqAt.bool_int a b t
  | str b=>obtain ⟨t,rfl⟩:=rx;exact SeqAt.EqAt.bool_str a b t
  | _=>exact absurd (show false=true from fx) Bool.false_ne_true
 | int a=>
  obtain ⟨t',rfl⟩:=ry
  cases x with
  | non=>cases rx;exact SeqAt.EqAt.int_none a t'
  | bl b=>cases rx;exact SeqAt.EqAt.int_bool a t' b
  | int b=>obtain ⟨t,rfl⟩:=rx;exact SeqAt.EqAt.int_int a t' b t
  | str b=>obtain ⟨t,rfl⟩:=rx;exact SeqAt.EqAt.int_str a t' b t
  | _=>exact absurd (show false=true from fx) Bool.false_ne_true
 | str a=>
  obtain ⟨t',rfl⟩:=ry
  cases x with
  | non=>cases rx;exact SeqAt.EqAt.str_none a t'
  | bl b=>cases rx;exact SeqAt.EqAt.str_bool a t' b
  | int b=>obtain ⟨t,rfl⟩:=rx;exact SeqAt.EqAt.str_int a t' b t
  | str b=>obtain ⟨t,rfl⟩:=rx;exact SeqAt.EqAt.str_str a t' b t
  | _=>exact absurd (show false=true from fx) Bool.false_ne_true
 | _=>exact absurd (show false=true from fy) Bool.false_ne_true
noncomputable def eqU(x:V)(u:Value):Bool:=match u with
 | .none=>eqV .non x
 | .bool b=>eqV (.bl b) x
 | .int i _=>eqV (.int i) x
 | .str z _=>eqV (.str z) x
 | _=>false
theorem eqU_of{x y:V}{u:Value}(r:RelV y u)(f:flatV y=true):eqU x u=eqV y x:=by
 cases y with
 | non=>cases r;rfl
 | bl b=>cases r;rfl
 | int i=>obtain ⟨t,rfl⟩:=r;rfl
 | str z=>obtain ⟨t,rfl⟩:=r;rfl
 | _=>exact absurd (show false=true from f) Bool.false_ne_true
theorem any_eqU{x:V}:∀{xs:List V} {us:List Value},Vals xs us→xs.all flatV=true→us.any (eqU x)=xs.any fun y=>eqV y x
 | _,_,.nil,_=>rfl
 | y::xs,u::us,.cons r t,f=>by
  rw [List.all_cons,Bool.and_eq_true]at f
  rw [List.any_cons,List.any_cons,eqU_of r f.1,any_eqU t f.2]
theorem mem_eqAt{A:Around}{s:Shared}{x:V}{v:Value}(rx:RelV x v)(fx:flatV x=true):∀{xs:List V} {us:List Value},Vals xs us→xs.all flatV=true→∀u∈us,SeqAt.EqAt A s u v (eqU x u)
 | _,_,.nil,_=>fun u hu=>by cases hu
 | y::xs,u::us,.cons r t,f=>fun u' hu=>by
  rw [List.all_cons,Bool.and_eq_true]at f
  rcases List.mem_cons.mp hu with rfl | hu
  · rw [eqU_of r f.1];exact eqAt_V r rx f.1 fx
  · exact mem_eqAt rx fx t f.2 u' hu
noncomputable def inV(x:V)(xs:List V):Bool:=xs.any fun y=>eqV y x
noncomputable def rIn(K:PySem.W.Frag)(neg:Bool):R2:=fun x y H Q=>∃p xs,y= .ref p∧(SqL K H p xs∨SqT K H p xs)∧flatV x=true∧xs.all flatV=true∧Q (.bl (if neg then !inV x xs else inV x xs)) H
theorem op_in_seq:OpR X (compareOp .In) (rIn X.K false):=by
 intro pins s σ H x y v u Q I rx ry h
 obtain ⟨p,xs,rfl,hq,fx,fs,q⟩:=h
 cases ry
 rcases hq with hq | hq
 · obtain ⟨its,r,pl,hz⟩:=I.list hq
   refine SeqAt.in_listAt (eqU x) pl.isList (fun w hw=>mem_eqAt rx fx r fs w (by simpa using hw)) ⟨.bl _,H,I,rfl,?_⟩
   rw [show its.toArray.any (eqU x)=its.any (eqU x) by simp,any_eqU r fs]
   exact q
 · obtain ⟨its,r,pl,hz⟩:=I.tuple hq
   refine SeqAt.in_tupleAt (eqU x) pl (fun w hw=>mem_eqAt rx fx r fs w (by simpa using hw)) ⟨.bl _,H,I,rfl,?_⟩
   rw [show its.toArray.any (eqU x)=its.any (eqU x) by simp,any_eqU r fs]
   exact q
theorem call_len_seq:CallR X (.builtin "len") (fun xs H Q=>∃p ys,xs=[.ref p]∧(SqL X.K H p ys∨SqT X.K H p ys)∧Q (.int ys.length) H):=by
 intro pins s σ H xs us Q I r h
 obtain ⟨p,ys,rfl,hq,q⟩:=h
 obtain ⟨u,rfl,rx⟩:=vals1 r
 cases rx
 have hn:=line63
 rcases hq with hq | hq
 · obtain ⟨its,r',pl,hz⟩:=I.list hq
   have hlen:=r'.length
   exact Calls.call_len_list pl.isList (by simp only [List.size_toArray] <;> omega) ⟨.int ys.length,H,I.tok _,⟨s.toks+1,by rw [List.size_toArray,hlen]⟩,q⟩
 · obtain ⟨its,r',pl,hz⟩:=I.tuple hq
   have hlen:=r'.length
   exact len_tuple pl (by simp only [List.size_toArray] <;> omega) ⟨.int ys.length,H,I.tok _,⟨s.toks+1,by rw [List.size_toArray,hlen]⟩,q⟩
theorem call_len_str:CallR X (.builtin "len") (fun xs H Q=>∃z,xs=[.str z]∧z.length≤sizeLine∧Q (.int z.length) H):=by
 intro pins s σ H xs us Q I r h
 obtain ⟨z,rfl,hz,q⟩:=h
 obtain ⟨u,rfl,t,rfl⟩:=vals1 r
 have hn:=line63
 exact len_str (by omega) ⟨.int z.length,H,I.tok _,⟨_,rfl⟩,q⟩
theorem call_list_of:CallR X (.type "list") (fun xs H Q=>∃p ys,xs=[.ref p]∧(SqL X.K H p ys∨SqT X.K H p ys)∧∀l,H l=none→Q (.ref l) (upd H l (.lst ys))):=by
 intro pins s σ H xs us Q I r h
 obtain ⟨p,ys,rfl,hq,q⟩:=h
 obtain ⟨u,rfl,rx⟩:=vals1 r
 cases rx
 have fin:∀(its:List Value),Vals ys its→ys.length≤sizeLine→∀(h':Heap) (c':Nat),(∀b o',s.heap.get? b=some o'→h'.get? b=some o')→
  h'.get? s.heap.objs.size=some {cls:= .type "list",dict:=none,data:= .seq its.toArray c',slots:=#[]}→EP X pins σ Q (.ref s.heap.objs.size) {s with heap:=h'}:=fun its r' hz h' c' kp e=>
  ⟨.ref s.heap.objs.size,_,I.laid (t':=s.toks) kp (Nat.le_refl _) (show ObjOk X.prog X.w _ h' _ (.lst ys) from ⟨hz,its,c',r',e⟩),rfl,q _ (I.hok.fresh (Nat.le_refl _))⟩
 rcases hq with hq | hq
 · obtain ⟨its,r',pl,hz⟩:=I.list hq
   have hlen:=r'.length
   obtain ⟨o,ho,hc,n,hd⟩:=pl.isList
   exact call_list_seq p (.inl rfl) ho hc hd (fun h' c' kp e=>fin its r' hz h' c' kp e) (by simp only [List.size_toArray] <;> omega)
 · obtain ⟨its,r',pl,hz⟩:=I.tuple hq
   have hlen:=r'.length
   obtain ⟨o,ho,hc,n,hd⟩:=pl
   exact call_list_seq p (.inr rfl) ho hc hd (fun h' c' kp e=>fin its r' hz h' c' kp e) (by simp only [List.size_toArray] <;> omega)
noncomputable def tyV(K:PySem.W.Frag)(T:String)(x:V)(H:Hp):Prop:=match x with
 | .str _=>T="str"
 | .int _=>T="int"
 | .ref p=>(T="list"∧∃xs,SqL K H p xs)∨(T="tuple"∧∃o,K.lookup p=some o∧o.cls= .type "tuple"∧o.dict=none)∨
  (T="dict"∧((∃kvs,H p=some (.dK kvs))∨∃kvs,H p=some (.dT kvs)))∨(T="set"∧∃S n,H p=some (.set S n))
 | _=>False
theorem tyV_is{pins:List (Addr×Obj)}{σ:St}{H:Hp}{s:Shared}{T:String}{x:V}{v:Value}(I:Inv X pins σ H s)(r:RelV x v)(ty:tyV X.K T x H):
 s.TypeIs v T∧∀a,v= .ref a→∃ob,s.heap.get? a=some ob∧ob.dict=none:=by
 cases x with
 | str z=>
  obtain ⟨t,rfl⟩:=r
  cases (show T="str" from ty)
  exact ⟨typeIs_str s z t,fun _ e=>nomatch e⟩
 | int i=>
  obtain ⟨t,rfl⟩:=r
  cases (show T="int" from ty)
  exact ⟨typeIs_int s i t,fun _ e=>nomatch e⟩
 | ref p=>
  cases r
  rcases ty with ⟨rfl,xs,hq⟩ | ⟨rfl,o,hk,hc,hd⟩ | ⟨rfl,hk⟩ | ⟨rfl,S,n,hk⟩
  · obtain ⟨its,_,pl,_⟩:=I.list hq
    refine ⟨pl.isList.typeIs,fun a e=>?_⟩
    cases e
    obtain ⟨o,n,e,c,hd,_⟩:=pl
    exact ⟨o,e,hd⟩
  · refine ⟨⟨o,I.kIn p o hk,hc⟩,fun a e=>?_⟩
    cases e
    exact ⟨o,I.kIn _ o hk,hd⟩
  · have z:∃o,s.heap.get? p=some o∧o.ExactDict:=by
     rcases hk with ⟨kvs,hk⟩ | ⟨kvs,hk⟩
     · obtain ⟨_,_,_,_,o,_,_,e,ex,_⟩:=I.hok p _ hk
       exact ⟨o,e,ex⟩
     · obtain ⟨_,_,_,_,o,_,_,e,ex,_⟩:=I.hok p _ hk
       exact ⟨o,e,ex⟩
    obtain ⟨o,e,ex⟩:=z
    refine ⟨⟨o,e,ex.1⟩,fun a e2=>?_⟩
    cases e2
    exact ⟨o,e,ex.2.1⟩
  · obtain ⟨o,_,_,_,e,ex,_⟩:=I.hok p _ hk
    refine ⟨⟨o,e,ex.1⟩,fun a e2=>?_⟩
    cases e2
    exact ⟨o,e,ex.2.1⟩
 | _=>exact False.elim ty
noncomputable def tBM0(K:PySem.W.Frag)(T:String)(r:V→List V→Hp→VK→Prop)(to:TE):TE:=fun σ H Q=>to σ H fun x H1=>tyV K T x H1∧r x [] H1 Q
noncomputable def tBM(K:PySem.W.Frag)(T:String)(r:V→List V→Hp→VK→Prop)(to:TE)(t:TA):TE:=fun σ H Q=>to σ H fun x H1=>tyV K T x H1∧t σ H1 fun xs H2=>r x xs H2 Q
variable {o e:Expr} {es:List Expr} {to:TE} {t:TA} {name:Str} {apos cpos:Pos} {T id:String} {r:V→List V→Hp→VK→Prop}
theorem pe_bm0(pa:PlainAttrs T)(slot:Slot T name id)(hty:typeOf (.builtin id)=pure (.type "method_descriptor"))(hm:MtR X id r)(ho:PE X o to)
 (hbase:attributeBase o name X.env (eval o X.env)=eval o X.env:=by rfl) (hline:(apos.endLine==cpos.line)=true:=by rfl):PE X (.Call (.Attribute o name apos) [] [] cpos) (tBM0 X.K T r to):=by
 intro pins s σ H Q I h
 refine wpAny_Call_method0_late hbase hline (thn (ho pins s σ H _ I h) fun v s1 ⟨x,H1,I1,r1,ty,q1⟩=>?_)
 obtain ⟨h1,h2⟩:=tyV_is I1 r1 ty
 exact ⟨T,id,pa,slot,hty,h1,h2,Calls.callWith_builtin rfl (PySem.evalArgs_none (hm pins s1 σ H1 x [] v [] Q I1 r1 .nil q1))⟩
theorem pe_bm(pa:PlainAttrs T)(slot:Slot T name id)(hty:typeOf (.builtin id)=pure (.type "method_descriptor"))(hm:MtR X id r)(ho:PE X o to)(ha:PA X (e::es) t)
 (hbase:attributeBase o name X.env (eval o X.env)=eval o X.env:=by rfl)
 (hfew:((backTo cpos (starEach (e::es) X.env)).all (fun x=>!x.1) && (backToKw cpos (keywordEach [] X.env)).all (fun x=>x.1.isSome)
  && decide ((e::es).length+([]:List Keyword).length+(if ([]:List Keyword).isEmpty then 0 else 1) < 30))=true:=by rfl)
 (hline:(apos.endLine==cpos.line)=true:=by rfl) (hs:starEach (e::es) X.env=(false,eval e X.env)::starEach es X.env:=by rfl) (hplain:(backTo cpos (starEach es X.env)).any (·.1)=false:=by rfl):
 PE X (.Call (.Attribute o name apos) (e::es) [] cpos) (tBM X.K T r to t):=by
 intro pins s σ H Q I h
 refine wpAny_Call_method_late hbase hfew hline rfl (thn (ho pins s σ H _ I h) fun v s1 ⟨x,H1,I1,r1,ty,q1⟩=>?_)
 obtain ⟨h1,h2⟩:=tyV_is I1 r1 ty
 refine ⟨T,id,pa,slot,hty,h1,h2,?_⟩
 have hA:=ha cpos pins s1 σ H1 _ I1 q1
 rw [hs]at hA ⊢
 refine Calls.callWith_builtin (by show (false || (backTo cpos (starEach es X.env)).any (·.1))=false;rw [hplain] <;> rfl) (Calls.evalArgs_plain ?_)
 exact thn hA fun us s2 ⟨vs,H2,I2,r2,q2⟩=>hm pins s2 σ H2 x vs v us Q I2 r1 r2 q2
end
end L2
namespace L2
noncomputable def MtM(X:Cx)(id:String)(r:V→List V→Hp→VK→Prop):Prop:=
 ∀(pins:List (Addr×Obj)) (s:Shared) (σ:St) (H:Hp) (x:V) (xs:List V) (v:Value) (us:List Value) (Q:VK),Inv X pins σ H s→RelV x v→Vals xs us→r x xs H Q→
   wpAny (model X.prog X.w) X.A (call (.builtin id) (v::us)) (EP X pins σ Q) X.xe s
theorem Vals.one:∀{x:V} {us:List Value},Vals [x] us→∃u,us=[u]∧RelV x u
 | _,_,.cons r .nil=>⟨_,rfl,r⟩
theorem Vals.zero:∀{us:List Value},Vals [] us→us=[]
 | _,.nil=>rfl
theorem Vals.dropLast{xs:List V}{us:List Value}(h:Vals xs us):Vals xs.dropLast us.dropLast:=by
 induction h with
 | nil=>exact .nil
 | cons r t ih=>
  cases t with
  | nil=>exact .nil
  | cons q t'=>exact .cons r ih
theorem Vals.eraseIdx:∀{xs:List V} {us:List Value} (i:Nat),Vals xs us→Vals (xs.eraseIdx i) (us.eraseIdx i)
 | _,_,_,.nil=> .nil
 | _,_,0,.cons _ t=>t
 | _,_,i+1,.cons r t=> .cons r (Vals.eraseIdx i t)
theorem Vals.rep{xs:List V}{us:List Value}(h:Vals xs us):∀k:Nat,Vals (List.replicate k xs).flatten (List.replicate k us).flatten
 | 0=> .nil
 | k+1=>by
  rw [List.replicate_succ,List.replicate_succ,List.flatten_cons,List.flatten_cons]
  exact Vals.append h (Vals.rep h k)
theorem erase_last{α:Type}(l:List α):l.eraseIdx (l.length - 1)=l.dropLast:=by
 induction l with
 | nil=>rfl
 | cons a r ih=>
  cases r with
  | nil=>rfl
  | cons b r=>
   have e:(a::b::r).length - 1=((b::r).length - 1)+1:=by
    have h1:(a::b::r).length=r.length+2:=rfl
    have h2:(b::r).length=r.length+1:=rfl
    omega
   rw [e,List.eraseIdx_cons_succ,ih]
   all_goals rfl
theorem foldl_rep(its:List Value):∀(k:Nat) (acc:List Value),
 List.foldl (fun x1 x2=>x1++x2) acc.toArray (List.replicate k its.toArray)=(acc++(List.replicate k its).flatten).toArray
 | 0,acc=>by simp
 | k+1,acc=>by
  have e:acc.toArray++its.toArray=(acc++its).toArray:=by simp
  have e2:(acc++its)++(List.replicate k its).flatten=acc++(List.replicate (k+1) its).flatten:=by
   rw [List.replicate_succ,List.flatten_cons,List.append_assoc]
  rw [← e2,← foldl_rep its k (acc++its),← e,List.replicate_succ,List.foldl_cons]
section
variable {X:Cx} {pins:List (Addr×Obj)} {σ:St} {H:Hp} {s:Shared} {l b:Addr} {xs ys zs:List V}
theorem Inv.lset{its its':List Value}{n:Nat}{f:Array Value→Array Value}{t':Nat}(I:Inv X pins σ H s)(hH:H l=some (.lst xs))
 (e:s.heap.get? l=some {cls:= .type "list",data:= .seq its.toArray n}) (hf:f its.toArray=its'.toArray) (hv:Vals ys its') (hz:ys.length≤sizeLine):
 Inv X pins σ (upd H l (.lst ys)) {s with heap:=s.heap.update l (Obj.mapSeq f),toks:=t'}:=by
 have q:=PySem.IsL.update e f
 rw [hf]at q
 refine I.write (x:=l) (e:=l) (by rw [hH];exact trivial) (.inl rfl) (fun b' u hb hu=>(Heap.get?_update_other s.heap (Obj.mapSeq f) (Ne.symm hb)).trans hu) ⟨_,q⟩ ?_
 exact ⟨hz,its',_,hv,q⟩
theorem Inv.lnew{its:List Value}{t':Nat}(I:Inv X pins σ H s)(hv:Vals ys its)(hz:ys.length≤sizeLine):
 Inv X pins σ (upd H s.heap.objs.size (.lst ys)) {s with heap:=s.heap.push {cls:= .type "list",data:= .seq its.toArray},toks:=t'}:=
 I.laid (fun _ _ q=>Heap.get?_push_of_some _ q) (Nat.le_refl _) ⟨hz,its,0,hv,Heap.get?_push_size _ rfl⟩
theorem Inv.fresh(I:Inv X pins σ H s):H s.heap.objs.size=none:=I.hok.fresh (Nat.le_refl _)
theorem Inv.lstM(I:Inv X pins σ H s)(hH:H l=some (.lst xs)):xs.length≤sizeLine∧∃(its:List Value) (n:Nat),Vals xs its∧xs.length=its.length∧s.heap.get? l=some {cls:= .type "list",data:= .seq its.toArray n}:=by
 obtain ⟨z,its,n,r,e⟩:=I.hok l _ hH
 exact ⟨z,its,n,r,r.length,e⟩
theorem notLongL{n:Nat}(h:n≤sizeLine):Builtin.List.listTooLong n=false:=by
 unfold Builtin.List.listTooLong
 exact decide_eq_false (by omega)
end
section
variable {X:Cx}
noncomputable def rAppend:V→List V→Hp→VK→Prop:=fun x vs H Q=>∃l xs y,x= .ref l∧vs=[y]∧H l=some (.lst xs)∧xs.length < sizeLine∧Q .non (upd H l (.lst (xs++[y])))
theorem mt_append:MtM X "list.append" rAppend:=by
 intro pins s σ H x vs v us Q I rx rv h
 obtain ⟨l,xs,y,rfl,rfl,hH,hz,q⟩:=h
 cases rx
 obtain ⟨u,rfl,ru⟩:=rv.one
 obtain ⟨z,its,n,r,hl,e⟩:=I.lstM hH
 refine call_meets F.slot_list_append ⟨_,e,rfl⟩ F.entry_list_append (F.args_list_append_2 _ _) (PySem.list_append l its.toArray n u (by rw [List.size_toArray];omega)) ⟨e,?_⟩
 refine ⟨.non,_,I.lset (its':=its++[u]) hH e (by simp) (r.append (.cons ru .nil)) ?_,rfl,q⟩
 rw [List.length_append,List.length_singleton]
 omega
noncomputable def rPop:V→List V→Hp→VK→Prop:=fun x vs H Q=>∃l xs y,x= .ref l∧vs=[]∧H l=some (.lst xs)∧xs[xs.length - 1]?=some y∧Q y (upd H l (.lst xs.dropLast))
theorem mt_pop:MtM X "list.pop" rPop:=by
 intro pins s σ H x vs v us Q I rx rv h
 obtain ⟨l,xs,y,rfl,rfl,hH,hy,q⟩:=h
 cases rx
 have hus:=rv.zero
 subst hus
 obtain ⟨z,its,n,r,hl,e⟩:=I.lstM hH
 obtain ⟨u,hu,ru⟩:=r.get hy
 have hy':its.toArray[its.toArray.size - 1]?=some u:=by
  show its.toArray[its.length - 1]?=some u
  rw [← Array.getElem?_toList,← hl]
  exact hu
 refine call_meets F.slot_list_pop ⟨_,e,rfl⟩ F.entry_list_pop (F.args_list_pop_1 _) (MeetsSeq.list_pop_last l its.toArray n u hy' (by rw [List.size_toArray];omega)) ⟨e,?_⟩
 refine ⟨y,_,I.lset (its':=its.dropLast) hH e ?_ r.dropLast ?_,ru,q⟩
 · show its.toArray.eraseIdxIfInBounds (its.toArray.size - 1)=its.dropLast.toArray
   rw [List.size_toArray,List.eraseIdxIfInBounds_toArray,erase_last]
 · rw [List.length_dropLast]
   omega
noncomputable def rPopAt:V→List V→Hp→VK→Prop:=fun x vs H Q=>∃l xs i k y,x= .ref l∧vs=[.int i]∧H l=some (.lst xs)∧-(2 ^ 63)≤i∧i < 2 ^ 63∧seqIndex? i xs.length=some k∧xs[k]?=some y∧Q y (upd H l (.lst (xs.eraseIdx k)))
noncomputable def rCat:R2:=fun x y H Q=>∃l b xs zs,x= .ref l∧y= .ref b∧H l=some (.lst xs)∧H b=some (.lst zs)∧xs.length+zs.length≤sizeLine∧∀p,H p=none→Q (.ref p) (upd H p (.lst (xs++zs)))
theorem op_cat:OpR X (binaryOp .Add) rCat:=by
 intro pins s σ H x y v u Q I rx ry h
 obtain ⟨l,b,xs,zs,rfl,rfl,hH,hB,hz,q⟩:=h
 cases rx
 cases ry
 obtain ⟨z,its,n,r,hl,e⟩:=I.lstM hH
 obtain ⟨z2,its2,n2,r2,hl2,e2⟩:=I.lstM hB
 refine PySem.P.add_list e e2 ?_ (by rw [List.size_toArray,List.size_toArray];omega)
 have ea:its.toArray++its2.toArray=(its++its2).toArray:=by simp
 rw [ea]
 exact ⟨.ref _,_,I.lnew (t':=s.toks) (r.append r2) (by rw [List.length_append];omega),rfl,q _ I.fresh⟩
noncomputable def rRep:R2:=fun x y H Q=>∃l k xs,x= .ref l∧y= .int k∧H l=some (.lst xs)∧-(2 ^ 63)≤k∧k < 2 ^ 63∧xs.length * k.toNat≤sizeLine∧
 ∀p,H p=none→Q (.ref p) (upd H p (.lst (List.replicate k.toNat xs).flatten))
theorem len_rep{α:Type}(xs:List α)(k:Nat):(List.replicate k xs).flatten.length=k * xs.length:=by
 induction k with
 | zero=>simp
 | succ k ih=>rw [List.replicate_succ,List.flatten_cons,List.length_append,ih,Nat.succ_mul,Nat.add_comm]
theorem op_rep:OpR X (binaryOp .Mult) rRep:=by
 intro pins s σ H x y v u Q I rx ry h
 obtain ⟨l,k,xs,rfl,rfl,hH,h1,h2,hz,q⟩:=h
 cases rx
 obtain ⟨t,rfl⟩:=ry
 obtain ⟨z,its,n,r,hl,e⟩:=I.lstM hH
 have hlen:its.toArray.size * k.toNat≤sizeLine:=by rw [List.size_toArray,← hl];exact hz
 have hcap:¬its.toArray.size * k.toNat > (2 ^ 63 - 1) / 8:=by
  have:(sizeLine:Nat)≤(2 ^ 63 - 1) / 8:=by decide
  omega
 have hfit:¬(!Builtin.List.listFitsIndex k)=true:=by
  rw [fitsIndex_both h1 h2]
  exact Bool.false_ne_true
 have hlong:¬Builtin.List.listTooLong (its.toArray.size * k.toNat)=true:=by
  rw [notLongL hlen]
  exact Bool.false_ne_true
 have hnew:List.foldl (fun x1 x2=>x1++x2) #[] (List.replicate (if its.toArray.isEmpty=true then 0 else k.toNat) its.toArray)=(List.replicate k.toNat its).flatten.toArray:=by
  have f0:∀m:Nat,List.foldl (fun x1 x2=>x1++x2) #[] (List.replicate m its.toArray)=(List.replicate m its).flatten.toArray:=fun m=>by
   have:=foldl_rep its m []
   rw [List.nil_append]at this
   exact this
  rw [f0]
  cases its with
  | nil=>simp
  | cons a r'=>rw [if_neg (by simp)]
 refine wpAny_binaryOp_repeat_ref (T:="list") (U:="int") (by decide) ⟨_,e,rfl⟩ (fun s'=>typeIs_int s' k t) noFill_list_mul F.fills_int_mul F.slot_int_rmul repeat_list F.slot_int_index.lookup
  (call_meets F.slot_int_rmul (typeIs_int s k t) F.entry_int_rmul (F.args_int_rmul_2 _ _) (int___rmul___int_list k t l its.toArray n)
   ⟨e,rfl,⟨_,e,rfl⟩,call_meets F.slot_list_mul ⟨_,e,rfl⟩ F.entry_list_mul (F.args_list_mul_2 _ _) (AutoListH.list___mul___list_int_3 l its.toArray n k t hfit hcap hlong) ⟨e,?_⟩⟩)
 rw [hnew]
 exact ⟨.ref _,_,I.lnew (t':=s.toks) (r.rep k.toNat) (by rw [len_rep,Nat.mul_comm];exact hz),rfl,q _ I.fresh⟩
end
end L2
namespace Att
open PySem PySem.W PySem.Calls PyProof.Rows
theorem ints_of_wellAll{P:Params}{h:Heap}:∀(ns:List Int) (vs:List Value),WellAll P h vs (ns.map WData.int)→IntsAre vs ns:=by
 intro ns
 induction ns with
 | nil=>
  intro vs w
  rw [List.map_nil]at w
  cases w
  exact .nil
 | cons n ns ih=>
  intro vs w
  rw [List.map_cons]at w
  cases w with
  | cons a b=>
   cases a
   exact .cons _ _ (ih _ b)
theorem script_of{l:OpenLaw}{n:Nat}(hn:l.most=some n){P:Params}{h:Heap}{args:List WData}{vals:List Value}
 (hpre:l.row.toRowW.claim.pre args=true) (hwl:WellAll P h vals args):
 ∃a vs ns,vals=[Value.ref a]∧args=[WData.list (ns.map WData.int)]∧h.get? a=some {cls:= .type "list",data:= .seq vs.toArray}∧IntsAre vs ns∧ns.length≤n:=by
 have hsh:WShape.hasAll [] args [.list .int]=true:=(pre_splitW hpre).1
 have hc:l.pre.holds [] {args:=args}=true:=(pre_splitW hpre).2
 obtain ⟨d,r,rfl,h1,h2⟩:=hasAllW_cons hsh
 obtain rfl:=hasAllW_nil h2
 obtain ⟨xs,rfl,h3⟩:=hasW_list h1
 obtain ⟨ns,rfl⟩:=items_int h3
 have hlen:ns.length≤n:=by
  unfold OpenLaw.pre at hc
  have h4:(WTm.not (.lt (.lit (.int (n:Int))) (.len (.arg 0)))).holds [] {args:=[.list (ns.map .int)]}=true:=by
   have h4:=(holds_andW hc).1
   rw [hn]at h4
   exact h4
  have h5:=condW_of h4 (w_not (w_lt w_lit (w_len_list (w_arg rfl))))
  rw [List.length_map]at h5
  refine Nat.le_of_not_lt fun q=>?_
  have q':(n:Int) < ((ns.length:Nat):Int):=by omega
  first
   | (rw [decide_eq_true q']at h5;exact absurd h5 (by decide))
   | (simp at h5;omega)
 cases hwl with
 | cons w1 w2=>
  cases w2
  cases w1 with
  | list ho hall=>exact ⟨_,_,ns,rfl,rfl,ho,ints_of_wellAll ns _ hall,hlen⟩
theorem post_true(l:OpenLaw)(args:List WData):l.row.toRowW.claim.post args (.bool true) args=true:=
 postW_of (r:=l.row.toRowW) (X:=(true==true))
  (show WShape.has [] (.bool true) .bool=true by first | rfl | decide | simp [WShape.has,WShape.arms,WShape.armsAll])
  (show (WTm.eq .res (.lit (.bool true))).value [] {args:=args,res:=some (.bool true),after:=args}=some (.bool (true==true)) from w_eq_bool (w_res rfl) w_lit) rfl
theorem attach_call{l:OpenLaw}{n:Nat}{q:Program}{loose:List Str}{XP:(Str→Option Value)→Heap→Prop}{YP:World→Heap→Prop}{d:DefRec}
 (hn:l.most=some n) (hdf:d.params.defaults=[])
 (call:∀(w:World) (s₀ s₁:Shared) (mg mb:Str→Option Value) (fa:Addr) (o:Obj) (pm cd doc:Value) (a:Addr) (vs:List Value) (ns:List Int),
  Ground q loose [] XP w s₀ mg mb s₁.heap→YP w s₁.heap→
  s₁.heap.get? fa=some o→o.data= .func (docDef d.name d.params d.body d.scope pm cd doc)→s₁.heap.CodeRec cd d.name→mg d.name=some (.ref fa)→
  s₁.heap.get? a=some {cls:= .type "list",data:= .seq vs.toArray}→IntsAre vs ns→ns.length≤n→s₁.gens=#[]→
  codeAny (model l.prog w) callerA (.call (.ref fa) ⟨[.ref a],[]⟩) (fun r s'=>r= .ok (.ret (.bool true))∧OldK s₁.heap s'.heap∧s'.os=s₁.os∧AllBare s'.gens) s₁):
 WalkO q loose XP YP l.row.toRowW d [] (fun f vs=>PySem.call f vs):=by
 intro w s₀ s₁ mg mb G Y fa o pm cd doc dV kV ho hd hcd hD hmg hg args vals as hpre hlay hrd hwl hlo
 obtain rfl:dV= .none:=Dflts.none hD hdf
 obtain rfl:kV= .none:=Dflts.noKw hD
 obtain ⟨a,vs,ns,rfl,rfl,hobj,hints,hlen⟩:=script_of hn hpre hwl
 refine enter_call (codeAny_mono (call w s₀ s₁ mg mb fa o pm cd doc a vs ns G Y ho (fd_plain hd) hcd hmg hobj hints hlen hg) fun r s' hq=>?_)
 obtain ⟨rfl,h2,h3,h4⟩:=hq
 exact ⟨.inl ⟨.bool true,.bool true,[],rfl,fun _=>rfl,.bool true,post_true l _,fun _=>⟨List.Pairwise.nil,fun _ hm=>(nomatch hm)⟩⟩,h2,h3,h4⟩
end Att
namespace L2
theorem vals_ints:∀{vs:List Value} {ns:List Int},IntsAre vs ns→Vals (ns.map V.int) vs
 | _,_,.nil=> .nil
 | _,_,.cons n t h=> .cons ⟨t,rfl⟩ (vals_ints h)
noncomputable def Only(H:Hp):Prop:=∀b,H b=none∨∃o xs,H b=some (.frz o (.lst xs))
theorem law_call{P:Program}{w:World}{K:PySem.W.Frag}{mg mb:Str→Option Value}{CX:CXT}{k:Nat}{fa a:Addr}{fd:FuncData}{x:Str}{sp:Sp}{s₁:Shared}{vs:List Value}{ns:List Int}
 (KX:K.In s₁.heap) (hns:s₁.heap.Ns mainGlobals mg) (hb:s₁.heap.Ns builtinsNs mb) (hbb:∀x:Str,x≠"__name__"→mb x=bootBuiltins x) (hlim:s₁.heap.NoLimit) (hg:s₁.gens=#[])
 (ha:s₁.heap.get? a=some {cls:= .type "list",data:= .seq vs.toArray}) (hi:IntsAre vs ns) (hl:ns.length≤sizeLine) (hr:Room k callerA)
 (F:∀base:Heap,K.In base→base.Ns mainGlobals mg→FnOk P w K mg base CX k fa fd [x] sp) (hbind:∀(s:Shared) (u:Value),BindsTo s fd ⟨[u],[]⟩ [(x,u)])
 (hsp:∀H:Hp,Only H→SqL K H a (ns.map V.int)→sp [.ref a] H (fun v _=>v= .bl true) fun _ _ _=>False)
 (hCX:∀H e s',CX [] H s₁ (fun _ _ _=>False) e s'→False):
 codeAny (model P w) callerA (.call (.ref fa) ⟨[.ref a],[]⟩) (fun r s'=>r= .ok (.ret (.bool true))∧OldK s₁.heap s'.heap∧s'.os=s₁.os∧AllBare s'.gens) s₁:=by
 have rv:=vals_ints hi
 have lenV:=hi.length
 have core:∀H:Hp,Only H→SqL K H a (ns.map V.int)→HOk P w H s₁.heap→(∀b,H b≠none→b=a)→(H a≠none→K.lookup a=none)→
  codeAny (model P w) callerA (.call (.ref fa) ⟨[.ref a],[]⟩) (fun r s'=>r= .ok (.ret (.bool true))∧OldK s₁.heap s'.heap∧s'.os=s₁.os∧AllBare s'.gens) s₁:=by
  intro H hO hS hok hA hK
  have base_of:∀{b:Addr} {o:Obj},s₁.heap.get? b=some o→H b=none→(hidT s₁.heap H).get? b=some o:=fun e n=>hidT_get e n
  have noA:∀{b:Addr} {o:Obj} {es:Array DictEntry} {ep:Nat},s₁.heap.get? b=some o→o.data= .dict es ep→H b=none:=fun {b o es ep} e d=>by
   cases q:H b with
   | none=>rfl
   | some u=>
    have e':b=a:=hA b (by rw [q];simp)
    subst e'
    rw [ha]at e;cases e
    have d':Data.seq vs.toArray _=Data.dict es ep:=d
    cases d'
  have nsK:∀{b:Addr} {m:Str→Option Value},s₁.heap.Ns b m→(hidT s₁.heap H).Ns b m:=fun {b m} ⟨o,es,ep,e,d,r⟩=>⟨o,es,ep,base_of e (noA e d),d,r⟩
  have hKb:K.In (hidT s₁.heap H):=fun b o e=>base_of (KX b o e) (by
   cases q:H b with
   | none=>rfl
   | some u=>
    have e':b=a:=hA b (by rw [q];simp)
    subst e'
    rw [hK (by rw [q];simp)]at e;cases e)
  have hM:Mod K mg (hidT s₁.heap H):=⟨hKb,nsK hns,⟨mb,nsK hb,hbb⟩,let ⟨mc,h1,h2⟩:=hlim;⟨mc,nsK h1,h2⟩⟩
  have e0:Env0 P w K mg (hidT s₁.heap H) callerA [] s₁ H:=⟨rfl,hM,fun b o e=>of_hidT e,Nat.le_of_eq (hidT_size _ _),trivial,fun b hb=>absurd (show b∈([]:List Addr) from hb) (by simp),hok,.of_eq hg⟩
  refine codeAny_mono ((F _ hKb (nsK hns)).run callerA [] s₁ H ⟨[.ref a],[]⟩ [.ref a] [.ref a] _ _ hr e0 (hbind s₁ (.ref a)) (.cons rfl .nil) (hsp H hO hS)) fun r s' h=>?_
  cases r with
  | error e=>exact (hCX H e s' h).elim
  | ok fl=>
   cases fl with
   | next=>exact False.elim h
   | brk=>exact False.elim h
   | cont=>exact False.elim h
   | ret u=>
    obtain ⟨v,H',os,bare,un,hok',r',q⟩:=h
    have q':v= .bl true:=q
    subst q'
    obtain rfl:u=Value.bool true:=r'
    refine ⟨rfl,OldK.of_keep fun b o e=>?_,os,bare⟩
    cases q:H b with
    | none=>exact un.keep b o e q (by intro z;exact absurd (show b∈([]:List Addr) from z) (by simp)) (by simp)
    | some u=>
     rcases hO b with z | ⟨ob,xs,z⟩
     · rw [q]at z;cases z
     · have z2:=un.frzs b ob _ z
       obtain ⟨e1,_⟩:=hok b _ z
       obtain ⟨e2,_⟩:=hok' b _ z2
       rw [e]at e1;cases e1
       exact e2
 cases hk:K.lookup a with
 | some o=>
  have e:=KX a o hk
  rw [ha]at e
  cases e
  refine core (fun _=>none) (fun _=> .inl rfl) (.inr ⟨_,vs.toArray,_,hk,rfl,rfl,rfl,by rw [List.size_toArray,lenV];exact hl,by simpa using rv⟩) (fun b u z=>by have z':(none:Option HO)=some u:=z;cases z') (fun b z=>absurd rfl z) fun z=>absurd rfl z
 | none=>
  refine core (fun b=>if b=a then some (.frz {cls:= .type "list",data:= .seq vs.toArray} (.lst (ns.map V.int))) else none) (fun b=>?_) (.inl (.inr ⟨{cls:= .type "list",data:= .seq vs.toArray},if_pos rfl⟩)) (fun b u z=>?_) (fun b z=>?_) fun _=>hk
  · by_cases hb:b=a
    · exact .inr ⟨_,_,if_pos hb⟩
    · exact .inl (if_neg hb)
  · by_cases hb:b=a
    · have z':=(if_pos hb).symm.trans z
      cases z'
      subst hb
      exact ⟨ha,by rw [List.length_map];exact hl,vs,_,rv,ha⟩
    · have z':=(if_neg hb).symm.trans z
      cases z'
  · by_cases hb:b=a
    · exact hb
    · exact absurd (if_neg hb) z
end L2
namespace L2
theorem walk_of{l:PySem.W.OpenLaw}{n k:Nat}{q:Program}{loose:List Str}{XP:(Str→Option Value)→Heap→Prop}{YP:World→Heap→Prop}{d:DefRec}{K:Params→PySem.W.Frag}{CX:World→CXT}{sp:World→Sp}{x:Str}
 (hn:l.most=some n) (hn2:n≤sizeLine) (hdf:d.params.defaults=[]) (hr:Room k callerA)
 (hY:∀(w:World) (h:Heap),YP w h→(K w.params).In h)
 (F:∀(w:World) (mg:Str→Option Value) (fa:Addr) (h:Heap),(K w.params).In h→h.Ns mainGlobals mg→mg d.name=some (.ref fa)→
  ∃fd:FuncData,(∀(s:Shared) (u:Value),BindsTo s fd ⟨[u],[]⟩ [(x,u)])∧
   ∀base:Heap,(K w.params).In base→base.Ns mainGlobals mg→FnOk l.prog w (K w.params) mg base (CX w) k fa fd [x] (sp w))
 (hsp:∀(w:World) (H:Hp) (a:Addr) (ns:List Int),ns.length≤n→Only H→SqL (K w.params) H a (ns.map V.int)→sp w [.ref a] H (fun v _=>v= .bl true) fun _ _ _=>False)
 (hCX:∀(w:World) (H:Hp) (s:Shared) (e:Value) (s':Shared),CX w [] H s (fun _ _ _=>False) e s'→False):
 PySem.W.WalkO q loose XP YP l.row.toRowW d [] (fun f vs=>PySem.call f vs):=by
 refine Att.attach_call hn hdf fun w s₀ s₁ mg mb fa o pm cd doc a vs ns G Y ho hd hcd hmg hobj hints hlen hg=>?_
 have KX:=hY w _ Y
 obtain ⟨fd,hb,hF⟩:=F w mg fa _ KX G.T.g hmg
 exact law_call KX G.T.g G.T.b G.T.builtins G.T.nolimit hg hobj hints (Nat.le_trans hlen hn2) hr hF hb (fun H hO hS=>hsp w H a ns hlen hO hS) fun H e s'=>hCX w H s₁ e s'
end L2
namespace L2
noncomputable def inClass(s:Stmt)(j:Nat):Stmt:=match s with
 | .ClassDef _ _ _ body _ _ _ _ _ _ _=>body.getD j (.Pass ⟨0,0,0,0⟩)
 | _=> .Pass ⟨0,0,0,0⟩
noncomputable def defArgs(s:Stmt):Arguments:=match s with
 | .FunctionDef _ a _ _ _ _ _ _ _ _=>a
 | _=>{posonlyargs:=[],args:=[],vararg:=none,kwonlyargs:=[],kw_defaults:=[],kwarg:=none,defaults:=[]}
noncomputable def defBody(s:Stmt):List Stmt:=match s with
 | .FunctionDef _ _ b _ _ _ _ _ _ _=>b
 | _=>[]
noncomputable def defScope(s:Stmt):Scope:=match s with
 | .FunctionDef _ _ _ _ _ _ sc _ _ _=>sc
 | _=>{kind:= .function,names:=[],isGenerator:=false,isCoroutine:=false}
structure Fun(K:PySem.W.Frag)(x qual:Str)(st:Stmt)(f:Addr)(fd:FuncData):Prop where
 ex:∃(oc:Value) (od:Option Addr) (kV doc pm:Value) (an:Option Addr) (cdv ct:Value) (osl:Array (Option Value)),
  fd=PySem.W.fnOf x qual (defArgs st) (defBody st) (defScope st) .none kV doc pm an cdv ct∧K.lookup f=some ⟨oc,od,.func fd,osl⟩∧PySem.W.codeIn K cdv qual=true
 kp:PySem.W.keepIn K (.ref f)=true
section
variable {P:Program} {w:World} {K:PySem.W.Frag} {mg:Str→Option Value} {base:Heap}
theorem Fun.binds{x qual:Str}{st:Stmt}{f:Addr}{fd:FuncData}{ps:List Str}(F:Fun K x qual st f fd)
 (h:∀(kV doc pm:Value) (an:Option Addr) (cdv ct:Value) (us:List Value),us.length=ps.length→bindArgs (PySem.W.fnOf x qual (defArgs st) (defBody st) (defScope st) .none kV doc pm an cdv ct) ⟨us,[]⟩=pure (ps.zip us)):Binds K fd ps []:=by
 obtain ⟨oc,od,kV,doc,pm,an,cdv,ct,osl,rfl,lk,hcd⟩:=F.ex
 exact .all (h kV doc pm an cdv ct)
theorem fun_mk{x qual:Str}{st:Stmt}{f:Addr}{oc:Value}{od an:Option Addr}{osl:Array (Option Value)}{kV doc pm cdv ct:Value}(l:K.lookup f=some ⟨oc,od,.func (PySem.W.fnOf x qual (defArgs st) (defBody st) (defScope st) .none kV doc pm an cdv ct),osl⟩)
 (c:PySem.W.codeIn K cdv qual=true) (k:PySem.W.keepIn K (.ref f)=true):Fun K x qual st f (PySem.W.fnOf x qual (defArgs st) (defBody st) (defScope st) .none kV doc pm an cdv ct):=⟨⟨oc,od,kV,doc,pm,an,cdv,ct,osl,rfl,l,c⟩,k⟩
end
theorem hu_of{A:Around}{k:Nat}(hr:Room k A):A.units+1 < cLine:=Nat.lt_of_le_of_lt (Nat.add_le_add_left (by decide:1≤64) _) hr.units
section
variable {X:Cx}
theorem pv(i:Nat){x:Str}{pos:Pos}(hN:X.N[i]?=some x:=by rfl)(hv:Vis X.env.scope x:=by first | exact Or.inl rfl | exact Or.inr (Or.inl rfl) | exact Or.inr (Or.inr rfl))(hd:(x==("__debug__":Str))=false:=by decide)
 (hcd:(x==("__classdict__":Str))=false:=by decide):PE X (.Name x pos) (tVar i):=pe_var hN hv hd hcd
end
noncomputable def Same(H H':Hp):Prop:=∀b o,H b=some o→H' b=some o
theorem Same.refl(H:Hp):Same H H:=fun _ _ h=>h
theorem Same.trans{H H1 H2:Hp}(a:Same H H1)(b:Same H1 H2):Same H H2:=fun c o h=>b c o (a c o h)
theorem Same.seq{K:PySem.W.Frag}{H H':Hp}{a:Addr}{xs:List V}(e:Same H H')(h:SqL K H a xs):SqL K H' a xs:=by
 rcases h with (h | ⟨o,h⟩) | h
 · exact .inl (.inl (e _ _ h))
 · exact .inl (.inr ⟨o,e _ _ h⟩)
 · exact .inr h
end L2
namespace L2
section
variable {κ:Type} [DecidableEq κ]
noncomputable def valV(kvs:List (κ×V))(k:κ):Option V:=(kvs.find? fun kv=>decide (kv.1=k)).map (·.2)
noncomputable def putK(kvs:List (κ×V))(k:κ)(v:V):List (κ×V):=
 if (kvs.any fun kv=>decide (kv.1=k))=true then kvs.map (fun kv=>if kv.1=k then (kv.1,v) else kv) else kvs++[(k,v)]
noncomputable def dropK(kvs:List (κ×V))(k:κ):List (κ×V):=kvs.filter fun kv=>decide (kv.1≠k)
theorem valV_pos{p:κ×V}{r:List (κ×V)}{k:κ}(e:p.1=k):valV (p::r) k=some p.2:=by simp [valV,List.find?_cons,e]
theorem valV_neg{p:κ×V}{r:List (κ×V)}{k:κ}(e:¬p.1=k):valV (p::r) k=valV r k:=by simp [valV,List.find?_cons,e]
theorem valV_any(k:κ):∀kvs:List (κ×V),(kvs.any fun kv=>decide (kv.1=k))=(valV kvs k).isSome
 | []=>rfl
 | p::r=>by
  rw [List.any_cons]
  by_cases e:p.1=k
  · simp only [valV_pos e,decide_eq_true e,Bool.true_or,Option.isSome_some]
  · rw [valV_neg e,decide_eq_false e,Bool.false_or];exact valV_any k r
theorem valV_map(k j:κ)(y:V):∀kvs:List (κ×V),valV (kvs.map fun kv=>if kv.1=k then (kv.1,y) else kv) j=(valV kvs j).map fun x=>if j=k then y else x
 | []=>rfl
 | p::r=>by
  have ih:=valV_map k j y r
  rw [List.map_cons]
  by_cases h:p.1=k
  · rw [if_pos h]
    by_cases e:p.1=j
    · rw [valV_pos (p:=(p.1,y)) e,valV_pos e,Option.map_some,if_pos (e.symm.trans h)]
    · rw [valV_neg (p:=(p.1,y)) e,valV_neg e,ih]
  · rw [if_neg h]
    by_cases e:p.1=j
    · rw [valV_pos (p:=p) e,valV_pos e,Option.map_some,if_neg (fun z=>h (e.trans z))]
    · rw [valV_neg (p:=p) e,valV_neg e,ih]
theorem valV_snoc(k j:κ)(y:V):∀kvs:List (κ×V),valV kvs k=none→valV (kvs++[(k,y)]) j=if j=k then some y else valV kvs j
 | [],_=>by
  by_cases e:k=j
  · rw [if_pos e.symm];exact valV_pos (p:=(k,y)) e
  · rw [if_neg (fun z=>e z.symm)];exact valV_neg (p:=(k,y)) e
 | p::r,hn=>by
  rw [List.cons_append]
  have hk:¬p.1=k:=fun z=>by rw [valV_pos z]at hn;cases hn
  rw [valV_neg hk]at hn
  have ih:=valV_snoc k j y r hn
  by_cases e:p.1=j
  · rw [valV_pos e,valV_pos e,if_neg (fun z=>hk (e.trans z))]
  · rw [valV_neg e,valV_neg e,ih]
theorem valV_put(kvs:List (κ×V))(k j:κ)(y:V):valV (putK kvs k y) j=if j=k then some y else valV kvs j:=by
 unfold putK
 by_cases a:(kvs.any fun kv=>decide (kv.1=k))=true
 · rw [if_pos a,valV_map]
   rw [valV_any]at a
   by_cases e:j=k
   · obtain ⟨x,hx⟩:=Option.isSome_iff_exists.mp a
     rw [if_pos e,e,hx,Option.map_some,if_pos rfl]
   · rw [if_neg e]
     cases valV kvs j with
     | none=>rfl
     | some x=>rw [Option.map_some,if_neg e]
 · rw [if_neg a]
   refine valV_snoc k j y kvs ?_
   rw [valV_any]at a
   cases q:valV kvs k with
   | none=>rfl
   | some x=>rw [q]at a;exact (a rfl).elim
theorem length_putK(kvs:List (κ×V))(k:κ)(v:V):(putK kvs k v).length≤kvs.length+1:=by
 unfold putK
 split
 · rw [List.length_map];omega
 · rw [List.length_append,List.length_cons,List.length_nil];omega
theorem putK_new{kvs:List (κ×V)}{k:κ}(v:V)(h:valV kvs k=none):putK kvs k v=kvs++[(k,v)]:=by
 unfold putK
 rw [valV_any,h]
 exact if_neg (by decide)
theorem RelO.isSome_eq{o:Option V}{u:Option Value}(r:RelO o u):o.isSome=u.isSome:=by
 cases o with
 | none=>cases u with
  | none=>rfl
  | some _=>exact (show False from r).elim
 | some _=>cases u with
  | none=>exact (show False from r).elim
  | some _=>rfl
theorem RelO.getD{o:Option V}{u:Option Value}{d:V}{d':Value}(r:RelO o u)(rd:RelV d d'):RelV (o.getD d) (u.getD d'):=by
 cases o with
 | none=>cases u with
  | none=>exact rd
  | some _=>exact (show False from r).elim
 | some _=>cases u with
  | none=>exact (show False from r).elim
  | some _=>exact r
theorem KV.val{kvs:List (κ×V)}{vs:List (κ×Value)}(r:KV kvs vs)(k:κ):RelO (valV kvs k) (valueAt vs k):=by
 unfold KV at r
 induction r with
 | nil=>exact True.intro
 | @cons p q ps qs h t ih=>
  obtain ⟨h1,h2⟩:=h
  by_cases e:p.1=k
  · have e':q.1=k:=h1.symm.trans e
    have b:valueAt (q::qs) k=some q.2:=by simp [valueAt,List.find?_cons,e']
    rw [valV_pos e,b];exact h2
  · have e':¬q.1=k:=fun z=>e (h1.trans z)
    have b:valueAt (q::qs) k=valueAt qs k:=by simp [valueAt,List.find?_cons,e']
    rw [valV_neg e,b];exact ih
theorem KV.any{kvs:List (κ×V)}{vs:List (κ×Value)}(r:KV kvs vs)(k:κ):(kvs.any fun kv=>decide (kv.1=k))=vs.any fun kv=>decide (kv.1=k):=by
 unfold KV at r
 induction r with
 | nil=>rfl
 | cons h t ih=>rw [List.any_cons,List.any_cons,ih,h.1]
theorem KV.repl{kvs:List (κ×V)}{vs:List (κ×Value)}(r:KV kvs vs)(k:κ){y:V}{u:Value}(ry:RelV y u):
 KV (kvs.map fun kv=>if kv.1=k then (kv.1,y) else kv) (vs.map fun kv=>if kv.1=k then (kv.1,u) else kv):=by
 unfold KV at r ⊢
 induction r with
 | nil=>exact .nil
 | @cons p q ps qs h t ih=>
  rw [List.map_cons,List.map_cons]
  refine .cons ?_ ih
  obtain ⟨h1,h2⟩:=h
  by_cases e:p.1=k
  · rw [if_pos e,if_pos (h1.symm.trans e)];exact ⟨h1,ry⟩
  · rw [if_neg e,if_neg (fun z=>e (h1.trans z))];exact ⟨h1,h2⟩
theorem KV.put{kvs:List (κ×V)}{vs:List (κ×Value)}(r:KV kvs vs)(k:κ){y:V}{u:Value}(ry:RelV y u):KV (putK kvs k y) (stored vs k u):=by
 unfold putK stored
 rw [r.any k]
 by_cases e:(vs.any fun kv=>decide (kv.1=k))=true
 · rw [if_pos e,if_pos e];exact r.repl k ry
 · rw [if_neg e,if_neg e];exact Paired.snoc r ⟨rfl,ry⟩
theorem KV.drop{kvs:List (κ×V)}{vs:List (κ×Value)}(r:KV kvs vs)(k:κ):KV (dropK kvs k) (without vs k):=by
 unfold KV at r ⊢
 unfold dropK without
 induction r with
 | nil=>exact .nil
 | @cons p q ps qs h t ih=>
  obtain ⟨h1,h2⟩:=h
  rw [List.filter_cons,List.filter_cons]
  by_cases e:p.1=k
  · have a:¬decide (p.1≠k)=true:=by simp [e]
    have b:¬decide (q.1≠k)=true:=by simp [h1.symm.trans e]
    rw [if_neg a,if_neg b];exact ih
  · have e':¬q.1=k:=fun z=>e (h1.trans z)
    have a:decide (p.1≠k)=true:=by simp [e]
    have b:decide (q.1≠k)=true:=by simp [e']
    rw [if_pos a,if_pos b];exact .cons ⟨h1,h2⟩ ih
theorem KV.length{kvs:List (κ×V)}{vs:List (κ×Value)}(r:KV kvs vs):kvs.length=vs.length:=Paired.length r
theorem dropK_le(kvs:List (κ×V))(k:κ):(dropK kvs k).length≤kvs.length:=List.length_filter_le _ _
end
theorem kV_is{P:Program}{w:World}{k:Key}{u:Value}(r:RelV (kV k) u):(mixKind P w).is k u=true:=by
 cases k with
 | inl i=>obtain ⟨t,e⟩:=(show ∃t,u=Value.int i t from r);subst e;exact mixKind_int P w i t
 | inr x=>obtain ⟨t,e⟩:=(show ∃t,u=Value.str x t from r);subst e;exact mixKind_str P w x t
theorem items_are{P:Program}{w:World}:∀{ks:List Key} {us:List Value},Vals (ks.map kV) us→ItemsAre (mixKind P w) ks us
 | [],_,r=>by rw [List.map_nil]at r;cases r;exact .nil
 | k::ks,_,r=>by
  rw [List.map_cons]at r
  cases r with
  | cons h t=>exact .cons (kV_is h) (items_are t)
noncomputable abbrev KT(H:Hp):List (List Key×V)→List (List Key×Addr×Value)→Prop:=Paired fun p q=>p.1=q.1∧H q.2.1=some (.tup (p.1.map kV))∧RelV p.2 q.2.2
theorem KT.val{H:Hp}{kvs:List (List Key×V)}{xs:List (List Key×Addr×Value)}(r:KT H kvs xs)(k:List Key):RelO (valV kvs k) ((atKey xs k).map (·.2)):=by
 induction r with
 | nil=>exact True.intro
 | @cons p q ps qs h t ih=>
  obtain ⟨h1,_,h2⟩:=h
  by_cases e:p.1=k
  · have e':q.1=k:=h1.symm.trans e
    have b:atKey (q::qs) k=some q.2:=by simp [atKey,List.find?_cons,e']
    rw [valV_pos e,b];exact h2
  · have e':¬q.1=k:=fun z=>e (h1.trans z)
    have b:atKey (q::qs) k=atKey qs k:=by simp [atKey,List.find?_cons,e']
    rw [valV_neg e,b];exact ih
theorem KT.repl{H:Hp}{kvs:List (List Key×V)}{xs:List (List Key×Addr×Value)}(r:KT H kvs xs)(k:List Key){y:V}{u:Value}(ry:RelV y u):
 KT H (kvs.map fun kv=>if kv.1=k then (kv.1,y) else kv) (xs.map (putAt k u)):=by
 induction r with
 | nil=>exact .nil
 | @cons p q ps qs h t ih=>
  rw [List.map_cons,List.map_cons]
  refine .cons ?_ ih
  obtain ⟨h1,h2,h3⟩:=h
  unfold putAt
  by_cases e:p.1=k
  · rw [if_pos e,if_pos (h1.symm.trans e)];exact ⟨h1,h2,ry⟩
  · rw [if_neg e,if_neg (fun z=>e (h1.trans z))];exact ⟨h1,h2,h3⟩
theorem KT.put{H:Hp}{kvs:List (List Key×V)}{xs:List (List Key×Addr×Value)}(r:KT H kvs xs)(k:List Key){b:Addr}{y:V}{u:Value}(hb:H b=some (.tup (k.map kV)))(ry:RelV y u):
 KT H (putK kvs k y) (storedH xs k b u):=by
 have e:(kvs.any fun kv=>decide (kv.1=k))=(atKey xs k).isSome:=by
  rw [valV_any,(r.val k).isSome_eq,Option.isSome_map]
 unfold putK storedH
 rw [e]
 by_cases q:(atKey xs k).isSome=true
 · rw [if_pos q,if_pos q];exact r.repl k ry
 · rw [if_neg q,if_neg q];exact Paired.snoc r ⟨rfl,hb,ry⟩
theorem KT.keeps{H H':Hp}{kvs:List (List Key×V)}{xs:List (List Key×Addr×Value)}(r:KT H kvs xs)(ht:∀b ys,H b=some (.tup ys)→H' b=some (.tup ys)):KT H' kvs xs:=
 Paired.mapP r fun _ _ z=>⟨z.1,ht _ _ z.2.1,z.2.2⟩
section
variable {P:Program} {w:World} {H:Hp} {h:Heap} {a:Addr}
theorem rd_of{u:HO}(ok:HOk P w H h)(e:Rd H a u):ObjOk P w H h a u:=e.ok ok
theorem dk_rd{kvs:List (Key×V)}(ok:HOk P w H h)(e:Rd H a (.dK kvs)):kvs.length≤sizeLine∧(a==sysModules)=false∧∃vs,KV kvs vs∧h.DictOf (mixKind P w) a vs:=
 show ObjOk P w H h a (.dK kvs) from rd_of ok e
theorem dk_of{kvs:List (Key×V)}(ok:HOk P w H h)(e:H a=some (.dK kvs)):kvs.length≤sizeLine∧(a==sysModules)=false∧∃vs,KV kvs vs∧h.DictOf (mixKind P w) a vs:=dk_rd ok (.inl e)
theorem key_of{ks:List Key}(ok:HOk P w H h)(e:H a=some (.tup (ks.map kV))):(tupleKind (mixKind P w)).is h ks a:=by
 obtain ⟨_,its,r,o,h1,h2,n,h3⟩:=(show ObjOk P w H h a (.tup (ks.map kV)) from ok a _ e)
 exact ⟨o,its.toArray,n,h1,h2,h3,by simpa using items_are r⟩
theorem dt_rd{kvs:List (List Key×V)}(ok:HOk P w H h)(e:Rd H a (.dT kvs)):kvs.length≤sizeLine∧(a==sysModules)=false∧
 ∃xs,KT H kvs xs∧h.DictOfH (tupleKind (mixKind P w)) a xs:=by
 obtain ⟨z,y,xs,r,o,es,ep,h1,h2,h3,h4,h5⟩:=(show ObjOk P w H h a (.dT kvs) from rd_of ok e)
 refine ⟨z,y,xs,r,o,es,ep,h1,h2,h3,h4,fun x hx=>?_,h5⟩
 have all:∀{l:List (List Key×V)} {m:List (List Key×Addr×Value)},KT H l m→∀x∈m,(tupleKind (mixKind P w)).is h x.1 x.2.1:=by
  intro l m q
  induction q with
  | nil=>intro x hx;exact nomatch hx
  | @cons p q ps qs hq t ih=>
   intro x hx
   rcases List.mem_cons.mp hx with e | hx
   · subst e
     exact key_of ok (by rw [← hq.1];exact hq.2.1)
   · exact ih x hx
 exact all r x hx
theorem dt_of{kvs:List (List Key×V)}(ok:HOk P w H h)(e:H a=some (.dT kvs)):kvs.length≤sizeLine∧(a==sysModules)=false∧
 ∃xs,KT H kvs xs∧h.DictOfH (tupleKind (mixKind P w)) a xs:=dt_rd ok (.inl e)
end
noncomputable def DGet(H:Hp)(a:Addr)(y:V)(r:Option V):Prop:=
 (∃kvs k,Rd H a (.dK kvs)∧y=kV k∧r=valV kvs k)∨∃kvs k b,Rd H a (.dT kvs)∧y= .ref b∧H b=some (.tup (k.map kV))∧r=valV kvs k
noncomputable def DPut(H:Hp)(a:Addr)(y v:V)(H':Hp):Prop:=
 (∃kvs k,H a=some (.dK kvs)∧y=kV k∧kvs.length < sizeLine∧H'=upd H a (.dK (putK kvs k v)))∨
 ∃kvs k b,H a=some (.dT kvs)∧y= .ref b∧H b=some (.tup (k.map kV))∧kvs.length < sizeLine∧H'=upd H a (.dT (putK kvs k v))
theorem DGet.k{H:Hp}{a:Addr}{kvs:List (Key×V)}{k:Key}(e:H a=some (.dK kvs)):DGet H a (kV k) (valV kvs k):= .inl ⟨kvs,k,.inl e,rfl,rfl⟩
theorem DPut.k{H:Hp}{a:Addr}{kvs:List (Key×V)}{k:Key}{v:V}(e:H a=some (.dK kvs))(hl:kvs.length < sizeLine):DPut H a (kV k) v (upd H a (.dK (putK kvs k v))):= .inl ⟨kvs,k,e,rfl,hl,rfl⟩
section
variable {X:Cx} {pins:List (Addr×Obj)} {σ:St} {H:Hp} {s:Shared} {a:Addr} {y v:V} {u r:Value} {o:Option V} {A:Around} {E:Value→Shared→Prop}
theorem Inv.big(I:Inv X pins σ H s):sysModules < s.heap.objs.size:=by
 have h:mainGlobals < s.heap.objs.size:=(I.mod.glob.keeps I.bk).lt
 exact Nat.lt_trans (by decide) h
theorem d_getItem{Q:Value→Shared→Prop}(hu:A.units+1 < cLine)(I:Inv X pins σ H s)(g:DGet H a y (some v))(ry:RelV y u)(h:∀w' s',Inv X pins σ H s'→RelV v w'→Q w' s'):
 wpAny (model X.prog X.w) A (getItem (.ref a) u) Q E s:=by
 rcases g with ⟨kvs,k,e,ey,l⟩ | ⟨kvs,k,b,e,ey,eb,l⟩
 · subst ey
   obtain ⟨z,hd,vs,rel,dd⟩:=dk_rd I.hok e
   obtain ⟨w',hw,rw'⟩:=RelO.some_of (v:=v) (o:=valueAt vs k) (by rw [l];exact rel.val k)
   exact wpAny_getItem_of (kV_is ry) dd.mapOf hw (h w' _ (I.tok _) rw')
 · subst ey
   cases (show u=Value.ref b from ry)
   obtain ⟨z,hd,xs,rel,dd⟩:=dt_rd I.hok e
   obtain ⟨w',hw,rw'⟩:=RelO.some_of (v:=v) (o:=(atKey xs k).map (·.2)) (by rw [l];exact rel.val k)
   obtain ⟨p,hp,hp2⟩:=Option.map_eq_some_iff.mp hw
   refine wpAny_getItem_heap (tupleKind_room_in1 hu) (key_of I.hok eb) dd hp ?_
   rw [hp2]
   exact h w' _ (I.tok _) rw'
theorem d_in{Q:Value→Shared→Prop}(hu:A.units+1 < cLine)(I:Inv X pins σ H s)(g:DGet H a y o)(ry:RelV y u)(h:∀s',Inv X pins σ H s'→Q (.bool o.isSome) s'):
 wpAny (model X.prog X.w) A (compareOp .In u (.ref a)) Q E s:=by
 rcases g with ⟨kvs,k,e,ey,l⟩ | ⟨kvs,k,b,e,ey,eb,l⟩
 · subst ey
   obtain ⟨z,hd,vs,rel,dd⟩:=dk_rd I.hok e
   refine wpAny_in_of (kV_is ry) hd dd.mapOf ?_
   rw [← (rel.val k).isSome_eq,← l]
   exact h _ (I.tok _)
 · subst ey
   cases (show u=Value.ref b from ry)
   obtain ⟨z,hd,xs,rel,dd⟩:=dt_rd I.hok e
   refine wpAny_in_heap (tupleKind_room_in1 hu) (key_of I.hok eb) hd dd ?_
   have q:=(rel.val k).isSome_eq
   rw [Option.isSome_map]at q
   rw [← q,← l]
   exact h _ (I.tok _)
theorem d_notIn{Q:Value→Shared→Prop}(hu:A.units+1 < cLine)(I:Inv X pins σ H s)(g:DGet H a y o)(ry:RelV y u)(h:∀s',Inv X pins σ H s'→Q (.bool (!o.isSome)) s'):
 wpAny (model X.prog X.w) A (compareOp .NotIn u (.ref a)) Q E s:=by
 rcases g with ⟨kvs,k,e,ey,l⟩ | ⟨kvs,k,b,e,ey,eb,l⟩
 · subst ey
   obtain ⟨z,hd,vs,rel,dd⟩:=dk_rd I.hok e
   refine wpAny_notIn_of (kV_is ry) hd dd.mapOf ?_
   rw [← (rel.val k).isSome_eq,← l]
   exact h _ (I.tok _)
 · subst ey
   cases (show u=Value.ref b from ry)
   obtain ⟨z,hd,xs,rel,dd⟩:=dt_rd I.hok e
   refine wpAny_notIn_heap (tupleKind_room_in1 hu) (key_of I.hok eb) hd dd ?_
   have q:=(rel.val k).isSome_eq
   rw [Option.isSome_map]at q
   rw [← q,← l]
   exact h _ (I.tok _)
theorem d_write{h':Heap}{t':Nat}{ob:HO}(I:Inv X pins σ H s)(mu:Mut (H a))(hs:Heap.SameBut a s.heap h')(he:∃q,h'.get? a=some q)(new:ObjOk X.prog X.w (upd H a ob) h' a ob):
 Inv X pins σ (upd H a ob) {s with heap:=h',toks:=t'}:=
 I.write (x:=a) (e:=a) mu (.inl rfl) (fun b q hb z=>(hs.2 b hb).trans z) he new
theorem dk_new{P:Program}{w:World}{H':Hp}{h':Heap}{kvs:List (Key×V)}{vs:List (Key×Value)}(z:kvs.length≤sizeLine)(hd:(a==sysModules)=false)(rel:KV kvs vs)(dd:h'.DictOf (mixKind P w) a vs):
 ObjOk P w H' h' a (.dK kvs):=⟨z,hd,vs,rel,dd⟩
theorem d_setItem{H':Hp}{Q:Unit→Shared→Prop}(hu:A.units+1 < cLine)(I:Inv X pins σ H s)(g:DPut H a y v H')(ry:RelV y u)(rv:RelV v r)(h:∀s',Inv X pins σ H' s'→Q () s'):
 wpAny (model X.prog X.w) A (setItem (.ref a) u r) Q E s:=by
 rcases g with ⟨kvs,k,e,ey,l,eH⟩ | ⟨kvs,k,b,e,ey,eb,l,eH⟩
 · subst ey eH
   obtain ⟨z,hd,vs,rel,dd⟩:=dk_of I.hok e
   have hz:vs.length≤sizeLine:=by rw [← rel.length];exact z
   have hl:(putK kvs k v).length≤sizeLine:=by have:=length_putK kvs k v;omega
   refine wpAny_setItem_pairs (hsz:=hz) (kV_is ry) dd fun h' dd' hs=>h _ ?_
   have he:∃q,h'.get? a=some q:=let ⟨q,_,_,hq,_⟩:=dd';⟨q,hq⟩
   exact d_write I (by rw [e];exact True.intro) hs he (dk_new hl hd (rel.put k rv) dd')
 · subst ey eH
   cases (show u=Value.ref b from ry)
   obtain ⟨z,hd,xs,rel,dd⟩:=dt_of I.hok e
   have hz:xs.length≤sizeLine:=by rw [← Paired.length rel];exact z
   have hl:(putK kvs k v).length≤sizeLine:=by have:=length_putK kvs k v;omega
   refine wpAny_setItem_heap (hsz:=hz) (tupleKind_room_in1 hu) (key_of I.hok eb) dd fun h' dd' hs=>h _ ?_
   obtain ⟨q,es,ep,hq,h2,h3,h4,_,h5⟩:=dd'
   refine d_write I (by rw [e];exact True.intro) hs ⟨q,hq⟩ ⟨hl,hd,_,(rel.put k eb rv).keeps fun c ys ec=>?_,q,es,ep,hq,h2,h3,h4,h5⟩
   rw [upd_ne (ne_of ec e (fun z=>nomatch z))]
   exact ec
end
section
variable {X:Cx} {pins:List (Addr×Obj)} {σ:St} {H:Hp} {s:Shared} {a:Addr} {kvs:List (Key×V)} {k:Key} {u:Value} {A:Around} {E:Value→Shared→Prop}
theorem d_pop{v:V}{more:List Value}{Q:Value→Shared→Prop}(I:Inv X pins σ H s)(e:H a=some (.dK kvs))(ry:RelV (kV k) u)(l:valV kvs k=some v)(hm:more=[]∨∃x,more=[x])
 (h:∀w' s',Inv X pins σ (upd H a (.dK (dropK kvs k))) s'→RelV v w'→Q w' s'):wpAny (model X.prog X.w) A (call (.builtin "dict.pop") (.ref a::u::more)) Q E s:=by
 obtain ⟨z,hd,vs,rel,dd⟩:=dk_of I.hok e
 obtain ⟨w',hw,rw'⟩:=RelO.some_of (v:=v) (o:=valueAt vs k) (by rw [← l];exact rel.val k)
 have hp:(keyPart u).isSome=true:=by
  cases k with
  | inl i=>obtain ⟨t,q⟩:=(show ∃t,u=Value.int i t from ry);subst q;rfl
  | inr x=>obtain ⟨t,q⟩:=(show ∃t,u=Value.str x t from ry);subst q;rfl
 have ha:argsOk "dict.pop" ⟨.ref a::u::more,[]⟩:=by
  rcases hm with q | ⟨x,q⟩
  · subst q;exact PySem.F.args_dict_pop_2 _ _
  · subst q;exact PySem.F.args_dict_pop_3 _ _ _
 refine call_meetsIn PySem.F.slot_dict_pop dd.typeIs PySem.F.entry_dict_pop ha (meets_dict_pop_there (mixKind X.prog X.w) a (kV_is ry) more hm hp)
  ⟨vs,w',dd,by rw [← rel.length];exact z,hw,fun h' dd' hs=>h w' _ ?_ rw'⟩
 have he:∃q,h'.get? a=some q:=let ⟨q,_,_,hq,_⟩:=dd';⟨q,hq⟩
 exact d_write I (by rw [e];exact True.intro) hs he (dk_new (Nat.le_trans (dropK_le kvs k) z) hd (rel.drop k) dd')
theorem d_len{Q:Value→Shared→Prop}(I:Inv X pins σ H s)(e:Rd H a (.dK kvs))(h:∀t s',Inv X pins σ H s'→Q (.int kvs.length t) s'):wpAny (model X.prog X.w) A (call (.builtin "len") [.ref a]) Q E s:=by
 obtain ⟨z,hd,vs,rel,dd⟩:=dk_rd I.hok e
 refine call_len_dict hd dd (by rw [← rel.length];rw [sizeLine_eq]at z;omega) ?_
 rw [← rel.length]
 exact h _ _ (I.tok _)
end
noncomputable def NoSl(i:Expr):Prop:=∀ov iv,subscripted i false ov iv=operate [ov,iv] (getItem ov iv)
theorem subD_of{prog:Program}{w:World}{A:Around}{E:Value→Shared→Prop}{s:Shared}{env:Env}{value slice:Expr}{pos:Pos}{T id:String}{Q:Value→Shared→Prop}
 (hl:typeLookup (.type T) "__getitem__"=pure (some (.builtin id))) (hs:NoSl slice)
 (h:wpAny (model prog w) A (eval value env) (fun o s₁=>wpAny (model prog w) A (eval slice env) (fun i s₂=>s₂.TypeIs o T∧wpAny (model prog w) A (getItem o i) Q E s₂) E s₁) E s):
 wpAny (model prog w) A (eval (.Subscript value slice pos) env) Q E s:=by
 refine Subscript_ (wpAny_mono h (fun o s₁ h₁=>wpAny_mono h₁ (fun i s₂ h₂=>?_) fun _ _ x=>x) fun _ _ x=>x)
 obtain ⟨hT,h₂⟩:=h₂
 unfold subscriptTail
 refine wpAny_bind ?_
 rw [getitemInPython_of_ne hT.not_modules]
 refine wpAny_bind (wpAny_specialOf hT hl ?_)
 have fin:wpAny (model prog w) A (subscripted slice false o i) (fun r s₃=>wpAny (model prog w) A (letTemporaryGo value o r >>=fun _=>pure r) Q E s₃) E s₂:=by
  rw [hs o i]
  exact wpAny_operating (wpAny_mono h₂ (fun r s₃ h₃=>wpAny_bind (wpAny_letTemporaryGo (wpAny_pure h₃))) fun _ _ x=>x)
 first
  | exact wpAny_pure (wpAny_bind fin)
  | exact wpAny_bind (wpAny_pure (wpAny_bind fin))
  | exact wpAny_bind fin
theorem dict_typeIs{X:Cx}{pins:List (Addr×Obj)}{σ:St}{H:Hp}{s:Shared}{a:Addr}{y:V}{o:Option V}(I:Inv X pins σ H s)(g:DGet H a y o):s.TypeIs (.ref a) "dict":=by
 rcases g with ⟨kvs,k,e,_,_⟩ | ⟨kvs,k,b,e,_,_,_⟩
 · obtain ⟨_,_,vs,_,dd⟩:=dk_rd I.hok e
   exact dd.typeIs
 · obtain ⟨_,_,xs,_,dd⟩:=dt_rd I.hok e
   exact dd.typeIs
noncomputable def tDGet(td ty:TE):TE:=fun σ H Q=>td σ H fun x H1=>ty σ H1 fun y H2=>∃a v,x= .ref a∧DGet H2 a y (some v)∧Q v H2
noncomputable def tDIn(ty td:TE):TE:=fun σ H Q=>ty σ H fun y H1=>td σ H1 fun x H2=>∃a o,x= .ref a∧DGet H2 a y o∧Q (.bl o.isSome) H2
noncomputable def tDNotIn(ty td:TE):TE:=fun σ H Q=>ty σ H fun y H1=>td σ H1 fun x H2=>∃a o,x= .ref a∧DGet H2 a y o∧Q (.bl (!o.isSome)) H2
noncomputable def sDPut(td ty tv:TE):TS:=fun D σ H=>tv σ H fun v H1=>td σ H1 fun x H2=>ty σ H2 fun y H3=>∃a H4,x= .ref a∧DPut H3 a y v H4∧D.nx σ H4
section
variable {X:Cx} {o i e value:Expr} {pos pos' tpos:Pos} {td ty tv:TE}
theorem pe_dget(hu:X.A.units+1 < cLine)(ho:PE X o td)(hi:PE X i ty)(hs:NoSl i):PE X (.Subscript o i pos) (tDGet td ty):=by
 intro pins s σ H Q I h
 refine subD_of PySem.F.slot_dict_getitem.lookup hs (thn (ho pins s σ H _ I h) fun u s1 ⟨x,H1,I1,rx,q1⟩=>thn (hi pins s1 σ H1 _ I1 q1) fun iv s2 ⟨y,H2,I2,ry,a,v,ex,g,q2⟩=>?_)
 subst ex
 obtain rfl:u=Value.ref a:=rx
 exact ⟨dict_typeIs I2 g,d_getItem hu I2 g ry fun w' s3 I3 rw'=>⟨v,H2,I3,rw',q2⟩⟩
theorem pc_din(hu:X.A.units+1 < cLine)(hi:PE X i ty)(ho:PE X o td):PC X .In i o (tDIn ty td):=by
 intro pins s σ H Q I h
 refine thn (hi pins s σ H _ I h) fun iv s1 ⟨y,H1,I1,ry,q1⟩=>thn (ho pins s1 σ H1 _ I1 q1) fun u s2 ⟨x,H2,I2,rx,a,ov,ex,g,q2⟩=>?_
 subst ex
 obtain rfl:u=Value.ref a:=rx
 exact d_in hu I2 g ry fun s3 I3=>⟨.bl ov.isSome,H2,I3,rfl,q2⟩
theorem pc_dnotin(hu:X.A.units+1 < cLine)(hi:PE X i ty)(ho:PE X o td):PC X .NotIn i o (tDNotIn ty td):=by
 intro pins s σ H Q I h
 refine thn (hi pins s σ H _ I h) fun iv s1 ⟨y,H1,I1,ry,q1⟩=>thn (ho pins s1 σ H1 _ I1 q1) fun u s2 ⟨x,H2,I2,rx,a,ov,ex,g,q2⟩=>?_
 subst ex
 obtain rfl:u=Value.ref a:=rx
 exact d_notIn hu I2 g ry fun s3 I3=>⟨.bl (!ov.isSome),H2,I3,rfl,q2⟩
theorem ps_dput(hu:X.A.units+1 < cLine)(ho:PE X o td)(hi:PE X i ty)(hv:PE X value tv)(hs:swapsWith value (some (.Subscript o i pos')) pos.line X.env=pure false):
 PS X (.Assign [.Subscript o i pos'] value pos) (sDPut td ty tv):=by
 intro pins s σ H D I h
 refine wpAny_Assign_Subscript (thn (hv pins s σ H _ I h) fun r s1 ⟨v,H1,I1,rv,q1⟩=>thn (ho pins s1 σ H1 _ I1 q1) fun u s2 ⟨x,H2,I2,rx,q2⟩=>thn (hi pins s2 σ H2 _ I2 q2) fun iv s3 ⟨y,H3,I3,ry,a,H4,ex,g,q3⟩=>?_) hs
 subst ex
 obtain rfl:u=Value.ref a:=rx
 exact d_setItem hu I3 g ry rv fun s4 I4=>⟨σ,H4,I4,q3⟩
end
theorem dk_empty{P:Program}{w:World}{H:Hp}(h:Heap)(hb:sysModules < h.objs.size):ObjOk P w H (h.push {cls:= .type "dict",data:= .dict #[]}) h.objs.size (.dK []):=
 ⟨Nat.zero_le _,beq_eq_false_iff_ne.mpr (Ne.symm (Nat.ne_of_lt hb)),[],.nil,Heap.DictOf.new h⟩
noncomputable def tDNewK:TE:=fun _ H Q=>∀p,H p=none→Q (.ref p) (upd H p (.dK []))
section
variable {X:Cx} {pos:Pos}
theorem pe_dnewK:PE X (.Dict [] [] pos) tDNewK:=fun pins s σ H Q I h=>
 wpAny_Dict_empty ⟨.ref s.heap.objs.size,_,I.laid (a:=s.heap.objs.size) (o:= .dK []) (t':=s.toks) (fun _ _ q=>Heap.get?_push_of_some _ q) (Nat.le_refl _) (dk_empty s.heap I.big),rfl,h _ (I.hok.fresh (Nat.le_refl _))⟩
end
structure M1(X:Cx)(o:Expr)(m:Str)(apos:Pos)(e:Expr)(cpos:Pos):Prop where
 base:attributeBase o m X.env (eval o X.env)=eval o X.env
 few:((backTo cpos (starEach [e] X.env)).all (fun x=>!x.1) && (backToKw cpos (keywordEach [] X.env)).all (fun x=>x.1.isSome)
  && decide (([e]:List Expr).length+([]:List Keyword).length+(if ([]:List Keyword).isEmpty then 0 else 1) < 30))=true
 line:(apos.endLine==cpos.line)=true
 trees:backTo cpos (starEach [e] X.env)=[(false,eval e X.env)]
structure M2(X:Cx)(o:Expr)(m:Str)(apos:Pos)(e f:Expr)(cpos:Pos):Prop where
 base:attributeBase o m X.env (eval o X.env)=eval o X.env
 few:((backTo cpos (starEach [e,f] X.env)).all (fun x=>!x.1) && (backToKw cpos (keywordEach [] X.env)).all (fun x=>x.1.isSome)
  && decide (([e,f]:List Expr).length+([]:List Keyword).length+(if ([]:List Keyword).isEmpty then 0 else 1) < 30))=true
 line:(apos.endLine==cpos.line)=true
 trees:backTo cpos (starEach [e,f] X.env)=[(false,eval e X.env),(false,eval f X.env)]
noncomputable def IsD(H:Hp)(a:Addr):Prop:=(∃kvs,Rd H a (.dK kvs))∨∃kvs,Rd H a (.dT kvs)
theorem isD_at{X:Cx}{pins:List (Addr×Obj)}{σ:St}{H:Hp}{s:Shared}{a:Addr}(I:Inv X pins σ H s)(d:IsD H a):
 s.TypeIs (.ref a) "dict"∧(∀b,Value.ref a= .ref b→∃ob,s.heap.get? b=some ob∧ob.dict=none)∧(a==sysModules)=false:=by
 rcases d with ⟨kvs,e⟩ | ⟨kvs,e⟩
 · obtain ⟨_,hd,vs,_,dd⟩:=dk_rd I.hok e
   refine ⟨dd.typeIs,fun b q=>?_,hd⟩
   cases q
   obtain ⟨ob,_,_,h1,h2,_⟩:=dd
   exact ⟨ob,h1,h2.2.1⟩
 · obtain ⟨_,hd,xs,_,dd⟩:=dt_rd I.hok e
   refine ⟨dd.typeIs,fun b q=>?_,hd⟩
   cases q
   obtain ⟨ob,_,_,h1,h2,_⟩:=dd
   exact ⟨ob,h1,h2.2.1⟩
section
variable {X:Cx} {pins:List (Addr×Obj)} {σ:St} {H:Hp} {s:Shared} {a:Addr} {y d:V} {u r:Value} {o:Option V} {A:Around} {E:Value→Shared→Prop}
theorem d_get2{Q:Value→Shared→Prop}(hu:A.units+1 < cLine)(I:Inv X pins σ H s)(g:DGet H a y o)(ry:RelV y u)(rd:RelV d r)(h:∀w' s',Inv X pins σ H s'→RelV (o.getD d) w'→Q w' s'):
 wpAny (model X.prog X.w) A (call (.builtin "dict.get") [.ref a,u,r]) Q E s:=by
 rcases g with ⟨kvs,k,e,ey,l⟩ | ⟨kvs,k,b,e,ey,eb,l⟩
 · subst ey
   obtain ⟨z,hd,vs,rel,dd⟩:=dk_rd I.hok e
   refine call_meetsIn PySem.F.slot_dict_get dd.typeIs PySem.F.entry_dict_get (PySem.F.args_dict_get_3 _ _ _) (meets_dict_get_default (mixKind X.prog X.w) a (kV_is ry) hd r) ⟨_,dd.mapOf,h _ _ (I.tok _) ?_⟩
   rw [l]
   exact (rel.val k).getD rd
 · subst ey
   cases (show u=Value.ref b from ry)
   obtain ⟨z,hd,xs,rel,dd⟩:=dt_rd I.hok e
   refine call_meetsIn PySem.F.slot_dict_get dd.typeIs PySem.F.entry_dict_get (PySem.F.args_dict_get_3 _ _ _) (meetsH_dict_get_default (tupleKind (mixKind X.prog X.w)) a b hd r) ⟨tupleKind_room_in1 hu,k,xs,key_of I.hok eb,dd,h _ _ (I.tok _) ?_⟩
   rw [l]
   exact (rel.val k).getD rd
end
noncomputable def tDGet2(td ty tx:TE):TE:=fun σ H Q=>td σ H fun x H1=>∃a,x= .ref a∧IsD H1 a∧ty σ H1 fun y H2=>tx σ H2 fun z H3=>∃o,DGet H3 a y o∧Q (o.getD z) H3
noncomputable def tDPop1(td ty:TE):TE:=fun σ H Q=>td σ H fun x H1=>∃a,x= .ref a∧IsD H1 a∧ty σ H1 fun y H2=>∃kvs k v,H2 a=some (.dK kvs)∧y=kV k∧valV kvs k=some v∧Q v (upd H2 a (.dK (dropK kvs k)))
section
variable {X:Cx} {o e f:Expr} {apos cpos:Pos} {td ty tx:TE}
theorem pe_dget2(hu:X.A.units+1 < cLine)(ho:PE X o td)(he:PE X e ty)(hf:PE X f tx)(m:M2 X o "get" apos e f cpos):PE X (.Call (.Attribute o "get" apos) [e,f] [] cpos) (tDGet2 td ty tx):=by
 intro pins s σ H Q I h
 refine wpAny_Call_method m.base m.few m.line PySem.F.plainAttrs_dict PySem.F.slot_dict_get PySem.F.type_dict_get (thn (ho pins s σ H _ I h) fun u s1 ⟨x,H1,I1,rx,a,ex,d,q1⟩=>?_)
 subst ex
 obtain rfl:u=Value.ref a:=rx
 obtain ⟨t1,t2,_⟩:=isD_at I1 d
 refine ⟨t1,t2,?_⟩
 rw [m.trees]
 refine Calls.callWith_builtin rfl (Calls.evalArgs_plain (Calls.spliced_cons (thn (he pins s1 σ H1 _ I1 q1) fun iv s2 ⟨y,H2,I2,ry,q2⟩=>
  Calls.spliced_cons (thn (hf pins s2 σ H2 _ I2 q2) fun fv s3 ⟨z,H3,I3,rz,ov,g,q3⟩=>Calls.spliced_nil ?_))))
 exact d_get2 hu I3 g ry rz fun w' s4 I4 rw'=>⟨_,H3,I4,rw',q3⟩
theorem pe_dpop1(ho:PE X o td)(he:PE X e ty)(m:M1 X o "pop" apos e cpos):PE X (.Call (.Attribute o "pop" apos) [e] [] cpos) (tDPop1 td ty):=by
 intro pins s σ H Q I h
 refine wpAny_Call_method m.base m.few m.line PySem.F.plainAttrs_dict PySem.F.slot_dict_pop PySem.F.type_dict_pop (thn (ho pins s σ H _ I h) fun u s1 ⟨x,H1,I1,rx,a,ex,d,q1⟩=>?_)
 subst ex
 obtain rfl:u=Value.ref a:=rx
 obtain ⟨t1,t2,_⟩:=isD_at I1 d
 refine ⟨t1,t2,?_⟩
 rw [m.trees]
 refine Calls.callWith_builtin rfl (Calls.evalArgs_plain (Calls.spliced_cons (thn (he pins s1 σ H1 _ I1 q1) fun iv s2 ⟨y,H2,I2,ry,kvs,k,v,ea,ey,l,q2⟩=>Calls.spliced_nil ?_)))
 subst ey
 exact d_pop I2 ea ry l (.inl rfl) fun w' s3 I3 rw'=>⟨v,_,I3,rw',q2⟩
end
end L2
namespace L2
section
variable {X:Cx}
theorem call_lenD:CallR X (.builtin "len") (fun xs H Q=>∃a kvs,xs=[V.ref a]∧H a=some (.dK kvs)∧Q (.int kvs.length) H):=by
 intro pins s σ H xs us Q I r h
 obtain ⟨a,kvs,rfl,ha,q⟩:=h
 obtain ⟨u,rfl,ru⟩:=vals1 r
 cases ru
 exact d_len I (.inl ha) fun t s' I'=>⟨.int kvs.length,H,I',⟨t,rfl⟩,q⟩
end
section
variable {κ:Type} [DecidableEq κ]
theorem valV_not{kvs:List (κ×V)}{k:κ}(h:valV kvs k=none):¬k∈kvs.map (·.1):=by
 intro m
 obtain ⟨p,hp,e⟩:=List.mem_map.mp m
 have q:(kvs.any fun kv=>decide (kv.1=k))=true:=List.any_eq_true.mpr ⟨p,hp,decide_eq_true e⟩
 rw [valV_any,h]at q
 exact absurd q (by simp)
theorem valV_in{kvs:List (κ×V)}{k:κ}{v:V}(h:valV kvs k=some v):k∈kvs.map (·.1):=by
 have q:(kvs.any fun kv=>decide (kv.1=k))=true:=by
  rw [valV_any,h]
  all_goals rfl
 obtain ⟨p,hp,e⟩:=List.any_eq_true.mp q
 exact List.mem_map.mpr ⟨p,hp,of_decide_eq_true e⟩
end
end L2
namespace L2
structure Def(P:Program)(w:World)(K:PySem.W.Frag)(mg:Str→Option Value)(base:Heap)(CX:CXT)(k:Nat)(x:Str)(ps:List Str)(sp:Sp):Prop where
 ex:∃(f:Addr) (fd:FuncData),FnOk P w K mg base CX k f fd ps sp∧mg x=some (.ref f)∧PySem.W.keepIn K (.ref f)=true∧Binds K fd ps []
noncomputable def tCallD(sp:Sp)(E:XK)(t:TA):TE:=fun σ H Q=>t σ H fun vs H1=>sp vs H1 Q E
section
variable {X:Cx} {CX:CXT} {k j:Nat} {ps:List Str} {sp:Sp} {E:XK} {x:Str} {p pos:Pos} {e:Expr} {es:List Expr} {t:TA}
theorem pe_callD(D:Def X.prog X.w X.K X.mg X.base CX j x ps sp)(hr:Room k X.A)(hg:Gl X x)(hx:Passes CX X E)(ha:PA X (e::es) t)(hj:j≤k:=by decide)
 (hdb:(x==("__debug__":Str))=false:=by decide) (he:starEach (e::es) X.env=(false,eval e X.env)::starEach es X.env:=by rfl) (hpl:(backTo pos (starEach es X.env)).any (·.1)=false:=by rfl):
 PE X (.Call (.Name x p) (e::es) [] pos) (tCallD sp E t):=by
 obtain ⟨f,fd,F,hm,hk,hb⟩:=D.ex
 intro pins s σ H Q I h
 refine pe_call (F.mono hj) hr hg hm hk hb .nil hx ha hdb he hpl pins s σ H Q I ?_
 show t σ H fun vs H1=>sp (vs++[]) H1 Q E
 have z:(fun (vs:List V) (H1:Hp)=>sp (vs++[]) H1 Q E)=fun vs H1=>sp vs H1 Q E:=by funext vs H1;rw [List.append_nil]
 rw [z]
 exact h
end
noncomputable def CBig(i j:Int):Prop:=i.natAbs < 10 ^ 100∧j.natAbs < 10 ^ 100
theorem big_pow:(10:Nat) ^ 100≤2 ^ 1000:=by decide+kernel
theorem bits_of{i:Int}(h:i.natAbs < 10 ^ 100):Builtin.Int.intBits i≤2 ^ 20:=by
 have h1:Builtin.Int.intBits i≤1000:=by
  unfold Builtin.Int.intBits
  split
  · omega
  · rename_i hne
    have:=(Nat.log2_lt (n:=i.natAbs) (k:=1000) (by simpa using hne)).mpr (Nat.lt_of_lt_of_le h big_pow)
    omega
 exact Nat.le_trans h1 (by decide)
section
variable {X:Cx}
theorem op_mulB:OpR X (binaryOp .Mult) (rI CBig fun i j=> .int (i * j)):=opI fun _ _ _ _ _ _ _ hc q=>mul_int q (.of_bits (bits_of hc.1) (bits_of hc.2))
theorem op_fdivB:OpR X (binaryOp .FloorDiv) (rI (fun _ j=>j≠0∧j.natAbs < 10 ^ 100) fun i j=> .int (i.fdiv j)):=opI fun i j _ _ _ _ _ hc q=>by
 refine floordiv_int hc.1 q (.inl (PyProof.noPylong_of_log2 ?_))
 have h0:j.natAbs≠0:=by have:=hc.1;omega
 exact Nat.lt_trans ((Nat.log2_lt h0).mpr (Nat.lt_of_lt_of_le hc.2 big_pow)) (by decide)
end
noncomputable def Isi(K:PySem.W.Frag)(H:Hp)(x:V)(n:String)(b:Bool):Prop:=∃t,TyOf K H x t∧PySem.W.kitOne K t (.type n)=some b
section
variable {X:Cx}
theorem call_isinst:CallR X (.builtin "isinstance") (fun xs H Q=>∃x n b,xs=[x,.ty n]∧Isi X.K H x n b∧Q (.bl b) H):=by
 intro pins s σ H xs us Q I r h
 obtain ⟨x,n,b,rfl,⟨t,ty,e⟩,q⟩:=h
 obtain ⟨u,c,rfl,r1,r2⟩:=vals2 r
 cases r2
 exact isinst_ok I r1 ty e fun tk=>⟨.bl b,H,I.tok _,rfl,q⟩
end
section
variable {K:PySem.W.Frag} {H:Hp}
theorem isi_ii{i:Int}:Isi K H (.int i) "int" true:=⟨_,.int i,rfl⟩
theorem isi_ib{i:Int}:Isi K H (.int i) "bool" false:=⟨_,.int i,by with_unfolding_all rfl⟩
theorem isi_is{i:Int}:Isi K H (.int i) "str" false:=⟨_,.int i,by with_unfolding_all rfl⟩
theorem isi_bb{i:Bool}:Isi K H (.bl i) "bool" true:=⟨_,.bl i,rfl⟩
theorem isi_bi{i:Bool}:Isi K H (.bl i) "int" true:=⟨_,.bl i,by with_unfolding_all rfl⟩
theorem isi_bs{i:Bool}:Isi K H (.bl i) "str" false:=⟨_,.bl i,by with_unfolding_all rfl⟩
theorem isi_ss{i:Str}:Isi K H (.str i) "str" true:=⟨_,.str i,rfl⟩
theorem isi_si{i:Str}:Isi K H (.str i) "int" false:=⟨_,.str i,by with_unfolding_all rfl⟩
theorem isi_sb{i:Str}:Isi K H (.str i) "bool" false:=⟨_,.str i,by with_unfolding_all rfl⟩
theorem isi_ni:Isi K H .non "int" false:=⟨_,.non,by with_unfolding_all rfl⟩
theorem isi_ns:Isi K H .non "str" false:=⟨_,.non,by with_unfolding_all rfl⟩
theorem isi_lstl{a:Addr}{xs:List V}(e:H a=some (.lst xs)):Isi K H (.ref a) "list" true:=⟨_,.lst e,rfl⟩
theorem isi_lsts{a:Addr}{xs:List V}(e:H a=some (.lst xs)):Isi K H (.ref a) "str" false:=⟨_,.lst e,by with_unfolding_all rfl⟩
theorem isi_lsti{a:Addr}{xs:List V}(e:H a=some (.lst xs)):Isi K H (.ref a) "int" false:=⟨_,.lst e,by with_unfolding_all rfl⟩
theorem isi_lstt{a:Addr}{xs:List V}(e:H a=some (.lst xs)):Isi K H (.ref a) "tuple" false:=⟨_,.lst e,by with_unfolding_all rfl⟩
theorem isi_tupt{a:Addr}{xs:List V}(e:H a=some (.tup xs)):Isi K H (.ref a) "tuple" true:=⟨_,.tup e,rfl⟩
theorem isi_tups{a:Addr}{xs:List V}(e:H a=some (.tup xs)):Isi K H (.ref a) "str" false:=⟨_,.tup e,by with_unfolding_all rfl⟩
theorem isi_tupi{a:Addr}{xs:List V}(e:H a=some (.tup xs)):Isi K H (.ref a) "int" false:=⟨_,.tup e,by with_unfolding_all rfl⟩
theorem isi_tupl{a:Addr}{xs:List V}(e:H a=some (.tup xs)):Isi K H (.ref a) "list" false:=⟨_,.tup e,by with_unfolding_all rfl⟩
theorem isi_go{x:V}{n:String}{b:Bool}{R:Bool→Prop}(h:Isi K H x n b)(q:R b):∃b,Isi K H x n b∧R b:=⟨b,h,q⟩
theorem len_goL{p:Addr}{xs:List V}{R:List V→Prop}(h:SqL K H p xs)(q:R xs):∃ys,(SqL K H p ys∨SqT K H p ys)∧R ys:=⟨xs,.inl h,q⟩
theorem len_goT{p:Addr}{xs:List V}{R:List V→Prop}(h:SqT K H p xs)(q:R xs):∃ys,(SqL K H p ys∨SqT K H p ys)∧R ys:=⟨xs,.inr h,q⟩
theorem ixT_of{p:Addr}{xs:List V}{i:Int}{v:V}{Q:VK}(h:SqT K H p xs)(e:atI xs i=some v)(q:Q v H):rIxT K (.ref p) (.int i) H Q:=⟨p,xs,i,v,rfl,rfl,h,e,q⟩
theorem ixL_of{p:Addr}{xs:List V}{i:Int}{v:V}{Q:VK}(h:SqL K H p xs)(e:atI xs i=some v)(q:Q v H):rIxL K (.ref p) (.int i) H Q:=⟨p,xs,i,v,rfl,rfl,h,e,q⟩
end
theorem atI_of{α:Type}{xs:List α}{i:Int}{v:α}(h0:0≤i)(h:xs[i.toNat]?=some v):atI xs i=some v:=by
 unfold atI ixN
 have hl:i.toNat < xs.length:=(List.getElem?_eq_some_iff.mp h).1
 rw [if_pos h0,if_pos (show i < xs.length by omega)]
 exact h
theorem cxOf_K{CX:CXT}{P:Program}{w:World}{K:PySem.W.Frag}{mg:Str→Option Value}{base:Heap}{N:List Str}{qual:Str}{scope:Scope}{f:Addr}{cd:Value}{A:Around}{outer:List Env}{s:Shared}{H:Hp}{E:XK}:
 (cxOf CX P w K mg base N qual scope f cd A outer s H E).K=K:=rfl
theorem getMap{ns:List Int}{k:Nat}(h:k < ns.length):(ns.map V.int)[k]?=some (V.int (ns.getD k 0)):=by
 rw [List.getElem?_map,List.getD_eq_getElem?_getD,List.getElem?_eq_getElem h];rfl
theorem Same.tup{K:PySem.W.Frag}{H H':Hp}{a:Addr}{xs:List V}(e:Same H H')(h:SqT K H a xs):SqT K H' a xs:=by
 rcases h with (h | ⟨o,h⟩) | h
 · exact .inl (.inl (e _ _ h))
 · exact .inl (.inr ⟨o,e _ _ h⟩)
 · exact .inr h
theorem Same.new{H:Hp}{p:Addr}{o:HO}(h:H p=none):Same H (upd H p o):=fun b u e=>by
 rw [upd_ne (ne_of_none e h)];exact e
section
variable {σ:St} {H:Hp} {Q:VK} {QT:Bool→Hp→Prop} {QA:List V→Hp→Prop} {D:Ends} {K:PySem.W.Frag}
theorem rd_asg{te:TE}{g:TG}:tAsg te g D σ H=te σ H fun x H1=>g x σ H1 D.nx:=rfl
theorem rd_var{i:Nat}:tVar i σ H Q=∃v,σ[i]?=some (some v)∧Q v H:=rfl
theorem rd_c{v:V}:tC v σ H Q=Q v H:=rfl
theorem rd_op{r:R2}{ta tb:TE}:tOp r ta tb σ H Q=ta σ H fun x H1=>tb σ H1 fun y H2=>r x y H2 Q:=rfl
theorem rd_I0{g:Int→Int→V}{x y:V}:rI0 g x y H Q=∃i j,x= .int i∧y= .int j∧Q (g i j) H:=rfl
theorem rd_I{C:Int→Int→Prop}{g:Int→Int→V}{x y:V}:rI C g x y H Q=∃i j,x= .int i∧y= .int j∧C i j∧Q (g i j) H:=rfl
theorem rd_U{g:Int→V}{x:V}:rU g x H Q=∃i,x= .int i∧Q (g i) H:=rfl
theorem rd_name{i:Nat}{v:V}{N:St→Hp→Prop}:gName i v σ H N=N (σ.set i (some v)) H:=rfl
theorem rd_ifS{c:TT}{t u:TS}:tIfS c t u D σ H=c σ H fun b H1=>if b=true then t D σ H1 else u D σ H1:=rfl
theorem rd_test{t:TE}:tTest t σ H QT=t σ H fun x H'=>∃k,x= .bl k∧QT k H':=rfl
theorem rd_b{t:TE}:tB t σ H QT=t σ H fun x H1=>∃c,x= .bl c∧QT c H1:=rfl
theorem rd_ret{te:TE}:tRet te D σ H=te σ H D.rt:=rfl
theorem rd_retN:tRetN D σ H=D.rt .non H:=rfl
theorem rd_next:tNext D σ H=D.nx σ H:=rfl
theorem rd_break:tBreak D σ H=D.bk σ H:=rfl
theorem rd_cont:tCont D σ H=D.ct σ H:=rfl
theorem rd_cb{r:List V→Hp→VK→Prop}{t:TA}:tCB r t σ H Q=t σ H fun vs H1=>r vs H1 Q:=rfl
theorem rd_cons{ta:TE}{tr:TA}:tCons ta tr σ H QA=ta σ H fun x H1=>tr σ H1 fun xs H2=>QA (x::xs) H2:=rfl
theorem rd_nil:tNil σ H QA=QA [] H:=rfl
theorem rd_call{sp:Sp}{E:XK}{t:TA}:tCallD sp E t σ H Q=t σ H fun vs H1=>sp vs H1 Q E:=rfl
theorem rd_not{t:TT}:tNot t σ H QT=t σ H fun c H1=>QT (!c) H1:=rfl
theorem rd_or{t u:TT}:tOr t u σ H QT=t σ H fun c H1=>if c=true then QT true H1 else u σ H1 QT:=rfl
theorem rd_and{t u:TT}:tAnd t u σ H QT=t σ H fun c H1=>if c=true then u σ H1 QT else QT false H1:=rfl
theorem rd_andV{ta tb:TE}:tAndV ta tb σ H Q=ta σ H fun x H1=>∃c,x= .bl c∧if c=true then tb σ H1 Q else Q (.bl false) H1:=rfl
theorem rd_orV{ta tb:TE}:tOrV ta tb σ H Q=ta σ H fun x H1=>∃c,x= .bl c∧if c=true then Q (.bl true) H1 else tb σ H1 Q:=rfl
theorem rd_notV{ta:TE}:tNotV ta σ H Q=ta σ H fun x H1=>∃c,x= .bl c∧Q (.bl (!c)) H1:=rfl
theorem rd_if{t:TT}{ta tb:TE}:tIf t ta tb σ H Q=t σ H fun c H1=>if c=true then ta σ H1 Q else tb σ H1 Q:=rfl
theorem rd_un{r:V→Hp→VK→Prop}{ta:TE}:tUn r ta σ H Q=ta σ H fun x H1=>r x H1 Q:=rfl
theorem rd_eq{x y:V}:rEq x y H Q=(scal x y=true∧Q (.bl (decide (x=y))) H):=rfl
theorem rd_ne{x y:V}:rNe x y H Q=(scal x y=true∧Q (.bl (!decide (x=y))) H):=rfl
theorem rd_par{i j:Nat}{ta:TA}:tPar i j ta D σ H=ta σ H fun vs H1=>∃v w,vs=[v,w]∧D.nx ((σ.set i (some v)).set j (some w)) H1:=rfl
theorem rd_tup{t:TA}:tTup t σ H Q=t σ H fun xs H1=>xs.length≤sizeLine∧∀p,H1 p=none→Q (.ref p) (upd H1 p (.tup xs)):=rfl
theorem rd_lst{t:TA}:tLst t σ H Q=t σ H fun xs H1=>xs.length≤sizeLine∧∀p,H1 p=none→Q (.ref p) (upd H1 p (.lst xs)):=rfl
theorem rd_never:tNever D σ H=False:=rfl
theorem rd_drop{te:TE}:tDrop te D σ H=te σ H fun _ H1=>D.nx σ H1:=rfl
theorem rd_gcons{t:TG}{u:TGs}{vs:List V}{N:St→Hp→Prop}:gCons t u vs σ H N=∃v r,vs=v::r∧t v σ H fun σ' H'=>u r σ' H' N:=rfl
theorem rd_gnil{vs:List V}{N:St→Hp→Prop}:gNil vs σ H N=(vs=[]∧N σ H):=rfl
theorem rd_gsub{to ti:TE}{t:TSet}{v:V}{N:St→Hp→Prop}:gSub to ti t v σ H N=to σ H fun o H1=>ti σ H1 fun i H2=>t o i v H2 fun H3=>N σ H3:=rfl
theorem rd_chain{r r':R2}{ta tb tc:TE}:tChain r r' ta tb tc σ H Q=ta σ H fun x H1=>tb σ H1 fun y H2=>r x y H2 fun z H3=>∃k,z= .bl k∧
 (if k=true then tc σ H3 fun w' H4=>r' y w' H4 Q else Q (.bl false) H3):=rfl
theorem rd_rng1{ta:TA}{R:It→Hp→Prop}:iRng1 ta σ H R=ta σ H fun vs H1=>∃j:Int,vs=[.int j]∧-(2 ^ 62)≤j∧j < 2 ^ 62∧R (Itr 0 j.toNat) H1:=rfl
theorem rd_rng2{ta:TA}{R:It→Hp→Prop}:iRng2 ta σ H R=ta σ H fun vs H1=>∃i j:Int,vs=[.int i,.int j]∧(-(2 ^ 62)≤i∧i < 2 ^ 62∧-(2 ^ 62)≤j∧j < 2 ^ 62)∧R (Itr i (j - i).toNat) H1:=rfl
theorem rd_ilist{tl:TE}{R:It→Hp→Prop}:iList K tl σ H R=tl σ H fun x H1=>∃a,x= .ref a∧(∃xs,SqL K H1 a xs)∧R (Itl K a) H1:=rfl
theorem rd_itup{tl:TE}{R:It→Hp→Prop}:iTup K tl σ H R=tl σ H fun x H1=>∃a,x= .ref a∧(∃xs,SqT K H1 a xs)∧R (Itt K a) H1:=rfl
noncomputable def ForTail(g:TG)(tb:TS)(D:Ends)(σ:St):It→Hp→Prop:=fun J H1=>∃W:Nat→Nat→St→Hp→Prop,(∃m,W 0 m σ H1)∧∀i m σ H,W i m σ H→
 (J.stop i H∧D.nx σ H)∨(J.go i H∧∃N:St→Hp→Prop,(∀σ' H',N σ' H'→∃m',m' < m∧W (i+1) m' σ' H')∧∀x H',J.yld i H x H'→g x σ H' fun σ2 H2=>tb {D with nx:=N,ct:=N,bk:=D.nx} σ2 H2)
theorem rd_for'{wi:TI}{g:TG}{tb:TS}:tFor wi g tb D σ H=wi σ H (ForTail g tb D σ):=rfl
theorem forR_by{lo:Int}{n:Nat}{g:TG}{tb:TS}(Pv:Nat→St→Hp→Prop)(h0:Pv 0 σ H)
 (hs:∀i σ H,i < n→Pv i σ H→g (.int (lo+i)) σ H fun σ2 H2=>tb {D with nx:=Pv (i+1),ct:=Pv (i+1),bk:=D.nx} σ2 H2) (hd:∀σ H,Pv n σ H→D.nx σ H):ForTail g tb D σ (Itr lo n) H:=for_range Pv h0 hs hd
theorem forL_by{a:Addr}{xs:List V}{g:TG}{tb:TS}(Pv:Nat→St→Hp→Prop)(h0:Pv 0 σ H)(hl:∀i σ H,i≤xs.length→Pv i σ H→SqL K H a xs)
 (hs:∀i x σ H,xs[i]?=some x→Pv i σ H→g x σ H fun σ2 H2=>tb {D with nx:=Pv (i+1),ct:=Pv (i+1),bk:=D.nx} σ2 H2) (hd:∀σ H,Pv xs.length σ H→D.nx σ H):ForTail g tb D σ (Itl K a) H:=for_list Pv h0 hl hs hd
theorem seq_go{t u:TS}(h:∀rest:St→Hp→Prop,rest=u D→t {D with nx:=rest} σ H):tSeq t u D σ H:=h _ rfl
theorem leaf_go{rest r:St→Hp→Prop}(h:rest=r)(q:r σ H):rest σ H:=by rw [h];exact q
theorem cell_go{a:Addr}{ns:List Int}{k:Int}{R:List Int→Prop}(h:SqL K H a (ns.map V.int))(h0:0≤k)(hl:ns.length≤63)(q:R ns):∃x:List Int,SqL K H a (x.map V.int)∧0≤k∧x.length≤63∧R x:=⟨ns,h,h0,hl,q⟩
theorem cdiv_of{i j:Int}(h1:0 < j)(h2:j < 1073741824):CDiv i j:=⟨h1,h2⟩
theorem cpow_of{i j:Int}(h1:0≤j)(h2:j≤1000000)(h3:i.natAbs < 2 ^ 64):CPow i j:=⟨h1,h2,h3⟩
theorem cmul_l{i j:Int}(h1:-(2 ^ 64) < i)(h2:i < 2 ^ 64):CMul i j:= .inl ⟨h1,h2⟩
theorem cmul_r{i j:Int}(h1:-(2 ^ 64) < j)(h2:j < 2 ^ 64):CMul i j:= .inr ⟨h1,h2⟩
end
end L2
namespace L2
section
variable {P:Program} {w:World} {H:Hp} {h:Heap} {a:Addr} {o:HO}
theorem ObjOk.there(x:ObjOk P w H h a o):∃ob,h.get? a=some ob:=by
 cases o with
 | lst xs=>obtain ⟨_,_,_,_,e⟩:=x;exact ⟨_,e⟩
 | tup xs=>obtain ⟨_,_,_,_,e,_⟩:=x;exact ⟨_,e⟩
 | dK kvs=>obtain ⟨_,_,_,_,_,_,_,e,_⟩:=x;exact ⟨_,e⟩
 | dT kvs=>obtain ⟨_,_,_,_,_,_,_,e,_⟩:=x;exact ⟨_,e⟩
 | set S n=>obtain ⟨_,_,_,_,e,_⟩:=x;exact ⟨_,e⟩
 | ins C dx fs=>obtain ⟨_,_,_,e,_⟩:=x;exact ⟨_,e⟩
 | own y=>exact x
 | xd fs=>obtain ⟨_,⟨_,_,_,e,_⟩,_⟩:=x;exact ⟨_,e⟩
 | rng lo hi=>obtain ⟨_,_,_,e⟩:=x;exact ⟨_,e⟩
 | frz ob u=>exact ⟨_,x.1⟩
 | tbl ps=>exact ⟨_,x⟩
 | met f y=>exact ⟨_,x⟩
 | ext φ=>exact x.2.1
theorem HOk.there(x:HOk P w H h)(e:H a=some o):∃ob,h.get? a=some ob:=(x a o e).there
end
noncomputable def Spares(fs:List Addr)(H':Hp)(g h B:Heap):Prop:=∀b o,h.get? b=some o→b∉fs→(H' b≠none∨∃u,g.get? b=some u)→B.get? b=some o
section
variable {P:Program} {w:World}
theorem stay_of{fs:List Addr}{H0 H':Hp}{g h h3 B:Heap}(u:Un fs [] H0 H' g h)(ok:HOk P w H' h)
 (hfr:∀b∈fs,∃o,g.get? b=some o∧∀vs,o.data≠ .fields vs) (hf0:∀b∈fs,H0 b=none) (hB:Spares fs H' g h B) (st:B.StaysIn h3) (up:h.UpToSlots h3):
 Un fs [] H0 H' g h3∧HOk P w H' h3∧Spares fs H' g h3 B:=by
 have fr':∀b∈fs,H' b=none:=fun b hb=>by
  obtain ⟨o,ho,_⟩:=hfr b hb
  exact u.free b o ho (hf0 b hb) (by simp)
 have tr:∀b o,H' b=some o→b∉fs:=fun b o e hb=>by rw [fr' b hb]at e;cases e
 have kp:∀b ob,h.get? b=some ob→b∉fs→(H' b≠none∨∃u,g.get? b=some u)→h3.get? b=some ob:=fun b ob e n c=>st b ob (hB b ob e n c)
 have sl:∀b o,g.get? b=some o→H0 b=none→b∈fs→b∉([]:List Addr)→∃sl,h3.get? b=some {o with slots:=sl}:=fun b o e n hb hx=>by
  obtain ⟨sl,e1⟩:=u.slot b o e n hb hx
  obtain ⟨o',e',d⟩:=hfr b hb
  rw [e]at e';cases e'
  obtain ⟨sl2,e2⟩:=up b _ e1 d
  exact ⟨sl2,e2⟩
 refine ⟨⟨fun b o e n hb hx=>kp b o (u.keep b o e n hb hx) hb (.inr ⟨o,e⟩),sl,u.free,fun b o e hx=>?_,u.tups,u.frzs,u.tbls⟩,fun a o e=>?_,fun b o e hb c=>?_⟩
 · by_cases hb:b∈fs
   · obtain ⟨s1,e1⟩:=sl b o e (hf0 b hb) hb hx
     exact ⟨_,e1⟩
   · obtain ⟨o',e1⟩:=u.there b o e hx
     exact ⟨o',kp b o' e1 hb (.inr ⟨o,e⟩)⟩
 · refine (ok a o e).stay (fun b v hc q=>kp b v q ?_ (.inl ?_)) (fun _ q=>q) fun _ _ q=>q
   · rcases hc with rfl | hc
     · exact tr _ _ e
     · exact tr _ _ hc
   · rcases hc with rfl | hc
     · rw [e];simp
     · rw [hc];simp
 · have z:∃o1,h.get? b=some o1:=by
    rcases c with c | ⟨u0,e0⟩
    · cases q:H' b with
      | none=>exact absurd q c
      | some v=>exact ok.there q
    · exact u.there b u0 e0 (by simp)
   obtain ⟨o1,e1⟩:=z
   have e2:=kp b o1 e1 hb c
   rw [e]at e2;cases e2
   exact hB b o e1 hb c
end
section
variable {X:Cx} {pins:List (Addr×Obj)} {σ:St} {H1 H2:Hp} {s1:Shared} {h2 h3 B:Heap}
theorem Inv.frm(I:Inv X pins σ H1 s1):∀b∈frs X.stack,∃o,s1.heap.get? b=some o∧∀vs,o.data≠ .fields vs:=fun b hb=>(I.stack.mem hb).2
theorem leave_of(I:Inv X pins σ H1 s1)(hex:X.ex=[])(u:Un (frs X.stack) [] H1 H2 s1.heap h2)(ok:HOk X.prog X.w H2 h2)(hB:Spares (frs X.stack) H2 s1.heap h2 B)(st:B.StaysIn h3)(up:h2.UpToSlots h3):
 Un X.fs [] X.H₀ H2 X.s₀.heap h3∧HOk X.prog X.w H2 h3∧Spares X.fs H2 X.s₀.heap h3 B:=by
 obtain ⟨U,ok3,hB3⟩:=stay_of u ok I.frm I.stkFree hB st up
 have bs:=I.base
 rw [hex]at bs
 have nl:∀b o,X.s₀.heap.get? b=some o→b≠X.env.locals:=fun b o e=>Nat.ne_of_lt (Nat.lt_of_lt_of_le (Heap.lt_size e) I.ok.above)
 have ns:∀b o,X.s₀.heap.get? b=some o→b∉X.fs→b∉frs X.stack:=fun b o e n hb=>(List.mem_cons.mp (I.stkSub b hb)).elim (nl b o e) n
 have sub:∀b∈X.fs,b∈frs X.stack:=fun b hb=>by
  rcases I.ok.stk with e | ⟨e,hf⟩
  · rw [e];exact hb
  · rw [e];unfold frs;rw [List.filterMap_cons,hf];exact List.mem_cons_of_mem _ hb
 have nt:∀b,H2 b≠none→b∉frs X.stack:=fun b c hb=>by
  obtain ⟨o,ho,_⟩:=I.frm b hb
  exact c (U.free b o ho (I.stkFree b hb) (by simp))
 refine ⟨⟨fun b o e n hb hx=>?_,fun b o e n hb hx=>?_,fun b o e n hx=>?_,fun b o e hx=>?_,fun b xs e=>U.tups b xs (bs.tups b xs e),fun b o v e=>U.frzs b o v (bs.frzs b o v e),fun b ps e=>?_⟩,ok3,fun b o e hb c=>?_⟩
 · exact U.keep b o (bs.keep b o e n hb hx) (bs.free b o e n hx) (ns b o e hb) hx
 · obtain ⟨sl,e1⟩:=bs.slot b o e n hb hx
   obtain ⟨sl2,e2⟩:=U.slot b _ e1 (bs.free b o e n hx) (sub b hb) hx
   exact ⟨sl2,e2⟩
 · obtain ⟨o',e1⟩:=bs.there b o e hx
   exact U.free b o' e1 (bs.free b o e n hx) hx
 · obtain ⟨o',e1⟩:=bs.there b o e hx
   exact U.there b o' e1 hx
 · obtain ⟨m1,e1⟩:=bs.tbls b ps e
   obtain ⟨m2,e2⟩:=U.tbls b _ e1
   exact ⟨m1++m2,by rw [e2,Array.append_assoc]⟩
 · rcases c with c | ⟨v,e0⟩
   · exact hB3 b o e (nt b c) (.inl c)
   · obtain ⟨o',e1⟩:=bs.there b v e0 (by simp)
     exact hB3 b o e (ns b v e0 hb) (.inr ⟨o',e1⟩)
end
end L2
namespace L2
structure ExcC(K:PySem.W.Frag)(C:Addr):Prop where
 at_:∀h:Heap,K.In h→∃(nm q:Str) (N:Addr) (bs bm:List Value) (hdct:Bool) (sn:List Str) (sub:List Value) (ab:Bool) (col:Option Bool) (dd:Option Addr) (k0 k1 k2 k3 k5:Option Value) (mN:Str→Option Value),
  h.get? C=some (excClassObj nm q C N bs bm hdct sn sub ab col dd k0 k1 k2 k3 k5 "ValueError.__new__")∧h.Ns N mN∧mN "__init__"=none∧
  OwnTail h [.type "ValueError",.type "Exception",.type "BaseException",.type "object"] bm
noncomputable def tRaise(C:Addr)(EE:St→XK)(t:TA):TS:=fun _ σ H=>t σ H fun vs H1=>vs.length≤sizeLine∧∀x,H1 x=none→EE σ (.ref C) (some x) H1
noncomputable def PassesS(CX:CXT)(X:Cx)(EE:St→XK):Prop:=∀(pins:List (Addr×Obj)) (σ:St) (H:Hp) (s:Shared) (e:Value) (s':Shared),Inv X pins σ H s→CX X.stack H s (EE σ) e s'→X.xe e s'
noncomputable def tCallE(sp:Sp)(EE:St→XK)(t:TA):TE:=fun σ H Q=>t σ H fun vs H1=>sp vs H1 Q (EE σ)
section
variable {X:Cx} {CX:CXT} {k j:Nat} {ps:List Str} {sp:Sp} {EE:St→XK} {x:Str} {p pos:Pos} {e:Expr} {es:List Expr} {t:TA}
theorem pe_callE(D:Def X.prog X.w X.K X.mg X.base CX j x ps sp)(hr:Room k X.A)(hg:Gl X x)(hx:PassesS CX X EE)(ha:PA X (e::es) t)(hj:j≤k:=by decide)
 (hdb:(x==("__debug__":Str))=false:=by decide) (he:starEach (e::es) X.env=(false,eval e X.env)::starEach es X.env:=by rfl) (hpl:(backTo pos (starEach es X.env)).any (·.1)=false:=by rfl):
 PE X (.Call (.Name x p) (e::es) [] pos) (tCallE sp EE t):=by
 obtain ⟨f,fd,F,hm,hk,hb⟩:=D.ex
 intro pins s σ H Q I h
 refine wpAny_Call_Name_kw (ld_glob I hg hm ?_ hdb)
 refine PySem.W.callWith_K (h₀:=X.base) I.ok.mod.kin hk (thn (ha pos pins s σ H _ I h) fun us s1 ⟨vs,H1,I1,r,q⟩=>⟨I1.kIn,?_⟩) he hpl
 have hl:us.length=ps.length:=by rw [← r.length];exact F.len _ _ _ _ q
 have hb':BindsTo s1 fd ⟨us,[]⟩ (ps.zip us):=by
  have z:=hb s1 us I1.kIn (by rw [List.append_nil];exact hl)
  rw [List.append_nil]at z
  exact z
 refine wpAny_call (codeAny_mono (F.run X.A X.stack s1 H1 ⟨us,[]⟩ us vs Q (EE σ) (hr.mono hj) I1.env0 hb' r q) fun rs s' hq=>?_)
 cases rs with
 | error ev=>exact hx pins σ H1 s1 ev s' I1 hq
 | ok fl=>
  cases fl with
  | ret u=>exact I1.after hq
  | next=>exact False.elim hq
  | brk=>exact False.elim hq
  | cont=>exact False.elim hq
end
structure Air(X:Cx)(pins:List (Addr×Obj))(σ:St)(H:Hp)(x:Addr)(cls:Value)(s:Shared):Prop where
 ex:∃(H0:Hp) (s0:Shared) (a0:Value) (B:Heap),Inv X pins σ H0 s0∧s.os=s0.os∧AllBare s.gens∧Un (frs X.stack) [] H0 H s0.heap s.heap∧HOk X.prog X.w H s.heap∧
  Heap.FlyingW B X.stack x cls a0 s.heap∧Spares (frs X.stack) H s0.heap s.heap B∧H x=none∧s0.heap.get? x=none
section
variable {X:Cx} {pins:List (Addr×Obj)} {σ:St} {H:Hp} {x:Addr} {cls:Value} {s:Shared}
theorem Air.inv(Z:Air X pins σ H x cls s):Inv X pins σ H s:=by
 obtain ⟨H0,s0,a0,B,I,os,bare,u,ok,fl,hB,hx,hn⟩:=Z.ex
 exact I.call' os u ok bare fun b hb=>absurd hb (by simp)
theorem Air.obj(Z:Air X pins σ H x cls s):∃ob vs,s.heap.get? x=some ob∧ob.cls=cls∧ob.data= .fields vs:=by
 obtain ⟨H0,s0,a0,B,I,os,bare,u,ok,fl,hB,hx,hn⟩:=Z.ex
 obtain ⟨oe,vs,h1,h2,h3,_⟩:=fl.first
 exact ⟨oe,vs,h1,h2,h3⟩
end
noncomputable abbrev Cx.sui(X:Cx)(x:Addr):Cx:={X with A:=X.A.mark (some (.ref x)),calm:=false,xe:=fun _ _=>False}
section
variable {X:Cx} {pins:List (Addr×Obj)} {σ:St} {H:Hp} {x:Addr} {cls:Value} {s:Shared}
theorem Cx.Ok.sui(ok:X.Ok)(x:Addr):(X.sui x).Ok:=
 ⟨ok.mod,ok.kind,ok.glob,ok.blt,ok.above,ok.inj,ok.has,ok.cab,fun z=>(by cases z),ok.frames,ok.stk,ok.exf,ok.bs,ok.bsz,ok.noex,ok.exfs,ok.funs,ok.frf⟩
theorem Inv.sui(I:Inv X pins σ H s)(x:Addr):Inv (X.sui x) pins σ H s:=⟨I.ok.sui x,I.os,I.bare,I.base,I.loc,I.cell,I.free,I.freeC,I.pin,I.hok,I.len⟩
theorem Inv.unsui(I0:X.Ok)(I:Inv (X.sui x) pins σ H s):Inv X pins σ H s:=⟨I0,I.os,I.bare,I.base,I.loc,I.cell,I.free,I.freeC,I.pin,I.hok,I.len⟩
theorem SP.unsui(I0:X.Ok){D:Ends}{f:Flow}{s':Shared}(h:SP (X.sui x) pins D f s'):SP X pins D f s':=by
 cases f with
 | next=>obtain ⟨σ',H',I,q⟩:=h;exact ⟨σ',H',I.unsui I0,q⟩
 | brk=>obtain ⟨σ',H',I,q⟩:=h;exact ⟨σ',H',I.unsui I0,q⟩
 | cont=>obtain ⟨σ',H',I,q⟩:=h;exact ⟨σ',H',I.unsui I0,q⟩
 | ret u=>obtain ⟨v,σ',H',I,r,q⟩:=h;exact ⟨v,σ',H',I.unsui I0,r,q⟩
end
noncomputable abbrev TH:=Value→Addr→TS
noncomputable def hNil:TH:=fun _ _ _ _ _=>False
section
variable {X:Cx} {C:Str} {c:Value} {np pos:Pos} {b₀:Stmt} {suite:List Stmt} {rest:List ExceptHandler} {ts:TS} {tr:TH}
theorem clause_test{pins:List (Addr×Obj)}{s:Shared}{σ:St}{H:Hp}{x:Addr}{cls:Value}{b:Bool}{R:Result→Shared→Prop}(Z:Air X pins σ H x cls s)(hv:∀(Q:Value→Shared→Prop) (E:Value→Shared→Prop),Q c s→wpAny (model X.prog X.w) (X.A.mark (some (.ref x))) (eval (.Name C np) X.env) Q E s)
 (e:PySem.W.exmOne X.K cls c=some b) (h:R (.ok (if b then .brk else .next)) s):
 codeAny (model X.prog X.w) (X.A.mark (some (.ref x))) (.handlers (.ref x) [.ExceptHandler (some (.Name C np)) none [] pos] X.env) R s:=by
 refine codeAny_handlers_test (hv _ _ ?_)
 obtain ⟨ob,vs,h1,h2,_⟩:=Z.obj
 have LT:PySem.W.Looks (model X.prog X.w) s.heap (typeOf (.ref x)) cls:=h2▸(PySem.W.Looks.ld h1).andThen .now
 exact (PySem.W.exm_one Z.inv.kIn LT e).here h
end
noncomputable def excO(x:Addr)(cls:Value):HO:= .ext fun h=>∃ob vs,h.get? x=some ob∧ob.cls=cls∧ob.data= .fields vs
section
variable {X:Cx} {pins:List (Addr×Obj)} {σ:St} {H:Hp} {x:Addr} {cls:Value} {s:Shared}
theorem name_goes{i:Nat}{n:Str}{M:Model}{A:Around}{E:Value→Shared→Prop}{pos:Pos}{Q:Unit→Shared→Prop}(I:Inv X pins σ H s)(hN:X.N.Nodup)(hi:X.N[i]?=some n)(hl:X.env.kindOf n=some .local)
 (h:∀s',Inv X pins (σ.set i none) H s'→Q () s'):wpAny M A (do bindName X.env n .none;unbindBehindTheSuite X.env n pos) Q E s:=by
 obtain ⟨m,hn,hm⟩:=id I.loc
 refine wpAny_nameGoes_keeps hl hn (by rw [I.ok.kind];rfl) fun h' v hn' hs=>h _ ?_
 obtain ⟨oL,_,_,hoL,_⟩:=id hn
 have nL:∀b o,X.s₀.heap.get? b=some o→b≠X.env.locals:=fun b o e=>Nat.ne_of_lt (Nat.lt_of_lt_of_le (Heap.lt_size e) I.ok.above)
 refine ⟨I.ok,I.os,I.bare,⟨fun b o e n hb hx=>(hs.2 b (nL b o e)).trans (I.base.keep b o e n hb hx),fun b o e n hb hx=>?_,I.base.free,fun b o e hx=>?_,I.base.tups,I.base.frzs,I.base.tbls⟩,⟨_,hn',fun j y v' e1 e2 e3=>?_⟩,fun y c e=>?_,I.free,I.freeC,fun p hp=>?_,fun b o e=>?_,by simpa using I.len⟩
 · obtain ⟨sl,e1⟩:=I.base.slot b o e n hb hx
   exact ⟨sl,(hs.2 b (nL b o e)).trans e1⟩
 · obtain ⟨o',e1⟩:=I.base.there b o e hx
   exact ⟨o',(hs.2 b (nL b o e)).trans e1⟩
 · have hj:j≠i:=by
    rintro rfl
    by_cases hlt:j < σ.length
    · rw [List.getElem?_set_self hlt]at e2;cases e2
    · rw [List.getElem?_eq_none (by rw [List.length_set];omega)]at e2;cases e2
   rw [List.getElem?_set_ne (Ne.symm hj)]at e2
   obtain ⟨u',r',q⟩:=hm j y v' e1 e2 e3
   refine ⟨u',r',?_⟩
   rcases q with ⟨k,e⟩ | ⟨k,c,e,z⟩
   · have ny:y≠n:=fun z=>hj (nodup_ix hN e1 (z▸hi))
     exact .inl ⟨k,by simp [ny,e]⟩
   · exact .inr ⟨k,c,e,z.sameBut hs (I.cne y c e)⟩
 · obtain ⟨w',z⟩:=I.cell y c e
   exact ⟨w',z.sameBut hs (I.cne y c e)⟩
 · obtain ⟨e,n1,ne,nf,d⟩:=I.pin p hp
   exact ⟨(hs.2 p.1 ne).trans e,n1,ne,nf,d⟩
 · refine (I.hok b o e).stay (fun c w' hc q=>(hs.2 c ?_).trans q) (fun _ q=>q) fun _ _ q=>q
   rintro rfl
   rcases hc with z | hc
   · rw [← z,I.free]at e;cases e
   · rw [I.free]at hc;cases hc
end
noncomputable def endsAs(i:Nat)(D:Ends):Ends:={nx:=fun σ H=>D.nx (σ.set i none) H,rt:=D.rt,bk:=fun σ H=>D.bk (σ.set i none) H,ct:=fun σ H=>D.ct (σ.set i none) H}
noncomputable abbrev Cx.tryX(X:Cx)(pn:List (Addr×Obj))(xe:Value→Shared→Prop):Cx:={X with pn:=pn,xe:=xe}
section
variable {X:Cx} {body:List Stmt} {h₀:ExceptHandler} {hs:List ExceptHandler} {pos:Pos} {tb:(St→XK)→TS} {th:TH} {pins:List (Addr×Obj)} {σ:St} {H:Hp} {s:Shared} {pn:List (Addr×Obj)} {xe:Value→Shared→Prop}
theorem Inv.tryIn(I:Inv X pins σ H s)(xe:Value→Shared→Prop):Inv (X.tryX (X.pn++pins) xe) [] σ H s:=
 ⟨⟨I.ok.mod,I.ok.kind,I.ok.glob,I.ok.blt,I.ok.above,I.ok.inj,I.ok.has,I.ok.cab,I.ok.hd,I.ok.frames,I.ok.stk,I.ok.exf,I.ok.bs,I.ok.bsz,I.ok.noex,I.ok.exfs,I.ok.funs,I.ok.frf⟩,I.os,I.bare,I.base,I.loc,I.cell,I.free,I.freeC,fun p hp=>I.pin p (by simpa using hp),I.hok,I.len⟩
theorem Inv.tryOut{pl:List (Addr×Obj)}(I0:X.Ok)(I:Inv (X.tryX (X.pn++pins) xe) pl σ H s):Inv X pins σ H s:=
 ⟨I0,I.os,I.bare,I.base,I.loc,I.cell,I.free,I.freeC,fun p hp=>I.pin p (List.mem_append_left _ hp),I.hok,I.len⟩
theorem SP.tryOut{pl:List (Addr×Obj)}(I0:X.Ok){D:Ends}{f:Flow}{s':Shared}(h:SP (X.tryX (X.pn++pins) xe) pl D f s'):SP X pins D f s':=by
 cases f with
 | next=>obtain ⟨σ',H',I,q⟩:=h;exact ⟨σ',H',I.tryOut I0,q⟩
 | brk=>obtain ⟨σ',H',I,q⟩:=h;exact ⟨σ',H',I.tryOut I0,q⟩
 | cont=>obtain ⟨σ',H',I,q⟩:=h;exact ⟨σ',H',I.tryOut I0,q⟩
 | ret u=>obtain ⟨v,σ',H',I,r,q⟩:=h;exact ⟨v,σ',H',I.tryOut I0,r,q⟩
end
end L2
namespace L2
open PySem.W
noncomputable def rIsiE(K:Frag):List V→Hp→VK→Prop:=fun xs H Q=>∃p cls n,xs=[.ref p,.ty n]∧H p=some (excO p cls)∧kitOne K cls (.type n)=some true∧Q (.bl true) H
noncomputable def strKeysB(es:Array DictEntry):Bool:=es.toList.all fun e=>match e.key with
 | .str _ _=>true
 | _=>false
theorem strKeys_of{es:Array DictEntry}(h:strKeysB es=true):StrKeys es:=fun e he=>by
 have z:=List.all_eq_true.mp h e (by simpa using he)
 cases k:e.key with
 | str n t=>exact ⟨n,t,rfl⟩
 | _=>rw [k]at z;cases z
theorem ns_of{K:Frag}{h:Heap}{N:Addr}{oc:Value}{od:Option Addr}{es:Array DictEntry}{ep:Nat}{sl:Array (Option Value)}(X:K.In h)(l:K.lookup N=some ⟨oc,od,.dict es ep,sl⟩)(k:strKeysB es=true):h.Ns N (nsFind es):=
 ⟨_,es,ep,X _ _ l,rfl,strKeys_of k,fun _=>rfl⟩
theorem excC_of{K:Frag}{C N A:Addr}{nm q:Str}{bs:List Value}{hdct:Bool}{sn:List Str}{sub:List Value}{ab:Bool}{col:Option Bool}{dd:Option Addr}{k0 k1 k2 k3 k5:Option Value}{oc c0 oc2:Value}{od dA od2:Option Addr}{es es2:Array DictEntry}{ep ep2:Nat}{sl slA sl2:Array (Option Value)}{cdA:ClassData}
 (lC:K.lookup C=some (excClassObj nm q C N bs [.ref A,.type "ValueError",.type "Exception",.type "BaseException",.type "object"] hdct sn sub ab col dd k0 k1 k2 k3 k5 "ValueError.__new__"))
 (lN:K.lookup N=some ⟨oc,od,.dict es ep,sl⟩) (sN:strKeysB es=true) (iN:nsFind es "__init__"=none) (lA:K.lookup A=some ⟨c0,dA,.cls cdA,slA⟩) (lNA:K.lookup cdA.ns=some ⟨oc2,od2,.dict es2 ep2,sl2⟩) (sNA:strKeysB es2=true) (iNA:nsFind es2 "__init__"=none):ExcC K C:=
 ⟨fun h X=>⟨nm,q,N,bs,_,hdct,sn,sub,ab,col,dd,k0,k1,k2,k3,k5,nsFind es,X _ _ lC,ns_of X lN sN,iN,.own (X _ _ lA) (ns_of X lNA sNA) iNA .base⟩⟩
theorem exm_ref{K:Frag}{C:Addr}{cls:Value}{b:Bool}{cd:ClassData}(s1:subIn K (.ref C) (.type "BaseException")=some true)(c1:clsIn K C=some cd)(t1:typeIn K (.ref C)=some (.type "type"))(s2:subIn K cls (.ref C)=some b):exmOne K cls (.ref C)=some b:=by
 unfold exmOne kitCls
 dsimp only
 rw [s1,c1,t1]
 exact s2
section
variable {σ:St} {H:Hp} {Q:VK} {D:Ends} {K:Frag}
theorem rd_raise{C:Addr}{EE:St→XK}{t:TA}:tRaise C EE t D σ H=t σ H fun vs H1=>vs.length≤sizeLine∧∀x,H1 x=none→EE σ (.ref C) (some x) H1:=rfl
theorem rd_callE{sp:Sp}{EE:St→XK}{t:TA}:tCallE sp EE t σ H Q=t σ H fun vs H1=>sp vs H1 Q (EE σ):=rfl
theorem rd_hnil{cls:Value}{x:Addr}:hNil cls x D σ H=False:=rfl
theorem rd_ends{i:Nat}:endsAs i D={nx:=fun σ H=>D.nx (σ.set i none) H,rt:=D.rt,bk:=fun σ H=>D.bk (σ.set i none) H,ct:=fun σ H=>D.ct (σ.set i none) H}:=rfl
theorem rd_isiE{xs:List V}:rIsiE K xs H Q=∃p cls n,xs=[.ref p,.ty n]∧H p=some (excO p cls)∧kitOne K cls (.type n)=some true∧Q (.bl true) H:=rfl
end
end L2
namespace L2
theorem compLoop_any{prog:Program}{w:World}{A:Around}{R:Result→Shared→Prop}{s:Shared}{elt target iter:Expr}{ifs:List Expr}{scope:Scope}{pos:Pos}{it acc:Value}{env:Env}(I:Nat→Shared→Prop)
 (turn:∀n s,I n s→wpAny (model prog w) A (pyNext it) (fun r s₁=>match r with
  | none=>R (.ok .next) s₁
  | some v=>wpAny (model prog w) A (letOwnedTupleGo target it v) (fun _ s₁=>wpAny (model prog w) A (assign target env v) (fun _ s₂=>
   wpAny (model prog w) A (forIn ifs true fun c r=>if r=true then do let ok ← isTrue c env (eval c env);pure (ForInStep.yield ok) else pure (ForInStep.yield r)) (fun ok s₃=>
    if ok=true then wpAny (model prog w) A (eval elt env) (fun x s₄=>
     wpAny (model prog w) A (call (.builtin "list.append") [acc,x]) (fun _ s₅=>∃m,m < n∧I m s₅) (notedBy (model prog w) A env fun e s'=>R (.error e) s') s₄) (notedBy (model prog w) A env fun e s'=>R (.error e) s') s₃
    else ∃m,m < n∧I m s₃) (notedBy (model prog w) A env fun e s'=>R (.error e) s') s₂) (notedBy (model prog w) A env fun e s'=>R (.error e) s') s₁) (notedBy (model prog w) A env fun e s'=>R (.error e) s') s₁) (notedBy (model prog w) A env fun e s'=>R (.error e) s') s)
 (n:Nat) (h:I n s):
 codeAny (model prog w) A (.compLoop (.ListComp elt [⟨target,iter,ifs,0⟩] scope pos) 0 it acc env) R s:=by
 refine codeAny_loop rfl I (fun n s hI=>?_) n h
 show wpAny _ A ((compTurn (.ListComp elt [⟨target,iter,ifs,0⟩] scope pos) 0 it acc env).onRaise (fun x=>do noteFrame x env;theTreesLotGoes x)) _ _ s
 refine wpAny_noted ?_
 rw [compTurn_list]
 refine wpAny_bind (wpAny_standAt (wpAny_bind (wpAny_mono (turn n s hI) (fun r s₁ h₁=>?_) fun _ _ h'=>h')))
 cases r with
 | none=>exact wpAny_pure h₁
 | some v=>
  refine wpAny_bind (wpAny_mono h₁ (fun _ s₁ h₁=>?_) fun _ _ h'=>h')
  refine wpAny_bind (wpAny_mono h₁ (fun _ s₂ h₂=>wpAny_bind (wpAny_mono h₂ (fun ok s₃ h₃=>?_) fun _ _ h'=>h')) fun _ _ h'=>h')
  cases ok with
  | false=>exact wpAny_pure ⟨rfl,h₃⟩
  | true=>
   exact wpAny_bind (wpAny_bind (wpAny_mono h₃ (fun x s₄ h₄=>wpAny_bind (wpAny_mono h₄ (fun _ s₅ h₅=>wpAny_pure (wpAny_pure ⟨rfl,h₅⟩)) fun _ _ h'=>h')) fun _ _ h'=>h'))
noncomputable def clo(env:Env):List (Str×NameKind)→List (Str×Addr)→List (Str×Addr)
 | [],cs=>cs
 | (n,k)::r,cs=>clo env r (if (k== .free)=true then (match env.cells.lookup n with | some c=>(n,c)::cs | none=>cs) else cs)
theorem clo_loop{env:Env}:∀(names:List (Str×NameKind)) (cs:List (Str×Addr)),(∀y∈names,y.2= .free→∃c,env.cells.lookup y.1=some c)→
 (forIn (m:=Sem) names cs fun (x:Str×NameKind) (r:List (Str×Addr))=>match x with | (name,kind)=>if (kind== .free)=true then do let c ← cellOf env name;pure (ForInStep.yield ((name,c)::r)) else pure (ForInStep.yield r))=pure (clo env names cs)
 | [],cs,_=>rfl
 | (n,k)::r,cs,h=>by
  rw [List.forIn_cons]
  have ih:=fun cs=>clo_loop r cs fun y hy=>h y (List.mem_cons_of_mem _ hy)
  by_cases hk:(k==NameKind.free)=true
  · obtain ⟨c,hc⟩:=h (n,k) List.mem_cons_self (by simpa using hk)
    have e:cellOf env n=pure c:=by unfold cellOf;rw [show env.cells.lookup n=some c from hc]
    simp only [hk,if_true,e,clo]
    rw [show env.cells.lookup n=some c from hc]
    exact ih _
  · simp only [hk,clo]
    exact ih _
theorem clo_closure{scope:Scope}{env:Env}(h:∀y∈scope.names,y.2= .free→∃c,env.cells.lookup y.1=some c):closureFor scope env=pure (clo env scope.names []):=by
 unfold closureFor
 show (forIn (m:=Sem) scope.names ([]:List (Str×Addr)) _ >>=fun r=>pure r)=_
 rw [clo_loop scope.names [] h]
 rfl
theorem clo_cells{env:Env}{x:Str}{c:Addr}:∀(names:List (Str×NameKind)) (cs:List (Str×Addr)),(clo env names cs).lookup x=some c→env.cells.lookup x=some c∨cs.lookup x=some c
 | [],cs,h=> .inr h
 | (n,k)::r,cs,h=>by
  unfold clo at h
  rcases clo_cells r _ h with q | q
  · exact .inl q
  · split at q
    · split at q
      · rename_i c' hc
        rw [List.lookup_cons]at q
        cases hx:x==n with
        | true=>
         rw [hx]at q
         have e:x=n:=by simpa using hx
         subst e
         simp only [Option.some.injEq]at q
         subst q
         exact .inl hc
        | false=>rw [hx]at q;exact .inr q
      · exact .inr q
    · exact .inr q
theorem clo_has{env:Env}{x:Str}{c:Addr}(hc:env.cells.lookup x=some c):∀(names:List (Str×NameKind)) (cs:List (Str×Addr)),(cs.lookup x=some c∨(cs.lookup x=none∧(x,NameKind.free)∈names))→(clo env names cs).lookup x=some c
 | [],cs,h=>by
  rcases h with h | ⟨_,h⟩
  · exact h
  · cases h
 | (n,k)::r,cs,h=>by
  unfold clo
  refine clo_has hc r _ ?_
  by_cases hx:x=n
  · subst hx
    by_cases hk:(k==NameKind.free)=true
    · rw [if_pos hk,hc]
      exact .inl (by simp [List.lookup_cons])
    · rw [if_neg hk]
      rcases h with h | ⟨h1,h2⟩
      · exact .inl h
      · refine .inr ⟨h1,?_⟩
        rcases List.mem_cons.mp h2 with e | e
        · cases e;exact absurd rfl hk
        · exact e
  · have hb:(x==n)=false:=by simpa using hx
    have key:∀cs':List (Str×Addr),cs'.lookup x=cs.lookup x→(cs'.lookup x=some c∨(cs'.lookup x=none∧(x,NameKind.free)∈r)):=fun cs' e=>by
     rw [e]
     rcases h with h | ⟨h1,h2⟩
     · exact .inl h
     · refine .inr ⟨h1,?_⟩
       rcases List.mem_cons.mp h2 with e | e
       · cases e;exact absurd rfl hx
       · exact e
    refine key _ ?_
    split
    · split
      · simp [List.lookup_cons,hb]
      · rfl
    · rfl
theorem relabel_kind{env:Env}{k':NameKind}:∀{names:List (Str×NameKind)} {x:Str},(∀y∈names,y.2≠ .cell)→
 (names.map fun (n,k)=>if (k==NameKind.free && env.scope.kind== .function && env.kindOf n==some .cell) then (n,NameKind.cell) else (n,k)).lookup x=some k'→(k'= .cell∨k'= .free)→(x,NameKind.free)∈names
 | [],_,_,h,_=>by simp at h
 | (n,k)::r,x,hc,h,hk=>by
  have ih:=@relabel_kind env k' r x (fun y hy=>hc y (List.mem_cons_of_mem _ hy))
  have h':List.lookup x ((if (k==NameKind.free && env.scope.kind== .function && env.kindOf n==some .cell)=true then (n,NameKind.cell) else (n,k))::(r.map fun (n,k)=>if (k==NameKind.free && env.scope.kind== .function && env.kindOf n==some .cell) then (n,NameKind.cell) else (n,k)))=some k':=h
  by_cases hx:x=n
  · subst hx
    by_cases q:(k==NameKind.free && env.scope.kind== .function && env.kindOf x==some .cell)=true
    · have:k= .free:=by simp only [Bool.and_eq_true,beq_iff_eq]at q;exact q.1.1
      subst this
      exact List.mem_cons_self
    · rw [if_neg q,List.lookup_cons]at h'
      simp only [beq_self_eq_true]at h'
      have e:k=k':=Option.some.inj h'
      rcases hk with z | z
      · exact absurd (e.trans z) (hc (x,k) List.mem_cons_self)
      · rw [e.trans z];exact List.mem_cons_self
  · have hb:(x==n)=false:=by simpa using hx
    refine List.mem_cons_of_mem _ (ih ?_ hk)
    split at h'
    · rw [List.lookup_cons,hb]at h';exact h'
    · rw [List.lookup_cons,hb]at h';exact h'
theorem lookup_relabel_free{env:Env}:∀{names:List (Str×NameKind)} {x:Str},names.lookup x=some .free→
 (names.map fun (n,k)=>if (k==NameKind.free && env.scope.kind== .function && env.kindOf n==some .cell) then (n,NameKind.cell) else (n,k)).lookup x=some .cell∨
 (names.map fun (n,k)=>if (k==NameKind.free && env.scope.kind== .function && env.kindOf n==some .cell) then (n,NameKind.cell) else (n,k)).lookup x=some .free
 | [],_,h=>by simp at h
 | (n,k)::r,x,h=>by
  have ih:=@lookup_relabel_free env r x
  show List.lookup x ((if (k==NameKind.free && env.scope.kind== .function && env.kindOf n==some .cell)=true then (n,NameKind.cell) else (n,k))::_)=_∨List.lookup x ((if (k==NameKind.free && env.scope.kind== .function && env.kindOf n==some .cell)=true then (n,NameKind.cell) else (n,k))::_)=_
  cases hx:x==n with
  | true=>
   simp only [List.lookup_cons,hx]at h
   cases h
   split
   · left;simp [List.lookup_cons,hx]
   · right;simp [List.lookup_cons,hx]
  | false=>
   simp only [List.lookup_cons,hx]at h
   split
   · simp only [List.lookup_cons,hx];exact ih h
   · simp only [List.lookup_cons,hx];exact ih h
structure Blk where
 s:Shared
 H:Hp
 C:Addr
 fp:List Addr
noncomputable abbrev Cx.blk(X:Cx)(scope:Scope)(N':List Str)(b:Blk):Cx:=
 {X with N:=N',s₀:=b.s,H₀:=b.H,env:=compEnvC scope (clo X.env scope.names []) b.C X.env,outer:=X.stack,ex:=b.fp,fn:=fun _=>false,pn:=[],xe:=fun _ _=>False}
noncomputable def around(N:List Str)(fs:List Nat):List Str:=fs.map fun j=>N.getD j ""
noncomputable def compOkB(N:List Str)(esc scope:Scope)(xs:List Str)(fs:List Nat):Bool:=
 decide (xs++around N fs).Nodup && (match scope.kind with | .function=>true | _=>false) && xs.all (fun x=>decide (scope.names.lookup x=some .local)) &&
 scope.names.all (fun y=>decide (y.2≠ .cell) && (!decide (y.2= .local) || decide (scope.names.lookup y.1=some .local)) && (!decide (y.2= .free) || decide (esc.names.lookup y.1=some .cell) || decide (esc.names.lookup y.1=some .free))) &&
 fs.all fun j=>decide (j < N.length) && decide (scope.names.lookup (N.getD j "")=some .free)
structure CompOk(N:List Str)(esc scope:Scope)(xs:List Str)(fs:List Nat):Prop where
 nd:(xs++around N fs).Nodup
 kind:scope.kind= .function
 own:∀x∈xs,scope.names.lookup x=some .local
 cell:∀y∈scope.names,y.2≠ .cell
 names:∀y∈scope.names,y.2= .local→scope.names.lookup y.1=some .local
 free:∀y∈scope.names,y.2= .free→esc.names.lookup y.1=some .cell∨esc.names.lookup y.1=some .free
 fs:∀j∈fs,j < N.length∧scope.names.lookup (N.getD j "")=some .free
theorem compOk_of{N:List Str}{esc scope:Scope}{xs:List Str}{fs:List Nat}(h:compOkB N esc scope xs fs=true):CompOk N esc scope xs fs:=by
 unfold compOkB at h
 simp only [Bool.and_eq_true,decide_eq_true_eq,List.all_eq_true]at h
 obtain ⟨⟨⟨⟨h1,h2⟩,h3⟩,h4⟩,h5⟩:=h
 refine ⟨h1,?_,h3,fun y hy=>(h4 y hy).1.1,fun y hy e=>?_,fun y hy e=>?_,h5⟩
 · split at h2
   · assumption
   · cases h2
 · have:=(h4 y hy).1.2
   simpa [e] using this
 · have:=(h4 y hy).2
   simpa [e] using this
section
variable {X:Cx} {pins:List (Addr×Obj)} {σ:St} {H:Hp} {s:Shared} {scope:Scope} {xs:List Str} {fs:List Nat} {fp:List Addr} {C:Addr}
theorem blk_ok(I:Inv X pins σ H s)(O:CompOk X.N X.env.scope scope xs fs)(hf:∀b∈fp,FpOk X pins H b)(hC:s.heap.objs.size≤C)(hfp:∀b∈fp,b < s.heap.objs.size):(X.blk scope (xs++around X.N fs) ⟨s,H,C,fp⟩).Ok:=by
 have hcl:∀x c,(clo X.env scope.names []).lookup x=some c→X.env.cells.lookup x=some c:=fun x c e=>by
  rcases clo_cells _ _ e with q | q
  · exact q
  · cases q
 have hsz:∀b o,X.base.get? b=some o→b < X.s₀.heap.objs.size:=fun b o e=>Nat.lt_of_lt_of_le (Heap.lt_size e) I.ok.bsz
 refine ⟨I.ok.mod,O.kind,I.ok.glob,I.ok.blt,hC,fun x y c h1 h2=>I.ok.inj x y c (hcl x c h1) (hcl y c h2),fun x hx=>?_,fun x c z=>(by cases z),I.ok.hd,I.ok.frames,.inl rfl,fun b hb=>⟨Nat.ne_of_lt (Nat.lt_of_lt_of_le (hfp b hb) hC),fun x c e=>(hf b hb).2.2.2.2.1 x c (hcl x c e)⟩,I.bs,Nat.le_trans I.ok.bsz I.sz,fun b o e hb=>?_,fun b hb hs=>?_,I.stack,I.stkFree⟩
 · have hm:(x,NameKind.free)∈scope.names:=by
    rcases hx with hx | hx
    · exact relabel_kind (env:=X.env) O.cell (show (scope.names.map _).lookup x=some NameKind.cell from hx) (.inl rfl)
    · exact relabel_kind (env:=X.env) O.cell (show (scope.names.map _).lookup x=some NameKind.free from hx) (.inr rfl)
   obtain ⟨c,hc⟩:=I.ok.has x (O.free _ hm rfl)
   exact ⟨c,clo_has hc _ _ (.inr ⟨rfl,hm⟩)⟩
 · obtain ⟨_,_,_,h4,_⟩:=hf b hb
   rcases h4 with h4 | h4
   · exact I.ok.noex b o e h4
   · exact absurd (Nat.lt_of_lt_of_le (hsz b o e) h4) (Nat.lt_irrefl _)
 · obtain ⟨_,h2,h3,_⟩:=hf b hb
   exact (List.mem_cons.mp (I.stkSub b hs)).elim h2 h3
theorem blk_in{h1:Heap}{t:Nat}{D:Addr}{m:Str→Option Value}(I:Inv X pins σ H s)(O:CompOk X.N X.env.scope scope xs fs)(hf:∀b∈fp,FpOk X pins H b)(hD:s.heap.objs.size≤D)(hC:s.heap.objs.size≤C)(hfp:∀b∈fp,b < s.heap.objs.size)(hDC:D≠C)
 (k:∀b u,s.heap.get? b=some u→h1.get? b=some u) (hDo:h1.get? D=some {cls:= .type "list",data:= .seq #[] 0}) (hn:h1.Ns C m):
 Inv (X.blk scope (xs++around X.N fs) ⟨s,H,C,fp⟩) [] (xs.map (fun _=>none)++fs.map fun j=>σ.getD j none) (upd H D (.lst [])) {s with heap:=h1,toks:=t}:=by
 have hcl:∀x c,(clo X.env scope.names []).lookup x=some c→X.env.cells.lookup x=some c:=fun x c e=>by
  rcases clo_cells _ _ e with q | q
  · exact q
  · cases q
 have ok:=blk_ok (C:=C) I O hf hC hfp
 have hnD:H D=none:=I.hok.fresh hD
 refine ⟨ok,rfl,I.bare,Un.laid k hD hnD,⟨m,hn,fun i x v e1 e2 e3=>?_⟩,fun x c e=>?_,?_,fun x c e=>?_,fun p hp=>absurd (show p∈([]:List (Addr×Obj)) from hp) (by simp),I.hok.laid k hD ⟨Nat.zero_le _,[],0,.nil,hDo⟩,by simp [around]⟩
 · by_cases hi:i < xs.length
   · rw [List.getElem?_append_left (by simpa using hi),List.getElem?_map]at e2
     cases q:xs[i]? with
     | none=>rw [q]at e2;cases e2
     | some a=>rw [q]at e2;cases e2
   · have hi:xs.length≤i:=Nat.le_of_not_lt hi
     rw [List.getElem?_append_right (by simpa using hi)]at e1 e2
     unfold around at e1
     rw [List.length_map]at e2
     rw [List.getElem?_map]at e1 e2
     cases q:fs[i - xs.length]? with
     | none=>rw [q]at e2;cases e2
     | some j=>
      rw [q]at e1 e2
      simp only [Option.map_some,Option.some.injEq]at e1 e2
      obtain ⟨hj,hl⟩:=O.fs j (List.mem_of_getElem? q)
      obtain ⟨m0,_,hl0⟩:=I.loc
      have e1':X.N[j]?=some x:=by rw [← e1,List.getD_eq_getElem?_getD,List.getElem?_eq_getElem hj];rfl
      have e2':σ[j]?=some (some v):=by
       rw [List.getD_eq_getElem?_getD]at e2
       cases z:σ[j]? with
       | none=>rw [z]at e2;cases e2
       | some y=>rw [z]at e2;simp only [Option.getD_some]at e2;rw [e2]
      rw [e1]at hl
      have hm:(x,NameKind.free)∈scope.names:=PySem.mem_of_lookup hl
      have hk:=O.free _ hm rfl
      obtain ⟨u,r,l⟩:=hl0 j x v e1' e2' (hk.elim (fun z=> .inr (.inl z)) fun z=> .inr (.inr z))
      refine ⟨u,r,?_⟩
      rcases l with ⟨z,_⟩ | ⟨_,c,hc,cell⟩
      · have z':X.env.scope.names.lookup x=some .local:=z
        rcases hk with hk | hk <;> (rw [z']at hk;cases hk)
      · refine .inr ⟨?_,c,clo_has hc _ _ (.inr ⟨rfl,hm⟩),?_⟩
        · exact lookup_relabel_free (env:=X.env) hl
        · obtain ⟨o,ho,hd⟩:=cell
          exact ⟨o,k _ _ ho,hd⟩
 · obtain ⟨v,o,ho,hd⟩:=I.cell x c (hcl x c e)
   exact ⟨v,o,k _ _ ho,hd⟩
 · show upd H D (.lst []) C=none
   rw [upd_ne (Ne.symm hDC)];exact I.hok.fresh hC
 · obtain ⟨v,q⟩:=I.cell x c (hcl x c e)
   rw [upd_ne (Nat.ne_of_lt (Nat.lt_of_lt_of_le q.lt hD))]
   exact I.freeC x c (hcl x c e)
theorem blk_out{N':List Str}{σ':St}{H':Hp}{s':Shared}{h2:Heap}{pl:List (Addr×Obj)}(I:Inv X pins σ H s)(hf:∀b∈fp,FpOk X pins H b)(hC:s.heap.objs.size≤C)(J:Inv (X.blk scope N' ⟨s,H,C,fp⟩) pl σ' H' s')(sb:Heap.SameBut C s'.heap h2):
 Inv X pins σ H' {s' with heap:=h2}:=by
 have u:=J.base
 have ne:∀b o,s.heap.get? b=some o→b≠C:=fun b o e=>Nat.ne_of_lt (Nat.lt_of_lt_of_le (Heap.lt_size e) hC)
 refine I.call' (ch:=fp) J.os ⟨fun b o e n h1 h2=>(sb.2 b (ne b o e)).trans (u.keep b o e n h1 h2),fun b o e n h1 h2=>?_,u.free,fun b o e hx=>?_,u.tups,u.frzs,u.tbls⟩ (fun a o e=>?_) J.bare fun b hb=>?_
 · obtain ⟨sl,q⟩:=u.slot b o e n h1 h2
   exact ⟨sl,(sb.2 b (ne b o e)).trans q⟩
 · obtain ⟨o',q⟩:=u.there b o e hx
   exact ⟨o',(sb.2 b (ne b o e)).trans q⟩
 · have fr:H' C=none:=J.free
   refine (J.hok a o e).stay (fun b v hc q=>(sb.2 b ?_).trans q) (fun _ q=>q) fun _ _ q=>q
   rcases hc with rfl | hc
   · exact ne_of_none e fr
   · exact ne_of_none hc fr
 · obtain ⟨_,h2,h3,h4,h5,h6⟩:=hf b hb
   exact ⟨h4,h2,h5,h6⟩
end
end L2
namespace L2
noncomputable def Kept(σ σ':St):Prop:=∀(i:Nat) (v:V),σ[i]?=some (some v)→σ'[i]?=some (some v)
noncomputable def PTs(X:Cx)(ifs:List Expr)(t:TT):Prop:=
 ∀(pins:List (Addr×Obj)) (s:Shared) (σ:St) (H:Hp) (Q:Bool→Hp→Prop),Inv X pins σ H s→t σ H Q→
   wpAny (model X.prog X.w) X.A (forIn ifs true fun c r=>if r=true then do let ok ← isTrue c X.env (eval c X.env);pure (ForInStep.yield ok) else pure (ForInStep.yield r)) (TP X pins σ Q) X.xe s
noncomputable def tYes:TT:=fun _ H Q=>Q true H
theorem pts_nil{X:Cx}:PTs X [] tYes:=fun _ _ _ H _ I h=>wpAny_tests_nil ⟨H,I,h⟩
theorem pts_one{X:Cx}{c:Expr}{t:TT}(hc:PT X c t):PTs X [c] t:=fun pins s σ H Q I h=>wpAny_tests_one (hc pins s σ H Q I h)
noncomputable def CompTail(σ0:St)(g:Blk→TG)(tt:Blk→TT)(te:Blk→TE)(Q:VK)(J:It)(H1:Hp):Prop:=∀(b:Blk) (D:Addr),H1 D=none→∃W:Nat→Nat→List V→Hp→Prop,(∃m,W 0 m [] (upd H1 D (.lst [])))∧∀i m ys H2,W i m ys H2→H2 D=some (.lst ys)∧
 ((J.stop i H2∧Q (.ref D) H2)∨(J.go i H2∧∀x H3,J.yld i H2 x H3→g b x σ0 H3 fun σ6 H6=>Kept σ0 σ6∧tt b σ6 H6 fun ok H7=>
   if ok=true then te b σ6 H7 fun y H8=>H8 D=some (.lst ys)∧ys.length < sizeLine∧∃m',m' < m∧W (i+1) m' (ys++[y]) (upd H8 D (.lst (ys++[y])))
   else ∃m',m' < m∧W (i+1) m' ys H7))
noncomputable def tComp(wi:TI)(n:Nat)(fs:List Nat)(g:Blk→TG)(tt:Blk→TT)(te:Blk→TE):TE:=fun σ H Q=>wi σ H (CompTail (List.replicate n none++fs.map fun j=>σ.getD j none) g tt te Q)
section
variable {X:Cx} {pins:List (Addr×Obj)} {σ:St} {scope:Scope} {xs:List Str} {fs:List Nat} {elt tg iter:Expr} {ifs:List Expr} {pos:Pos} {wi:TI} {g:Blk→TG} {tt:Blk→TT} {te:Blk→TE}
theorem turned_of{H:Hp}{s:Shared}{C:Addr}{h2:Heap}(I:Inv X pins σ H s)(F:FpOk X pins H C)(sb:Heap.SameBut C s.heap h2):Inv X pins σ H {s with heap:=h2}:=
 I.turned (t':=s.toks) (fun b o hb e=>(sb.2 b hb).trans e) F.1 F.2.1 F.2.2.2.1 F.2.2.2.2.1 F.2.2.2.2.2
theorem comp_run{Q:VK}{itv:Value}{s2:Shared}{E:Value→Shared→Prop}{RR:Value→Addr→Result→Shared→Prop}(hc:X.calm=true)(O:CompOk X.N X.env.scope scope xs fs)
 (hg:∀b,PG (X.blk scope (xs++around X.N fs) b) tg (g b)) (ht:∀b,PTs (X.blk scope (xs++around X.N fs) b) ifs (tt b)) (he:∀b,PE (X.blk scope (xs++around X.N fs) b) elt (te b))
 (h:PIE X pins σ tg (CompTail (List.replicate xs.length none++fs.map fun j=>σ.getD j none) g tt te Q) itv s2)
 (hR:∀D C s' m H',s'.heap.Ns C m→Inv X pins σ H' s'→Q (.ref D) H'→FpOk X pins H' C→RR (.ref D) C (.ok .next) s'):
 wpAny (model X.prog X.w) X.A (newList []) (fun acc s₃=>wpAny (model X.prog X.w) X.A (newFunctionEnv scope X.env.globals (clo X.env scope.names []) [] X.env.qual none .none (some X.env)) (fun cenv s₄=>
  codeAny (model X.prog X.w) X.A (.compStart (.ListComp elt [⟨tg,iter,ifs,0⟩] scope pos) 0 itv acc {cenv with scope:=relabel scope X.env}) (RR acc cenv.locals) s₄) E s₃) E s2:=by
 obtain ⟨it,fp,tn,J,H2,rfl,I2,T,st2,f2,rd⟩:=h
 have hfp:∀b∈fp,b < s2.heap.objs.size:=fun b hb=>by
  obtain ⟨o,e,_⟩:=T.obj _ _ st2 b hb
  exact Heap.lt_size e
 refine wpAny_newObj_type (wpAny_newFunctionEnv O.cell (by intro y hy;simp at hy) (fun h₁ hns₁ hsb₁=>?_) O.kind)
 dsimp only at hns₁ hsb₁ ⊢
 generalize hH2:s2.heap.push {cls:= .type "list",dict:=none,data:= .seq ([]:List Value).toArray}=HH at hns₁ hsb₁ ⊢
 have hC:HH.objs.size=s2.heap.objs.size+1:=by rw [← hH2,Heap.size_push]
 have hDC:s2.heap.objs.size≠HH.objs.size:=by rw [hC];exact Nat.ne_of_lt (Nat.lt_succ_self _)
 have hCle:s2.heap.objs.size≤HH.objs.size:=by rw [hC];exact Nat.le_succ _
 have old:∀b o,s2.heap.get? b=some o→h₁.get? b=some o:=fun b o e=>hsb₁.extBut b o (by rw [hC];exact Nat.ne_of_lt (Nat.lt_succ_of_lt (Heap.lt_size e))) (Heap.get?_push_of_some _ (hH2▸Heap.get?_push_of_some _ e))
 have hacc:h₁.get? s2.heap.objs.size=some {cls:= .type "list",data:= .seq #[] 0}:=hsb₁.extBut _ _ hDC (Heap.get?_push_of_some _ (hH2▸Heap.get?_push_size _ rfl))
 obtain ⟨W,⟨m0,w0⟩,turn⟩:=rd ⟨s2,H2,HH.objs.size,fp⟩ s2.heap.objs.size I2.fresh
 have I3:=blk_in (t:=s2.toks+([]:List (Str×Value)).length) I2 O f2 (Nat.le_refl _) hCle hfp hDC old hacc hns₁
 rw [show xs.map (fun _=>(none:Option V))=List.replicate xs.length none from List.map_const' ..]at I3
 generalize hX:X.blk scope (xs++around X.N fs) ⟨s2,H2,HH.objs.size,fp⟩=X' at I3
 have stat:∀{H':Hp},(∀b∈fp,H' b=none)→∀b∈fp,FpOk X' [] H' b:=fun hn b hb=>by
  subst hX
  refine ⟨hn b hb,?_,?_,.inl hb,fun x c e=>?_,fun p hp=>absurd hp (by simp)⟩
  · exact (I3.ok.exf b hb).1
  · exact I3.ok.exfs b hb
  · exact (I3.ok.exf b hb).2 x c e
 have fr3:∀b∈fp,upd H2 s2.heap.objs.size (.lst []) b=none:=fun b hb=>by
  rw [upd_ne (Nat.ne_of_lt (hfp b hb))];exact (f2 b hb).1
 have ccell:∀y c,X.env.cells.lookup y=some c→c≠HH.objs.size:=fun y c e=>by
  obtain ⟨v,q⟩:=I2.cell y c e
  exact Nat.ne_of_lt (Nat.lt_of_lt_of_le q.lt hCle)
 have cloc:HH.objs.size≠X.env.locals:=(Nat.ne_of_lt (Nat.lt_of_lt_of_le I2.lt hCle)).symm
 have eP:X'.prog=X.prog:=by rw [← hX]
 have ew:X'.w=X.w:=by rw [← hX]
 have eK:X'.K=X.K:=by rw [← hX]
 have eA:X'.A=X.A:=by rw [← hX]
 have ec:X'.calm=true:=by rw [← hX];exact hc
 have ex:X'.xe=fun _ _=>False:=by rw [← hX]
 have een:X'.env=compEnvC scope (clo X.env scope.names []) HH.objs.size X.env:=by rw [← hX]
 have hg':=hg ⟨s2,H2,HH.objs.size,fp⟩
 have ht':=ht ⟨s2,H2,HH.objs.size,fp⟩
 have he':=he ⟨s2,H2,HH.objs.size,fp⟩
 rw [hX]at hg' ht' he'
 have st1:tn 0 h₁:=T.keep _ _ _ st2 fun b hb o e=>old b o e
 have loop:∀s₃:Shared,s₃={s2 with heap:=h₁,toks:=s2.toks+([]:List (Str×Value)).length}→
  codeAny (model X.prog X.w) X.A (.compLoop (.ListComp elt [⟨tg,iter,ifs,0⟩] scope pos) 0 (.ref it) (.ref s2.heap.objs.size) (compEnvC scope (clo X.env scope.names []) HH.objs.size X.env))
   (RR (.ref s2.heap.objs.size) HH.objs.size) s₃:=by
  rintro s₃ rfl
  refine compLoop_any (fun n s'=>∃i ys H',Inv X' [] (List.replicate xs.length none++fs.map fun j=>σ.getD j none) H' s'∧tn i s'.heap∧(∀b∈fp,H' b=none)∧W i n ys H') ?_ m0 ⟨0,[],_,I3,st1,fr3,w0⟩
  rintro n s4 ⟨i,ys,H4,I4,st4,fr4,w4⟩
  obtain ⟨hD4,tn4⟩:=turn i n ys H4 w4
  rcases tn4 with ⟨stop,qn⟩ | ⟨go,step⟩
  · have td:=T.done X' eP ew eK ec i [] s4 _ H4 (notedBy (model X.prog X.w) X.A (compEnvC scope (clo X.env scope.names []) HH.objs.size X.env) fun e s'=>RR (.ref s2.heap.objs.size) HH.objs.size (.error e) s') I4 (stat fr4) st4 stop
    rw [eA]at td
    refine thn td fun r s5 ⟨hr,I5⟩=>?_
    subst hr
    obtain ⟨m5,hn5,_⟩:=I5.loc
    rw [een]at hn5
    have fr5:H4 HH.objs.size=none:=by have:=I5.free;rw [een]at this;exact this
    rw [← hX]at I5
    exact hR _ _ _ m5 H4 hn5 (blk_out I2 f2 hCle I5 (Heap.SameBut.refl ..)) qn (I2.fpOk hCle fr5)
  · have ti:=T.item X' eP ew eK ec i [] s4 _ H4 (notedBy (model X.prog X.w) X.A (compEnvC scope (clo X.env scope.names []) HH.objs.size X.env) fun e s'=>RR (.ref s2.heap.objs.size) HH.objs.size (.error e) s') I4 (stat fr4) st4 go
    rw [eA]at ti
    refine thn ti fun r s5 ⟨u,hr,h5⟩=>?_
    subst hr
    refine thn h5 fun _ s6 ⟨x,H6,I6,r6,y6,st6,fr6⟩=>?_
    have I6':=I6.pinned (stat fr6) (T.obj _ _ st6)
    have g1:=hg' _ s6 _ H6 x u _ I6' r6 (step x H6 y6)
    rw [eP,ew,eA,een,ex]at g1
    refine wpAny_mono g1 (fun _ s7 ⟨σ7,H7,I7,kp7,q7⟩=>?_) fun _ _ z=>z.elim
    have t1:=ht' _ s7 σ7 H7 _ I7 q7
    rw [eP,ew,eA,een,ex]at t1
    have back:∀{H9:Hp} {s9:Shared},Inv X' ([]++pinsAt fp s6.heap) σ7 H9 s9→Inv X' [] (List.replicate xs.length none++fs.map fun j=>σ.getD j none) H9 s9∧tn (i+1) s9.heap∧∀b∈fp,H9 b=none:=fun {H9 s9} I9=>by
     refine ⟨I9.unpinned.weak ?_ kp7,T.keep _ _ _ st6 fun b hb o e=>(I9.pin (b,o) (List.mem_append_right _ (List.mem_append_right _ (mem_pinsAt hb e)))).1,fun b hb=>?_⟩
     · rw [I9.len,I4.len]
     · obtain ⟨o,e,d⟩:=T.obj _ _ st6 b hb
       exact (I9.pin (b,o) (List.mem_append_right _ (List.mem_append_right _ (mem_pinsAt hb e)))).2.1
    refine wpAny_mono t1 (fun ok s8 ⟨H8,I8,q8⟩=>?_) fun _ _ z=>z.elim
    cases ok with
    | false=>
     rw [if_neg Bool.false_ne_true]at q8 ⊢
     obtain ⟨m',hm,w8⟩:=q8
     obtain ⟨b1,b2,b3⟩:=back I8
     exact ⟨m',hm,i+1,ys,H8,b1,b2,b3,w8⟩
    | true=>
     rw [if_pos rfl]at q8 ⊢
     have e1:=he' _ s8 σ7 H8 _ I8 q8
     rw [eP,ew,eA,een,ex]at e1
     refine wpAny_mono e1 (fun uy s9 ⟨y,H9,I9,r9,hD9,hz,m',hm,w9⟩=>?_) fun _ _ z=>z.elim
     have a1:=mt_append (X:=X') (pins:=[]++pinsAt fp s6.heap) (s:=s9) (σ:=σ7) (H:=H9) (x:= .ref s2.heap.objs.size) (xs:=[y]) (v:= .ref s2.heap.objs.size) (us:=[uy]) (Q:=fun _ H'=>H'=upd H9 s2.heap.objs.size (.lst (ys++[y]))) I9 rfl (.cons r9 .nil) ⟨_,ys,y,rfl,rfl,hD9,hz,rfl⟩
     rw [eP,ew,eA,ex]at a1
     refine wpAny_mono a1 (fun _ s10 ⟨_,H10,I10,_,e10⟩=>?_) fun _ _ z=>z.elim
     subst e10
     obtain ⟨b1,b2,b3⟩:=back I10
     exact ⟨m',hm,i+1,_,_,b1,b2,b3,w9⟩
 exact codeAny_compStart_list (loop _ rfl) (T.self _ 0 _ _ _ st1 (loop _ rfl))
theorem pe_compG(hc:X.calm=true)(hok:compOkB X.N X.env.scope scope xs fs=true)(hi:PI X tg iter wi)
 (hg:∀b,PG (X.blk scope (xs++around X.N fs) b) tg (g b)) (ht:∀b,PTs (X.blk scope (xs++around X.N fs) b) ifs (tt b)) (he:∀b,PE (X.blk scope (xs++around X.N fs) b) elt (te b))
 (hs:∀x,foldedSetIterable iter X.env x=pure x:=by intro _;rfl):
 PE X (.ListComp elt [⟨tg,iter,ifs,0⟩] scope pos) (tComp wi xs.length fs g tt te):=by
 intro pins s σ H Q I h
 have O:=compOk_of hok
 rw [eval_ListComp]
 refine wpAny_comprehension_free (use:=none) rfl hs (clo_closure fun y hy hf=>I.ok.has _ (O.free y hy hf)) O.kind O.names (thn (hi pins s σ H _ I h) fun v s1 h1=>thn h1 fun itv s2 h2=>?_)
 exact comp_run (RR:=fun acc C=>compPost (model X.prog X.w) X.A X.xe none (EP X pins σ Q) acc C) hc O hg ht he h2 fun D C s' m H' hn I' q F=>⟨m,hn,fun h2 sb=>⟨.ref D,H',turned_of I' F sb,rfl,q⟩⟩
theorem ps_comp{y:Str}{py:Pos}{i:Nat}(hN:X.N.Nodup)(hy:X.N[i]?=some y)(hyl:X.env.kindOf y=some .local)(hc:X.calm=true)(hok:compOkB X.N X.env.scope scope xs fs=true)(hi:PI X tg iter wi)
 (hg:∀b,PG (X.blk scope (xs++around X.N fs) b) tg (g b)) (ht:∀b,PTs (X.blk scope (xs++around X.N fs) b) ifs (tt b)) (he:∀b,PE (X.blk scope (xs++around X.N fs) b) elt (te b)) {spos:Pos}
 (hsw:swapsWith (.ListComp elt [⟨tg,iter,ifs,0⟩] scope pos) (some (.Name y py)) spos.line X.env=pure true:=by rfl)
 (hs:∀x,foldedSetIterable iter X.env x=pure x:=by intro _;rfl):
 PS X (.Assign [.Name y py] (.ListComp elt [⟨tg,iter,ifs,0⟩] scope pos) spos) (tAsg (tComp wi xs.length fs g tt te) (gName i)):=by
 intro pins s σ H D I h
 have O:=compOk_of hok
 rw [exec_Assign_Name_used _ _ _ _ hsw]
 refine wpAny_bind (wpAny_standAt (wpAny_bind ?_))
 show wpAny _ X.A (do let _ ← comprehension (.ListComp elt [⟨tg,iter,ifs,0⟩] scope pos) scope X.env _ (newList []) false (eval iter X.env) (some (assign (.Name y py) X.env))) _ _ s
 refine wpAny_bind (wpAny_mono (wpAny_comprehension_free (use:=some (assign (.Name y py) X.env)) (Q:=fun _ s'=>SP X pins D .next s') rfl hs (clo_closure fun y hy hf=>I.ok.has _ (O.free y hy hf)) O.kind O.names
  (thn (hi pins s σ H _ I h) fun v s1 h1=>thn h1 fun itv s2 h2=>?_)) (fun _ s' hq=>wpAny_pure (wpAny_pure hq)) fun _ _ e=>e)
 refine comp_run (RR:=fun acc C=>compPost (model X.prog X.w) X.A X.xe (some (assign (.Name y py) X.env)) (fun _ s'=>SP X pins D .next s') acc C) hc O hg ht he h2 fun D' C s' m H' hn I0 q0 F=>?_
 show wpAny _ X.A (assign (.Name y py) X.env (.ref D')) _ _ _
 refine wpAny_assign_Name (store_ok2 I0 hN hy (.inl hyl) (v:= .ref D') rfl (fun s3 I3 hsb=>?_) (.inr hyl))
 obtain ⟨a,sb3,ha⟩:=hsb
 have haC:C≠a:=by
  rcases ha with rfl | ha
  · exact F.2.1
  · exact (F.2.2.2.2.1 y a ha).symm
 exact ⟨m,hn.sameBut sb3 haC,fun h4 sb4=>⟨_,H',turned_of I3 F sb4,q0⟩⟩
end
end L2
namespace L2
noncomputable def Its(z:Str):It:=⟨fun i _=>i < z.cps.size,fun i H x H'=>H'=H∧∃c,z.cps[i]?=some c∧x= .str ⟨#[c]⟩,fun i _=>z.cps.size≤i⟩
noncomputable def iStr(tl:TE):TI:=fun σ H R=>tl σ H fun x H1=>∃z,x= .str z∧R (Its z) H1
section
variable {P:Program} {w:World} {K:PySem.W.Frag} {tg:Expr}
theorem turn_str(ty:String)(hty:ty="str_ascii_iterator"∨ty="str_iterator")(z:Str)(t:Tok)(it:Addr):Turn P w K tg (Its z) [it] it (fun i h=>i≤z.cps.size∧h.IsStrIter it ty z t i) where
 mem:=by simp
 obj:=fun i h st b hb=>by
  have e:b=it:=by simpa using hb
  subst e
  obtain ⟨o,e,c,d⟩:=st.2
  exact ⟨o,e,fun v z=>by rw [d]at z;cases z⟩
 keep:=fun i h h' st k=>⟨st.1,by obtain ⟨o,e,r⟩:=st.2;exact ⟨o,k it (by simp) o e,r⟩⟩
 item:=by
  intro X hP hw hK hc i pins s σ H E I hf st hg
  subst hP hw hK
  obtain ⟨f0,f1,f2,f3,f4,f5⟩:=hf it (by simp)
  have W:Walks X.prog X.w X.A it [it] [it] z.cps.size (SignAt z) (fun i h=>h.IsStrIter it ty z t i):=by
   rcases hty with rfl | rfl
   · exact Walks.strAscii (I.ok.hd hc) it z t
   · exact Walks.strWide (I.ok.hd hc) it z t
  refine W.item i s _ _ hg st.2 fun v h' tk hv st' kk=>?_
  obtain ⟨c,u,hcc,rfl⟩:=hv
  have I1:Inv X pins σ H {s with heap:=h',toks:=tk}:=I.turned (fun b o hb e=>kk b o (by simpa using hb) e) f0 f1 f3 f4 f5
  obtain ⟨o,e,cc,d⟩:=id st'
  refine ⟨_,rfl,go_of (s:={s with heap:=h',toks:=tk}) (n:=ty) e cc d (by rcases hty with rfl | rfl <;> decide) ⟨.str ⟨#[c]⟩,H,I1,⟨u,rfl⟩,⟨rfl,c,hcc,rfl⟩,⟨hg,st'⟩,fun b hb=>(hf b hb).1⟩⟩
 done:=by
   intro X hP hw hK hc i pins s σ H E I hf st hg
   subst hP hw hK
   obtain ⟨f0,f1,f2,f3,f4,f5⟩:=hf it (by simp)
   have W:Walks X.prog X.w X.A it [it] [it] z.cps.size (SignAt z) (fun i h=>h.IsStrIter it ty z t i):=by
    rcases hty with rfl | rfl
    · exact Walks.strAscii (I.ok.hd hc) it z t
    · exact Walks.strWide (I.ok.hd hc) it z t
   have hi:i=z.cps.size:=Nat.le_antisymm st.1 hg
   subst hi
   exact W.done s _ _ st.2 fun h' tk kk=>⟨rfl,I.turned (fun b o hb e=>kk b o (by simpa using hb) e) f0 f1 f3 f4 f5⟩
 self:=fun _ _ _ _ _ st h=>by
  rcases hty with rfl | rfl
  · exact wpAny_pyIter_striter_ascii st.2 h
  · exact wpAny_pyIter_striter_wide st.2 h
end
section
variable {X:Cx} {tg:Expr}
theorem pi_str{l:Expr}{tl:TE}(hl:PE X l tl):PI X tg l (iStr tl):=by
 intro pins s σ H R I h
 refine thn (hl pins s σ H _ I h) fun v s1 ⟨x,H1,I1,r1,q1⟩=>?_
 obtain ⟨z,e,q⟩:=q1
 subst e
 obtain ⟨t,rfl⟩:=r1
 have fin:∀ty,(ty="str_ascii_iterator"∨ty="str_iterator")→PIE X pins σ tg R (.ref s1.heap.objs.size) {s1 with heap:=s1.heap.push {cls:= .type ty,data:= .fields #[.str z t,.int 0 0]}}:=fun ty hty=>by
  refine ⟨s1.heap.objs.size,[s1.heap.objs.size],_,_,H1,rfl,I1.kept (t':=s1.toks) fun b o e=>Heap.get?_push_of_some _ e,turn_str ty hty z t _,⟨Nat.zero_le _,_,Heap.get?_push_size _ rfl,rfl,rfl⟩,fun b hb=>?_,q⟩
  have e:b=s1.heap.objs.size:=by simpa using hb
  subst e
  exact I1.fpOk (Nat.le_refl _) I1.fresh
 cases ha:z.cps.all (· < 128)
 · exact wpAny_pyIter_wide ha (fin _ (.inr rfl))
 · exact wpAny_pyIter_ascii ha (fin _ (.inl rfl))
noncomputable def rSlS:V→Option Int→Option Int→Hp→VK→Prop:=fun x lo hi H Q=>∃z,x= .str z∧z.length≤sizeLine∧Q (.str (Txt.slice z lo hi)) H
noncomputable def rJoin(K:PySem.W.Frag):V→List V→Hp→VK→Prop:=fun x vs H Q=>∃z p ys,x= .str z∧vs=[.ref p]∧SqL K H p (ys.map V.str)∧(ys.map (·.length)).sum+ys.length * z.length≤16777216∧Q (.str (Txt.join z ys)) H
noncomputable def rFind:V→List V→Hp→VK→Prop:=fun x vs H Q=>∃z y,x= .str z∧vs=[.str y]∧Q (.int (Txt.find z y)) H
noncomputable def rSplit:V→List V→Hp→VK→Prop:=fun x vs H Q=>∃z y,x= .str z∧vs=[.str y]∧(y.length==0)=false∧z.length+2≤sizeLine∧∀p,H p=none→Q (.ref p) (upd H p (.lst ((Txt.split z y).map V.str)))
noncomputable def rMulS:R2:=fun x y H Q=>∃z n,x= .str z∧y= .int n∧MulOk z n∧Q (.str (Txt.mul z n)) H
noncomputable def rAll(K:PySem.W.Frag):List V→Hp→VK→Prop:=fun xs H Q=>∃(p:Addr) (bs:List Bool),xs=[.ref p]∧SqL K H p (bs.map V.bl)∧Q (.bl (bs.all id)) H
theorem call_all(hc:X.calm=true):CallR X (.builtin "all") (rAll X.K):=by
 intro pins s σ H xs us Q I r h
 obtain ⟨p,bs,rfl,hp,q⟩:=h
 obtain ⟨u,rfl,ru⟩:=vals1 r
 cases ru
 obtain ⟨its,r,pl,hz⟩:=I.list hp
 have hlt:p < s.heap.objs.size:=by obtain ⟨o,n,e,_⟩:=pl;exact Heap.lt_size e
 refine call_all_walk (wpAny_pyIter_list pl.isList ⟨s.heap.objs.size,_,_,_,_,_,fun i=>bs.getD i true,rfl,Walks.list (show X.A.in1.handled=none from I.ok.hd hc) s.heap.objs.size p (Nat.ne_of_lt hlt) its.toArray,⟨⟨_,Heap.get?_push_size _ rfl,rfl,rfl⟩,pl.isList.push _⟩,?_,fun h' tk kk=>?_⟩)
 · intro i v s' Q' E' hP hQ'
   have hP:its.toArray[i]?=some v:=hP
   have hlen:=r.length
   rw [List.length_map]at hlen
   have hi:i < bs.length:=by
    have:=(Array.getElem?_eq_some_iff.mp hP).1
    rw [List.size_toArray]at this
    omega
   obtain ⟨u,hu,ru⟩:=r.get (i:=i) (x:=V.bl (bs[i])) (by simp [hi])
   have e:u=v:=by
    have:its[i]?=some v:=by simpa using hP
    rw [hu]at this;exact Option.some.inj this
   subst e
   cases ru
   dsimp only at hQ'
   rw [List.getD_eq_getElem?_getD,List.getElem?_eq_getElem hi]at hQ'
   exact wpAny_pure hQ'
 · refine ⟨.bl _,H,I.kept (t':=tk) fun b o e=>kk b o ?_ (Heap.get?_push_of_some _ e),rfl,?_⟩
   · simpa using Nat.ne_of_lt (Heap.lt_size e)
   · have hlen:=r.length
     rw [List.length_map]at hlen
     have:((List.range its.toArray.size).all fun i=>bs.getD i true)=bs.all id:=by
      rw [List.size_toArray,← hlen]
      rw [Bool.eq_iff_iff,List.all_eq_true,List.all_eq_true]
      constructor
      · intro h x hx
        obtain ⟨i,hi,rfl⟩:=List.mem_iff_getElem.mp hx
        have:=h i (by simpa using hi)
        simpa [List.getD_eq_getElem?_getD,List.getElem?_eq_getElem hi] using this
      · intro h i hi
        have hi:i < bs.length:=by simpa using hi
        rw [List.getD_eq_getElem?_getD,List.getElem?_eq_getElem hi]
        exact h _ (List.getElem_mem hi)
     rw [this];exact q
end
noncomputable abbrev TJ:=Str→St→Hp→(Str→Hp→Prop)→Prop
noncomputable def PJ(X:Cx)(es:List Expr)(t:TJ):Prop:=
 ∀(acc:Str) (pins:List (Addr×Obj)) (s:Shared) (σ:St) (H:Hp) (Q:Str→Hp→Prop),Inv X pins σ H s→t acc σ H Q→
   Joins (model X.prog X.w) X.A X.xe (evalEach es X.env) acc (fun out s'=>∃H',Inv X pins σ H' s'∧Q out H') s
noncomputable def jNil:TJ:=fun acc _ H Q=>Q acc H
noncomputable def jCons(te:TE)(tr:TJ):TJ:=fun acc σ H Q=>te σ H fun x H1=>∃y,x= .str y∧(acc++y).length≤sizeLine∧tr (acc++y) σ H1 Q
noncomputable def tFstr(t:TJ):TE:=fun σ H Q=>t Str.empty σ H fun out H1=>out.length≤sizeLine∧Q (.str out) H1
noncomputable def tFmt(te:TE):TE:=fun σ H Q=>te σ H fun x H1=>(∃z,x= .str z∧z.length≤sizeLine∧Q (.str z) H1)∨∃i,x= .int i∧i.natAbs.log2 < 1920∧Q (.str (toString i)) H1
noncomputable def tFmtR(te:TE):TE:=fun σ H Q=>te σ H fun x H1=>∃z,x= .str z∧(PySem.reprText z).length≤sizeLine∧Q (.str (PySem.reprText z)) H1
section
variable {X:Cx} {e v₁ v₂:Expr} {es:List Expr} {te:TE} {tr t:TJ} {pos:Pos}
theorem pj_nil:PJ X [] jNil:=fun _ _ _ _ H _ I h=>⟨H,I,h⟩
theorem pj_cons(he:PE X e te)(hr:PJ X es tr):PJ X (e::es) (jCons te tr):=by
 intro acc pins s σ H Q I h
 refine thn (he pins s σ H _ I h) fun v s1 ⟨x,H1,I1,r1,y,ex,hz,q⟩=>?_
 subst ex
 obtain ⟨t,rfl⟩:=r1
 exact ⟨y,t,rfl,hz,hr _ pins s1 σ H1 Q I1 q⟩
theorem Joins.mono{M:Model}{A:Around}{E:Value→Shared→Prop}{Q Q':Str→Shared→Prop}(h:∀o s,Q o s→Q' o s):∀{parts:List (Sem Value)} {acc:Str} {s:Shared},Joins M A E parts acc Q s→Joins M A E parts acc Q' s
 | [],_,_,q=>h _ _ q
 | _::_,_,_,q=>wpAny_mono q (fun v s1 ⟨y,t,e,hz,r⟩=>⟨y,t,e,hz,Joins.mono h r⟩) fun _ _ x=>x
theorem pe_fstr(h:PJ X (v₁::v₂::es) t):PE X (.JoinedStr (v₁::v₂::es) pos) (tFstr t):=by
 intro pins s σ H Q I hq
 refine wpAny_JoinedStr (Joins.mono (fun o s1 ⟨H1,I1,hz,q⟩=>?_) (h Str.empty pins s σ H _ I hq))
 exact ⟨hz,.str o,H1,I1.tok _,⟨_,rfl⟩,q⟩
theorem pe_fmt(h:PE X e te):PE X (.FormattedValue e (-1) none pos) (tFmt te):=by
 intro pins s σ H Q I hq
 refine wpAny_FormattedValue_plain (thn (h pins s σ H _ I hq) fun v s1 ⟨x,H1,I1,r1,q⟩=>?_)
 rcases q with ⟨z,rfl,hz,q⟩ | ⟨i,rfl,hz,q⟩
 · obtain ⟨t,rfl⟩:=r1
   exact wpAny_formatField_str ⟨.str z,H1,I1,⟨_,rfl⟩,q⟩ ⟨.str z,H1,I1.tok _,⟨_,rfl⟩,q⟩ hz
 · obtain ⟨t,rfl⟩:=r1
   exact wpAny_formatField_int hz ⟨.str _,H1,I1.tok _,⟨_,rfl⟩,q⟩
end
end L2
namespace L2
noncomputable abbrev tComp1(wi:TI)(fs:List Nat)(te:Blk→TE):TE:=tComp wi 1 fs (fun _=>gName 0) (fun _=>tYes) te
section
variable {X:Cx} {scope:Scope} {x:Str} {px:Pos} {fs:List Nat} {elt iter:Expr} {pos:Pos} {wi:TI} {te:Blk→TE}
theorem pg_own(hok:compOkB X.N X.env.scope scope [x] fs=true)(b:Blk):PG (X.blk scope ([x]++around X.N fs) b) (.Name x px) (gName 0):=
 pg_name (compOk_of hok).nd rfl (.inl (lookup_relabel_local ((compOk_of hok).own x (by simp)))) (.inr (lookup_relabel_local ((compOk_of hok).own x (by simp))))
theorem pe_comp1(x:Str)(fs:List Nat)(hc:X.calm=true)(hok:compOkB X.N X.env.scope scope [x] fs=true)(hi:PI X (.Name x px) iter wi)(he:∀b,PE (X.blk scope ([x]++around X.N fs) b) elt (te b))
 (hs:∀x,foldedSetIterable iter X.env x=pure x:=by intro _;rfl):PE X (.ListComp elt [⟨.Name x px,iter,[],0⟩] scope pos) (tComp1 wi fs te):=
 pe_compG (xs:=[x]) (g:=fun _=>gName 0) (tt:=fun _=>tYes) hc hok hi (pg_own hok) (fun _=>pts_nil) he hs
theorem ps_comp1{y:Str}{py:Pos}{i:Nat}{spos:Pos}(x:Str)(fs:List Nat)(hN:X.N.Nodup)(hy:X.N[i]?=some y)(hyl:X.env.kindOf y=some .local)(hc:X.calm=true)(hok:compOkB X.N X.env.scope scope [x] fs=true)(hi:PI X (.Name x px) iter wi)(he:∀b,PE (X.blk scope ([x]++around X.N fs) b) elt (te b))
 (hsw:swapsWith (.ListComp elt [⟨.Name x px,iter,[],0⟩] scope pos) (some (.Name y py)) spos.line X.env=pure true:=by rfl)
 (hs:∀x,foldedSetIterable iter X.env x=pure x:=by intro _;rfl):PS X (.Assign [.Name y py] (.ListComp elt [⟨.Name x px,iter,[],0⟩] scope pos) spos) (tAsg (tComp1 wi fs te) (gName i)):=
 ps_comp (xs:=[x]) (g:=fun _=>gName 0) (tt:=fun _=>tYes) hN hy hyl hc hok hi (pg_own hok) (fun _=>pts_nil) he hsw hs
end
theorem kept0{x:Option V}{r:St}:Kept (none::r) (x::r):=fun i v e=>by
 cases i with
 | zero=>cases e
 | succ i=>exact e
section
variable {K:PySem.W.Frag} {tail:St} {te:Blk→TE} {Q:VK} {H1:Hp}
noncomputable def CompNext(D:Addr)(n i:Nat)(ys:List V)(Pv:Nat→List V→Hp→Prop):VK:=fun y H4=>H4 D=some (.lst ys)∧ys.length < sizeLine∧∃m',m' < n - i∧(m'=n - (i+1)∧i+1≤n∧Pv (i+1) (ys++[y]) (upd H4 D (.lst (ys++[y]))))
theorem compNext{D:Addr}{n i:Nat}{ys:List V}{Pv:Nat→List V→Hp→Prop}{y:V}{H4:Hp}(h1:H4 D=some (.lst ys))(h2:ys.length < sizeLine)(h3:i < n)(h4:Pv (i+1) (ys++[y]) (upd H4 D (.lst (ys++[y])))):CompNext D n i ys Pv y H4:=
 ⟨h1,h2,n - (i+1),by omega,rfl,h3,h4⟩
theorem comp_by{J:It}(n:Nat)
 (h:∀(b:Blk) (D:Addr),H1 D=none→∃Pv:Nat→List V→Hp→Prop,Pv 0 [] (upd H1 D (.lst []))∧(∀i ys H,Pv i ys H→H D=some (.lst ys))∧(∀ys H,Pv n ys H→J.stop n H∧Q (.ref D) H)∧
  ∀i ys H,i < n→Pv i ys H→J.go i H∧∀x H3,J.yld i H x H3→te b (some x::tail) H3 (CompNext D n i ys Pv)):CompTail (none::tail) (fun _=>gName 0) (fun _=>tYes) te Q J H1:=by
 intro b D hD
 obtain ⟨Pv,p0,p1,p2,p3⟩:=h b D hD
 refine ⟨fun i m ys H=>m=n - i∧i≤n∧Pv i ys H,⟨n,rfl,Nat.zero_le _,p0⟩,?_⟩
 rintro i m ys H ⟨rfl,hi,p⟩
 refine ⟨p1 i ys H p,?_⟩
 by_cases hlt:i < n
 · obtain ⟨go,st⟩:=p3 i ys H hlt p
   refine .inr ⟨go,fun x H3 y=>⟨kept0,?_⟩⟩
   exact st x H3 y
 · have e:i=n:=by omega
   subst e
   exact .inl (p2 ys H p)
theorem same_new{D:Addr}{o:HO}(h:H1 D=none):Same H1 (upd H1 D o):=fun b u e=>by rw [upd_ne (ne_of_none e h)];exact e
theorem compS_pure{z:Str}(f:Nat→V)(hz:z.cps.size≤sizeLine)(he:∀b c H Q',c∈z.cps.toList→Same H1 H→Q' (f c) H→te b (some (.str ⟨#[c]⟩)::tail) H Q')
 (q:∀D,H1 D=none→Q (.ref D) (upd H1 D (.lst (z.cps.toList.map f)))):CompTail (none::tail) (fun _=>gName 0) (fun _=>tYes) te Q (Its z) H1:=by
 refine comp_by z.cps.size (fun b D hD=>⟨fun i ys H=>i≤z.cps.size∧ys=(z.cps.toList.take i).map f∧H=upd H1 D (.lst ys),⟨Nat.zero_le _,rfl,rfl⟩,?_,?_,?_⟩)
 · rintro i ys H ⟨hi,rfl,rfl⟩
   exact upd_same
 · rintro ys H ⟨_,rfl,rfl⟩
   refine ⟨Nat.le_refl _,?_⟩
   have e:z.cps.toList.take z.cps.size=z.cps.toList:=List.take_of_length_le (by simp)
   rw [e];exact q D hD
 · rintro i ys H hi ⟨_,rfl,rfl⟩
   refine ⟨hi,fun x H3 ⟨e3,c,hc,ex⟩=>?_⟩
   subst e3 ex
   have hc':z.cps.toList[i]?=some c:=by simpa using hc
   refine he b c _ _ (List.mem_of_getElem? hc') (same_new hD) (compNext upd_same (by rw [List.length_map,List.length_take,Array.length_toList];omega) hi ⟨hi,?_,?_⟩)
   · rw [List.take_add_one,hc'];simp
   · funext a;by_cases ha:a=D <;> simp [upd,ha]
theorem compL_pure{a:Addr}{xs:List V}(f:V→V)(hS:SqL K H1 a xs)(hz:xs.length≤sizeLine)(he:∀b x H Q',x∈xs→Same H1 H→Q' (f x) H→te b (some x::tail) H Q')
 (q:∀D,H1 D=none→Q (.ref D) (upd H1 D (.lst (xs.map f)))):CompTail (none::tail) (fun _=>gName 0) (fun _=>tYes) te Q (Itl K a) H1:=by
 refine comp_by xs.length (fun b D hD=>⟨fun i ys H=>i≤xs.length∧ys=(xs.take i).map f∧H=upd H1 D (.lst ys),⟨Nat.zero_le _,rfl,rfl⟩,?_,?_,?_⟩)
 · rintro i ys H ⟨hi,rfl,rfl⟩
   exact upd_same
 · rintro ys H ⟨_,rfl,rfl⟩
   refine ⟨⟨xs,(same_new hD).seq hS,Nat.le_refl _⟩,?_⟩
   rw [List.take_length];exact q D hD
 · rintro i ys H hi ⟨_,rfl,rfl⟩
   refine ⟨⟨xs,xs[i],(same_new hD).seq hS,by simp [hi]⟩,fun x H3 ⟨e3,ex⟩=>?_⟩
   subst e3
   have hc':=ex xs ((same_new hD).seq hS)
   refine he b x _ _ (List.mem_of_getElem? hc') (same_new hD) (compNext upd_same (by rw [List.length_map,List.length_take];omega) hi ⟨hi,?_,?_⟩)
   · rw [List.take_add_one,hc'];simp
   · funext a;by_cases ha:a=D <;> simp [upd,ha]
end
section
variable {σ:St} {H:Hp} {Q:VK} {D:Ends} {K:PySem.W.Frag}
theorem rd_comp{wi:TI}{fs:List Nat}{te:Blk→TE}:tComp1 wi fs te σ H Q=wi σ H (CompTail (none::fs.map fun j=>σ.getD j none) (fun _=>gName 0) (fun _=>tYes) te Q):=rfl
theorem rd_istr{tl:TE}{R:It→Hp→Prop}:iStr tl σ H R=tl σ H fun x H1=>∃z,x= .str z∧R (Its z) H1:=rfl
theorem rd_sl{r:V→Option Int→Option Int→Hp→VK→Prop}{te:TE}{tl th:TO}:tSl r te tl th σ H Q=te σ H fun x H1=>tl σ H1 fun l H2=>th σ H2 fun u H3=>r x l u H3 Q:=rfl
theorem rd_noPart{QO:Option Int→Hp→Prop}:tNoPart σ H QO=QO none H:=rfl
theorem rd_part{t:TE}{QO:Option Int→Hp→Prop}:tPart t σ H QO=t σ H fun x H1=>∃i,x= .int i∧QO (some i) H1:=rfl
theorem rd_slS{x:V}{lo hi:Option Int}:rSlS x lo hi H Q=∃z,x= .str z∧z.length≤sizeLine∧Q (.str (Txt.slice z lo hi)) H:=rfl
theorem rd_slL{x:V}{lo hi:Option Int}:rSlL K x lo hi H Q=∃a xs,x= .ref a∧SqL K H a xs∧∀p,H p=none→Q (.ref p) (upd H p (.lst (cutV xs lo hi))):=rfl
theorem rd_bm{T:String}{r:V→List V→Hp→VK→Prop}{to:TE}{t:TA}:tBM K T r to t σ H Q=to σ H fun x H1=>tyV K T x H1∧t σ H1 fun xs H2=>r x xs H2 Q:=rfl
theorem rd_bm0{T:String}{r:V→List V→Hp→VK→Prop}{to:TE}:tBM0 K T r to σ H Q=to σ H fun x H1=>tyV K T x H1∧r x [] H1 Q:=rfl
theorem tyV_str{z:Str}:tyV K "str" (.str z) H=True:=eq_true rfl
theorem rd_join{x:V}{vs:List V}:rJoin K x vs H Q=∃z p ys,x= .str z∧vs=[.ref p]∧SqL K H p (ys.map V.str)∧(ys.map (·.length)).sum+ys.length * z.length≤16777216∧Q (.str (Txt.join z ys)) H:=rfl
theorem rd_find{x:V}{vs:List V}:rFind x vs H Q=∃z y,x= .str z∧vs=[.str y]∧Q (.int (Txt.find z y)) H:=rfl
theorem rd_split{x:V}{vs:List V}:rSplit x vs H Q=∃z y,x= .str z∧vs=[.str y]∧(y.length==0)=false∧z.length+2≤sizeLine∧∀p,H p=none→Q (.ref p) (upd H p (.lst ((Txt.split z y).map V.str))):=rfl
theorem rd_all{xs:List V}:rAll K xs H Q=∃(p:Addr) (bs:List Bool),xs=[.ref p]∧SqL K H p (bs.map V.bl)∧Q (.bl (bs.all id)) H:=rfl
theorem rd_mulS{x y:V}:rMulS x y H Q=∃z n,x= .str z∧y= .int n∧MulOk z n∧Q (.str (Txt.mul z n)) H:=rfl
theorem rd_jnil{acc:Str}{QS:Str→Hp→Prop}:jNil acc σ H QS=QS acc H:=rfl
theorem rd_jcons{te:TE}{tr:TJ}{acc:Str}{QS:Str→Hp→Prop}:jCons te tr acc σ H QS=te σ H fun x H1=>∃y,x= .str y∧(acc++y).length≤sizeLine∧tr (acc++y) σ H1 QS:=rfl
theorem rd_fstr{t:TJ}:tFstr t σ H Q=t Str.empty σ H fun out H1=>out.length≤sizeLine∧Q (.str out) H1:=rfl
theorem rd_fmtR{te:TE}:tFmtR te σ H Q=te σ H fun x H1=>∃z,x= .str z∧(PySem.reprText z).length≤sizeLine∧Q (.str (PySem.reprText z)) H1:=rfl
theorem rd_fmt{te:TE}:tFmt te σ H Q=te σ H fun x H1=>(∃z,x= .str z∧z.length≤sizeLine∧Q (.str z) H1)∨∃i,x= .int i∧i.natAbs.log2 < 1920∧Q (.str (toString i)) H1:=rfl
theorem rd_dnewK:tDNewK σ H Q=∀p,H p=none→Q (.ref p) (upd H p (.dK [])):=rfl
theorem ixS_of{z:Str}{i:Int}{c:Nat}(hz:z.length≤sizeLine)(e:atI z.cps.toList i=some c)(q:Q (.str ⟨#[c]⟩) H):rIxS (.str z) (.int i) H Q:=⟨z,i,c,rfl,rfl,hz,e,q⟩
theorem blk_K{X:Cx}{scope:Scope}{N':List Str}{b:Blk}:(X.blk scope N' b).K=X.K:=rfl
end
section
variable {X:Cx} {x:Str} {pos:Pos}
theorem pe_gint{i:Int}(hg:Gl X x)(hm:∃t,X.mg x=some (.int i t))(hd:(x==("__debug__":Str))=false:=by decide):PE X (.Name x pos) (tC (.int i)):=by
 obtain ⟨t,hm⟩:=hm
 exact pe_glob hg hm ⟨t,rfl⟩ hd
theorem pe_gstr{z:Str}(hg:Gl X x)(hm:∃t,X.mg x=some (.str z t))(hd:(x==("__debug__":Str))=false:=by decide):PE X (.Name x pos) (tC (.str z)):=by
 obtain ⟨t,hm⟩:=hm
 exact pe_glob hg hm ⟨t,rfl⟩ hd
end
theorem TyOf.same{K:PySem.W.Frag}{H H':Hp}{x:V}{t:Value}(s:Same H H')(h:TyOf K H x t):TyOf K H' x t:=by
 cases h with
 | non=>exact .non
 | bl x=>exact .bl x
 | int i=>exact .int i
 | str x=>exact .str x
 | flt x=>exact .flt x
 | lst e=>exact .lst (s _ _ e)
 | frz e=>exact .frz (s _ _ e)
 | tup e=>exact .tup (s _ _ e)
 | dK e=>exact .dK (s _ _ e)
 | dT e=>exact .dT (s _ _ e)
 | ins e cl ha hn htk hm=>exact .ins (s _ _ e) cl ha hn htk hm
theorem Isi.same{K:PySem.W.Frag}{H H':Hp}{x:V}{n:String}{b:Bool}(s:Same H H')(h:Isi K H x n b):Isi K H' x n b:=let ⟨t,ty,e⟩:=h;⟨t,ty.same s,e⟩
theorem line_val:sizeLine=16777216:=by decide
theorem len_app{a b:Str}:(a++b).length=a.length+b.length:=strLen_append a b
theorem len_one{c:Nat}:(⟨#[c]⟩:Str).length=1:=rfl
theorem str_len{z:Str}:z.cps.toList.length=z.length:=by simp [Str.length]
theorem app_list{a b:Str}:(a++b).cps.toList=a.cps.toList++b.cps.toList:=by
 show (a.cps++b.cps).toList=_
 simp
theorem script_go{K:PySem.W.Frag}{H:Hp}{a:Addr}{ns:List Int}{R:List Int→Prop}(h:SqL K H a (ns.map V.int))(hl:ns.length≤63)(q:R ns):∃x:List Int,SqL K H a (x.map V.int)∧x.length≤63∧R x:=⟨ns,h,hl,q⟩
noncomputable def hasS(z y:Str):Bool:=!(Builtin.Str.occurrences z y 0 z.length 1).isEmpty
theorem hasS_one{z:Str}{c:Nat}:hasS z ⟨#[c]⟩=decide (c∈z.cps.toList):=StrLaws.found_one z c
noncomputable def rInS:R2:=fun x y H Q=>∃i j,x= .str i∧y= .str j∧Q (.bl (hasS j i)) H
noncomputable def rNotInS:R2:=fun x y H Q=>∃i j,x= .str i∧y= .str j∧Q (.bl (!hasS j i)) H
theorem op_inS{X:Cx}:OpR X (compareOp .In) rInS:=op_in_str
theorem rd_inS{x y:V}{H:Hp}{Q:VK}:rInS x y H Q=∃i j,x= .str i∧y= .str j∧Q (.bl (hasS j i)) H:=rfl
theorem rd_notinS{x y:V}{H:Hp}{Q:VK}:rNotInS x y H Q=∃i j,x= .str i∧y= .str j∧Q (.bl (!hasS j i)) H:=rfl
theorem at_0{α:Type}{c:α}{r:List α}:atI (c::r) 0=some c:=atI_of (by decide) rfl
end L2
namespace L2
noncomputable def flatEq(xs ys:List V):Bool:=match xs,ys with
 | [],[]=>true
 | x::xs,y::ys=>eqV x y && flatEq xs ys
 | _,_=>false
theorem eqV_str{x y:Str}:eqV (.str x) (.str y)=decide (x=y):=rfl
noncomputable def EqQ(K:PySem.W.Frag)(H:Hp)(x y:V)(r:Bool):Prop:=∃a b xs ys,x= .ref a∧y= .ref b∧((SqL K H a xs∧SqL K H b ys)∨(SqT K H a xs∧SqT K H b ys))∧xs.all flatV=true∧ys.all flatV=true∧r=flatEq xs ys
section
variable {X:Cx} {pins:List (Addr×Obj)} {σ:St} {H:Hp} {s:Shared}
noncomputable def rEqQ(K:PySem.W.Frag):R2:=fun x y H Q=>∃r,EqQ K H x y r∧Q (.bl r) H
noncomputable def rNeQ(K:PySem.W.Frag):R2:=fun x y H Q=>∃r,EqQ K H x y r∧Q (.bl (!r)) H
end
section
variable {K:PySem.W.Frag} {H:Hp} {Q:VK} {x y:V}
theorem rd_eqQ:rEqQ K x y H Q=∃r,EqQ K H x y r∧Q (.bl r) H:=rfl
theorem rd_neQ:rNeQ K x y H Q=∃r,EqQ K H x y r∧Q (.bl (!r)) H:=rfl
theorem all_strs{xs:List Str}:(xs.map V.str).all flatV=true:=by
 rw [List.all_map]
 exact List.all_eq_true.mpr fun _ _=>rfl
end
end L2
namespace L2
structure TryB where
 pn:List (Addr×Obj)
 xe:Value→Shared→Prop
 EE:St→XK
noncomputable def tTryV(tb:TryB→TS)(th:TH):TS:=fun D σ H=>∀(pn:List (Addr×Obj)) (xe:Value→Shared→Prop),tb ⟨pn,xe,fun σ' cls ox H'=>∃x,ox=some x∧th cls x D σ' H'⟩ D σ H
noncomputable def hClsV(K:PySem.W.Frag)(c:Value)(ts:Addr→TS)(tr:TH):TH:=fun cls x D σ H=>∃b,PySem.W.exmOne K cls c=some b∧if b=true then ts x D σ H else tr cls x D σ H
noncomputable def hAsV(K:PySem.W.Frag)(c:Value)(i:Nat)(ts:Addr→TS)(tr:TH):TH:=fun cls x D σ H=>∃b,PySem.W.exmOne K cls c=some b∧if b=true then ts x (endsAs i D) (σ.set i (some (.ref x))) (upd H x (excO x cls)) else tr cls x D σ H
section
variable {σ:St} {H:Hp} {D:Ends} {K:PySem.W.Frag}
theorem rd_tryV{tb:TryB→TS}{th:TH}:tTryV tb th D σ H=∀(pn:List (Addr×Obj)) (xe:Value→Shared→Prop),tb ⟨pn,xe,fun σ' cls ox H'=>∃x,ox=some x∧th cls x D σ' H'⟩ D σ H:=rfl
theorem rd_hclsV{c cls:Value}{x:Addr}{ts:Addr→TS}{tr:TH}:hClsV K c ts tr cls x D σ H=∃b,PySem.W.exmOne K cls c=some b∧if b=true then ts x D σ H else tr cls x D σ H:=rfl
theorem rd_hasV{c cls:Value}{i:Nat}{x:Addr}{ts:Addr→TS}{tr:TH}:hAsV K c i ts tr cls x D σ H=∃b,PySem.W.exmOne K cls c=some b∧if b=true then ts x (endsAs i D) (σ.set i (some (.ref x))) (upd H x (excO x cls)) else tr cls x D σ H:=rfl
theorem tryX_K{X:Cx}{pn:List (Addr×Obj)}{xe:Value→Shared→Prop}:(X.tryX pn xe).K=X.K:=rfl
theorem sui_K{X:Cx}{x:Addr}:(X.sui x).K=X.K:=rfl
end
end L2
namespace L2
structure DefM(P:Program)(w:World)(K:PySem.W.Frag)(mg:Str→Option Value)(base:Heap)(CX:CXT)(k:Nat)(C:Addr)(m:Str)(ps:List Str)(sp:Sp):Prop where
 ex:∃(f:Addr) (fd:FuncData),FnOk P w K mg base CX k f fd ps sp∧Meth K C m f∧Binds K fd ps []
structure DefI(P:Program)(w:World)(K:PySem.W.Frag)(mg:Str→Option Value)(base:Heap)(CX:CXT)(k:Nat)(x:Str)(C:Addr)(ps:List Str)(sp:Sp):Prop where
 ex:∃(f:Addr) (fd:FuncData),FnOk P w K mg base CX k f fd ps sp∧Mk K C f∧mg x=some (.ref C)∧Binds K fd ps []
noncomputable def tMethE(C:Addr)(m:Str)(sp:Sp)(EE:St→XK)(ta:TE)(t:TA):TE:=fun σ H Q=>ta σ H fun x H1=>∃a dx fs,x= .ref a∧H1 a=some (.ins C dx fs)∧fs.lookup m=none∧t σ H1 fun vs H2=>sp (x::vs) H2 Q (EE σ)
noncomputable def tMakeE(C:Addr)(sp:Sp)(EE:St→XK)(t:TA):TE:=fun σ H Q=>t σ H fun vs H1=>∀x dx,H1 x=none→H1 dx=none→dx≠x→sp (.ref x::vs) (upd (upd H1 dx (.own x)) x (.ins C dx [])) (fun v H2=>v= .non∧Q (.ref x) H2) (EE σ)
section
variable {X:Cx} {CX:CXT} {k j:Nat} {f C:Addr} {fd:FuncData} {ps:List Str} {sp:Sp} {EE:St→XK} {E:XK} {x m:Str} {p pos apos:Pos} {e o:Expr} {es:List Expr} {ta:TE} {t:TA}
theorem passS(h:Passes CX X E):PassesS CX X fun _=>E:=fun pins σ H s e s' I hc=>h pins σ H s e s' I hc
theorem run_fnS{pins:List (Addr×Obj)}{σ:St}{H:Hp}{s:Shared}{Q:VK}{us:List Value}{vs:List V}(F:FnOk X.prog X.w X.K X.mg X.base CX k f fd ps sp)(hr:Room k X.A)(hb:Binds X.K fd ps [])(hx:PassesS CX X EE)
 (I:Inv X pins σ H s) (r:Vals vs us) (h:sp vs H Q (EE σ)):wpAny (model X.prog X.w) X.A (call (.ref f) us) (EP X pins σ Q) X.xe s:=by
 have hl:us.length=ps.length:=by rw [← r.length];exact F.len _ _ _ _ h
 have hb':=hb s us I.kIn (by simpa using hl)
 rw [List.append_nil]at hb'
 refine wpAny_call (codeAny_mono (F.run X.A X.stack s H ⟨us,[]⟩ us vs Q (EE σ) hr I.env0 hb' r h) fun r s' hq=>?_)
 cases r with
 | error e=>exact hx pins σ H s e s' I hq
 | ok fl=>
  cases fl with
  | ret u=>exact I.after hq
  | next=>exact False.elim hq
  | brk=>exact False.elim hq
  | cont=>exact False.elim hq
theorem pe_methS{pl:Sem Bool}(D:DefM X.prog X.w X.K X.mg X.base CX j C m ps sp)(c:Cls X.K C)(hr:Room k X.A)(hx:PassesS CX X EE)(he:PE X o ta)(ha:PA X (e::es) t)(hj:j≤k:=by decide)
 (hst:starEach (e::es) X.env=(false,eval e X.env)::starEach es X.env:=by rfl) (hpl:(backTo pos (starEach es X.env)).any (·.1)=false:=by rfl)
 (ht:eval (.Call (.Attribute o m apos) (e::es) [] pos) X.env=(do
  let ov ← eval o X.env
  standAt apos.atName
  let (f,first) ← holding [ov] (getMethod ov m pl)
  callWith pos f first (backTo pos (starEach (e::es) X.env)) (backToKw pos (keywordEach [] X.env))):=by rfl):
 PE X (.Call (.Attribute o m apos) (e::es) [] pos) (tMethE C m sp EE ta t):=by
 obtain ⟨f,fd,F,hm,hb⟩:=D.ex
 intro pins s σ H Q I h
 refine PySem.W.methodCall_KW (pl:=pl) (thn (he pins s σ H _ I h) fun u s1 ⟨x,H1,I1,rx,a,dx,fs,ex,ea,l,q⟩=>?_) ht
 subst ex
 obtain rfl:u=Value.ref a:=rx
 refine getmeth_ok I1 ea c hm l ?_
 refine PySem.W.callWith_K (first:=[.ref a]) (h₀:=X.base) I.ok.mod.kin hm.kp (thn (ha pos pins s1 σ H1 _ I1 q) fun us s2 ⟨vs,H2,I2,r,q2⟩=>⟨I2.kIn,?_⟩) hst hpl
 exact run_fnS (us:= .ref a::us) (vs:= .ref a::vs) (F.mono hj) hr hb hx I2 (.cons rfl r) q2
theorem pe_methS0{pl:Sem Bool}(D:DefM X.prog X.w X.K X.mg X.base CX j C m ps sp)(c:Cls X.K C)(hr:Room k X.A)(hx:PassesS CX X EE)(he:PE X o ta)(hj:j≤k:=by decide)
 (ht:eval (.Call (.Attribute o m apos) [] [] pos) X.env=(do
  let ov ← eval o X.env
  standAt apos.atName
  let (f,first) ← holding [ov] (getMethod ov m pl)
  callWith pos f first (backTo pos (starEach [] X.env)) (backToKw pos (keywordEach [] X.env))):=by rfl):
 PE X (.Call (.Attribute o m apos) [] [] pos) (tMethE C m sp EE ta tNil):=by
 obtain ⟨f,fd,F,hm,hb⟩:=D.ex
 intro pins s σ H Q I h
 refine PySem.W.methodCall_KW (pl:=pl) (thn (he pins s σ H _ I h) fun u s1 ⟨x,H1,I1,rx,a,dx,fs,ex,ea,l,q⟩=>?_) ht
 subst ex
 obtain rfl:u=Value.ref a:=rx
 refine getmeth_ok I1 ea c hm l ?_
 exact PySem.W.callWith_K0 (first:=[.ref a]) I1.kIn hm.kp (run_fnS (us:=[.ref a]) (vs:=[.ref a]) (F.mono hj) hr hb hx I1 (.cons rfl .nil) q)
theorem pe_makeS(D:DefI X.prog X.w X.K X.mg X.base CX j x C ps sp)(hr:Room k X.A)(hg:Gl X x)(hx:PassesS CX X EE)(ha:PA X (e::es) t)(hj:j+1≤k:=by decide)(hdb:(x==("__debug__":Str))=false:=by decide)
 (he:starEach (e::es) X.env=(false,eval e X.env)::starEach es X.env:=by rfl) (hpl:(backTo pos (starEach es X.env)).any (·.1)=false:=by rfl):
 PE X (.Call (.Name x p) (e::es) [] pos) (tMakeE C sp EE t):=by
 obtain ⟨f,fd,F,M,hm,hb⟩:=D.ex
 intro pins s0 σ H0 Q I0 h
 refine wpAny_Call_Name_kw (ld_glob I0 hg hm ?_ hdb)
 refine PySem.W.callWith_K (h₀:=X.base) I0.ok.mod.kin M.kp (thn (ha pos pins s0 σ H0 _ I0 h) fun us s ⟨vs,H,I,r,q⟩=>⟨I.kIn,?_⟩) he hpl
 have hq:=q (s.heap.objs.size+1) s.heap.objs.size (I.hok.fresh (Nat.le_succ _)) (I.hok.fresh (Nat.le_refl _)) (Nat.ne_of_lt (Nat.lt_succ_self _))
 have I2:=Inv.made (C:=C) I
 have r2:Vals (V.ref (s.heap.objs.size+1)::vs) (Value.ref (s.heap.objs.size+1)::us):= .cons rfl r
 have hl:(Value.ref (s.heap.objs.size+1)::us).length=ps.length:=by
  rw [← r2.length];exact F.len _ _ _ _ hq
 have hb':=fun s' (h':X.K.In s'.heap)=>hb s' (Value.ref (s.heap.objs.size+1)::us) h' (by simpa using hl)
 have hr':Room (j+1) X.A:=hr.mono hj
 refine wpAny_call (make_map (f:=f) I.kIn M.makes M.init (beq_iff_eq.mp M.fn) (codeAny_mono (F.run _ X.stack _ _ ⟨Value.ref (s.heap.objs.size+1)::us,[]⟩ (Value.ref (s.heap.objs.size+1)::us) _ _ (EE σ) (hr'.make C us [])
  (I2.env0.make C us []) (by have:=hb' _ I2.kIn;rw [List.append_nil]at this;exact this) r2 hq) fun r s' hq'=>?_))
 cases r with
 | error e=>exact hx pins σ _ _ e s' I2 hq'
 | ok fl=>
  cases fl with
  | ret u=>
   obtain ⟨v,H',I3,rv,ev,q3⟩:=I2.after hq'
   subst ev
   exact ⟨rv,⟨V.ref (s.heap.objs.size+1),H',I3,rfl,q3⟩⟩
  | next=>exact False.elim hq'
  | brk=>exact False.elim hq'
  | cont=>exact False.elim hq'
end
section
variable {σ:St} {H:Hp} {Q:VK} {D:Ends} {K:PySem.W.Frag}
theorem rd_methE{C:Addr}{m:Str}{sp:Sp}{EE:St→XK}{ta:TE}{t:TA}:tMethE C m sp EE ta t σ H Q=ta σ H fun x H1=>∃a dx fs,x= .ref a∧H1 a=some (.ins C dx fs)∧fs.lookup m=none∧t σ H1 fun vs H2=>sp (x::vs) H2 Q (EE σ):=rfl
theorem rd_makeE{C:Addr}{sp:Sp}{EE:St→XK}{t:TA}:tMakeE C sp EE t σ H Q=t σ H fun vs H1=>∀x dx,H1 x=none→H1 dx=none→dx≠x→sp (.ref x::vs) (upd (upd H1 dx (.own x)) x (.ins C dx [])) (fun v H2=>v= .non∧Q (.ref x) H2) (EE σ):=rfl
theorem rd_fld{ta:TE}{f:Str}:tFld K ta f σ H Q=ta σ H fun x H1=>∃a C dx fs v,x= .ref a∧H1 a=some (.ins C dx fs)∧Cls K C∧NoAttr K C f∧fs.lookup f=some v∧Q v H1:=rfl
theorem rd_sfld{ta tv:TE}{f:Str}:sFld K ta tv f D σ H=tv σ H fun y H1=>ta σ H1 fun x H2=>∃a C dx fs,x= .ref a∧H2 a=some (.ins C dx fs)∧Cls K C∧NoAttr K C f∧fs.length < 1000∧D.nx σ (upd H2 a (.ins C dx (putF f y fs))):=rfl
theorem rd_din{ty td:TE}:tDIn ty td σ H Q=ty σ H fun y H1=>td σ H1 fun x H2=>∃a o,x= .ref a∧DGet H2 a y o∧Q (.bl o.isSome) H2:=rfl
theorem rd_dnotin{ty td:TE}:tDNotIn ty td σ H Q=ty σ H fun y H1=>td σ H1 fun x H2=>∃a o,x= .ref a∧DGet H2 a y o∧Q (.bl (!o.isSome)) H2:=rfl
theorem rd_dget{td ty:TE}:tDGet td ty σ H Q=td σ H fun x H1=>ty σ H1 fun y H2=>∃a v,x= .ref a∧DGet H2 a y (some v)∧Q v H2:=rfl
theorem rd_dput{td ty tv:TE}:sDPut td ty tv D σ H=tv σ H fun v H1=>td σ H1 fun x H2=>ty σ H2 fun y H3=>∃a H4,x= .ref a∧DPut H3 a y v H4∧D.nx σ H4:=rfl
theorem rd_gtup{n:Nat}{t:TGs}{v:V}{N:St→Hp→Prop}:gTup K n t v σ H N=∃a xs,v= .ref a∧SqT K H a xs∧xs.length=n∧t xs σ H N:=rfl
end
theorem len_empty:Str.empty.length=0:=rfl
theorem le_app{a b:Str}{n:Nat}(h1:a.length≤n / 2)(h2:b.length≤n / 2):(a++b).length≤n:=by
 rw [len_app];omega
end L2
namespace N1
open PySem L2
noncomputable def letters:List Nat:=List.range' 97 26
noncomputable def figures:List Nat:=List.range' 48 10
theorem let_list:(Str.ofString "abcdefghijklmnopqrstuvwxyz").cps.toList=letters:=by decide+kernel
theorem fig_list:(Str.ofString "0123456789").cps.toList=figures:=by decide+kernel
theorem let_len:(Str.ofString "abcdefghijklmnopqrstuvwxyz").length=26:=by decide+kernel
theorem fig_len:(Str.ofString "0123456789").length=10:=by decide+kernel
theorem both_list:(Str.ofString "abcdefghijklmnopqrstuvwxyz0123456789").cps.toList=letters++figures:=by decide+kernel
theorem both_len:(letters++figures).length=36:=by decide
noncomputable def headIn(l:List Nat)(s:List Nat):Bool:=match l with
 | []=>false
 | c::_=>decide (c∈s)
noncomputable def nameB(l:List Nat):Bool:=decide (1≤l.length) && decide (l.length≤8) && headIn l letters && l.all fun c=>decide (c∈letters++figures)
end N1
namespace N1
open PySem L2
noncomputable def tx(l:List Nat):Str:=⟨l.toArray⟩
theorem T_list{l:List Nat}:(tx l).cps.toList=l:=by simp [tx]
theorem T_eq{z:Str}:tx z.cps.toList=z:=by cases z;simp [tx]
theorem T_inj{a b:List Nat}(h:tx a=tx b):a=b:=by rw [← T_list (l:=a),h,T_list]
theorem T_app{a b:List Nat}:tx a++tx b=tx (a++b):=by
 have h:=app_list (a:=tx a) (b:=tx b)
 rw [T_list,T_list]at h
 rw [← T_eq (z:=tx a++tx b),h]
theorem T_len{l:List Nat}:(tx l).length=l.length:=by rw [← str_len,T_list]
theorem T_one{c:Nat}:(⟨#[c]⟩:Str)=tx [c]:=rfl
inductive AskR where
 | ok (ps:List (List Nat))
 | many
 | noname
theorem both_length:(Str.ofString "abcdefghijklmnopqrstuvwxyz0123456789").length=36:=by decide+kernel
noncomputable def bc(i:Int):Nat:=(letters++figures).getD i.toNat 0
theorem ix_bc(i:Int){k:Int}(h0:0 < k)(h1:k≤36):atI (Str.ofString "abcdefghijklmnopqrstuvwxyz0123456789").cps.toList (i % k)=some (bc (i % k)):=by
 have h2:=Int.emod_lt_of_pos i h0
 have h3:=Int.emod_nonneg i (show k≠0 by omega)
 refine atI_of h3 ?_
 have h4:(i % k).toNat < (letters++figures).length:=by rw [both_len];omega
 unfold bc
 rw [both_list,List.getD_eq_getElem?_getD,List.getElem?_eq_getElem h4]
 rfl
end N1
namespace N1
open L2
noncomputable def sp_cell(K:PySem.W.Frag):Sp:=fun vs H Q _=>∃(a:Addr) (ns:List Int) (k:Int),vs=[.ref a,.int k]∧SqL K H a (ns.map V.int)∧0≤k∧ns.length≤63∧Q (.int (ns.getD k.toNat 0)) H
noncomputable def sp_made:Sp:=fun vs H Q _=>∃(z w:Str),vs=[.str z,.str w]∧z.length≤sizeLine∧∀H',Same H H'→Q (.bl (z.cps.toList.all fun c=>decide (c∈w.cps.toList))) H'
noncomputable def sp_is_name(K:PySem.W.Frag):Sp:=fun vs H Q _=>∃(x:V),vs=[x]∧((∃z:Str,x= .str z∧z.length≤sizeLine∧∀H',Same H H'→Q (.bl (nameB z.cps.toList)) H')∨(Isi K H x "str" false∧Q (.bl false) H))
noncomputable def sp_law(K:PySem.W.Frag):Sp:=fun vs H Q _=>∃(a:Addr) (ns:List Int),vs=[.ref a]∧SqL K H a (ns.map V.int)∧ns.length≤63∧∀H',Q (.bl true) H'
end N1
namespace N1
open L2
inductive StE where
 | noname | twice | nonum | many
noncomputable def nOk:V→Bool
 | .str z=>nameB z.cps.toList
 | _=>false
noncomputable def sOf:V→Str
 | .str z=>z
 | _=>Str.empty
noncomputable def wIn(lo hi:Int):V→Bool
 | .int i=>decide (lo≤i) && decide (i≤hi)
 | _=>false
noncomputable abbrev Rw:=Addr×V×V×V
noncomputable def rowR(ks:List Str)(n c r:V):Option StE:=if nOk n=false then some .noname else if sOf n∈ks then some .twice else if wIn 0 (10 ^ 30) c=false then some .nonum else if wIn 1 1000 r=false then some .nonum else none
noncomputable def stockR(ks:List Str):List Rw→Option StE
 | []=>none
 | t::rs=>match rowR ks t.2.1 t.2.2.1 t.2.2.2 with
  | some e=>some e
  | none=>stockR (ks++[sOf t.2.1]) rs
noncomputable def initR(rs:List Rw):Option StE:=if 60 < rs.length then some .many else stockR [] rs
theorem num_isi{K:PySem.W.Frag}{H:Hp}{v:V}(h:flatV v=true):∃b c,Isi K H v "int" b∧(b=true→Isi K H v "bool" c)∧((b && !c)=true→∃i,v= .int i)∧((b && !c)=false→∀i,v≠ .int i):=by
 cases v with
 | non=>exact ⟨false,false,isi_ni,fun h=>by (cases h),fun h=>by (cases h),fun _ i h=>by cases h⟩
 | bl b=>exact ⟨true,true,isi_bi,fun _=>isi_bb,fun h=>by (cases h),fun _ i h=>by cases h⟩
 | int i=>exact ⟨true,false,isi_ii,fun _=>isi_ib,fun _=>⟨i,rfl⟩,fun h=>by cases h⟩
 | str z=>exact ⟨false,false,isi_si,fun h=>by (cases h),fun h=>by (cases h),fun _ i h=>by cases h⟩
 | _=>cases h
noncomputable def sp_is_whole(K:PySem.W.Frag):Sp:=fun vs H Q _=>∃(x:V) (b c:Bool),vs=[x]∧Isi K H x "int" b∧(b=true→Isi K H x "bool" c)∧Q (.bl (b && !c)) H
noncomputable def SameBut(p:Addr)(H H':Hp):Prop:=∀b o,H b=some o→b≠p→H' b=some o
theorem SameBut.trans{p:Addr}{H H1 H2:Hp}(h1:SameBut p H H1)(h2:SameBut p H1 H2):SameBut p H H2:=fun b o e n=>h2 b o (h1 b o e n) n
theorem SameBut.of{p:Addr}{H H1:Hp}(h:Same H H1):SameBut p H H1:=fun b o e _=>h b o e
theorem sameBut_upd{p:Addr}{H:Hp}{o:HO}:SameBut p H (upd H p o):=fun b u e n=>by rw [upd_ne n];exact e
noncomputable abbrev Th:=Str×Int×Int
noncomputable def flds(d:Addr):List (Str×V):=putF "things" (.ref d) []
structure StockAt(K:PySem.W.Frag)(C:Addr)(H:Hp)(p:Addr)(ts:List Th):Prop where
 ex:∃(dx d:Addr) (kvs:List (Key×V)),H p=some (.ins C dx (flds d))∧H d=some (.dK kvs)∧kvs.map (·.1)=ts.map (fun t=>Sum.inr t.1)∧
  ∀(i:Nat) (t:Th),ts[i]?=some t→∃a,kvs[i]?=some (Sum.inr t.1,.ref a)∧SqT K H a [.int i,.int t.2.1,.int t.2.2]
theorem StockAt.same{K:PySem.W.Frag}{C:Addr}{H H':Hp}{p:Addr}{ts:List Th}(s:Same H H')(h:StockAt K C H p ts):StockAt K C H' p ts:=by
 obtain ⟨dx,d,kvs,h1,h2,h3,h4⟩:=h.ex
 refine ⟨dx,d,kvs,s _ _ h1,s _ _ h2,h3,fun i t e=>?_⟩
 obtain ⟨a,e1,e2⟩:=h4 i t e
 exact ⟨a,e1,s.tup e2⟩
noncomputable def iOf:V→Int
 | .int i=>i
 | _=>0
noncomputable def thOf(t:Rw):Th:=(sOf t.2.1,iOf t.2.2.1,iOf t.2.2.2)
theorem SqT.but{K:PySem.W.Frag}{H H':Hp}{p a C dx:Addr}{fs:List (Str×V)}{xs:List V}(s:SameBut p H H')(hp:H p=some (.ins C dx fs))(h:SqT K H a xs):SqT K H' a xs:=by
 rcases h with (h | ⟨o,h⟩) | h
 · exact .inl (.inl (s _ _ h (ne_of h hp (by intro z;cases z))))
 · exact .inl (.inr ⟨o,s _ _ h (ne_of h hp (by intro z;cases z))⟩)
 · exact .inr h
theorem SqL.but{K:PySem.W.Frag}{H H':Hp}{p a C dx:Addr}{fs:List (Str×V)}{xs:List V}(s:SameBut p H H')(hp:H p=some (.ins C dx fs))(h:SqL K H a xs):SqL K H' a xs:=by
 rcases h with (h | ⟨o,h⟩) | h
 · exact .inl (.inl (s _ _ h (ne_of h hp (by intro z;cases z))))
 · exact .inl (.inr ⟨o,s _ _ h (ne_of h hp (by intro z;cases z))⟩)
 · exact .inr h
theorem key_mem{kvs:List (Key×V)}{ks:List Str}{z:Str}(h:kvs.map (·.1)=ks.map Sum.inr):(valV kvs (Sum.inr z)).isSome=decide (z∈ks):=by
 have e:(Sum.inr z:Key)∈kvs.map (·.1)↔z∈ks:=by
  rw [h,List.mem_map]
  constructor
  · rintro ⟨a,ha,e⟩;injection e with e;subst e;exact ha
  · intro h;exact ⟨z,h,rfl⟩
 cases hv:valV kvs (Sum.inr z:Key) with
 | none=>rw [decide_eq_false fun q=>valV_not hv (e.mpr q)];rfl
 | some v=>rw [decide_eq_true (e.mp (valV_in hv))];rfl
theorem flds_things{d:Addr}:(flds d).lookup ("things":Str)=some (V.ref d):=by
 unfold flds
 rw [lookup_putF,if_pos rfl]
theorem rowR_none{ks:List Str}{n co r:V}(h:rowR ks n co r=none):∃z c q,n= .str z∧co= .int c∧r= .int q∧¬z∈ks∧nameB z.cps.toList=true∧0≤c∧c≤10 ^ 30∧1≤q∧q≤1000:=by
 unfold rowR at h
 split at h
 · cases h
 rename_i h1
 split at h
 · cases h
 rename_i h2
 split at h
 · cases h
 rename_i h3
 split at h
 · cases h
 rename_i h4
 cases n with
 | str z=>
  cases co with
  | int c=>
   cases r with
   | int q=>
    simp only [wIn,Bool.and_eq_false_iff,decide_eq_false_iff_not,not_or,Decidable.not_not]at h3 h4
    exact ⟨z,c,q,rfl,rfl,rfl,h2,by simpa [nOk] using h1,h3.1,h3.2,h4.1,h4.2⟩
   | _=>exact absurd rfl h4
  | _=>exact absurd rfl h3
 | _=>exact absurd rfl h1
theorem stockR_step{ks:List Str}{rs:List Rw}{i:Nat}{t:Rw}(h:rs[i]?=some t):stockR ks (rs.drop i)=match rowR ks t.2.1 t.2.2.1 t.2.2.2 with
 | some e=>some e
 | none=>stockR (ks++[sOf t.2.1]) (rs.drop (i+1)):=by
 have e:rs.drop i=t::rs.drop (i+1):=by
  obtain ⟨hi,rfl⟩:=List.getElem?_eq_some_iff.mp h
  exact List.drop_eq_getElem_cons hi
 rw [e]
 rfl
noncomputable def nmsOf(rs:List Rw):List Str:=rs.map fun t=>sOf t.2.1
structure MidAt(K:PySem.W.Frag)(H:Hp)(d:Addr)(rs:List Rw):Prop where
 ex:∃kvs:List (Key×V),H d=some (.dK kvs)∧kvs.map (·.1)=(nmsOf rs).map Sum.inr∧∀(j:Nat) (t:Rw),rs[j]?=some t→∃a,kvs[j]?=some (Sum.inr (sOf t.2.1),.ref a)∧SqT K H a [.int j,.int (iOf t.2.2.1),.int (iOf t.2.2.2)]
theorem MidAt.snoc{K:PySem.W.Frag}{H:Hp}{d a:Addr}{rs:List Rw}{t:Rw}{kvs:List (Key×V)}{c q:Int}{z:Str}(h1:H d=some (.dK kvs))(h2:kvs.map (·.1)=(nmsOf rs).map Sum.inr)
 (h3:∀(j:Nat) (t:Rw),rs[j]?=some t→∃a,kvs[j]?=some (Sum.inr (sOf t.2.1),.ref a)∧SqT K H a [.int j,.int (iOf t.2.2.1),.int (iOf t.2.2.2)])
 (e1:t.2.1= .str z) (e2:t.2.2.1= .int c) (e3:t.2.2.2= .int q) (nz:¬z∈nmsOf rs) (ha:H a=some (.tup [.int kvs.length,.int c,.int q])):
 MidAt K (upd H d (.dK (putK kvs (Sum.inr z) (.ref a)))) d (rs++[t]):=by
 have hl:kvs.length=rs.length:=by
  have:=congrArg List.length h2
  simpa [nmsOf] using this
 have hv:valV kvs (Sum.inr z:Key)=none:=by
  have:=key_mem (z:=z) h2
  rw [decide_eq_false nz]at this
  cases h:valV kvs (Sum.inr z:Key) with
  | none=>rfl
  | some v=>rw [h]at this;cases this
 have keep2:∀{b:Addr} {xs:List V} {o:List (Key×V)},SqT K H b xs→SqT K (upd H d (.dK o)) b xs:=fun {b xs o} h=>by
  rcases h with (h | ⟨o',h⟩) | h
  · exact .inl (.inl (by rw [upd_ne (ne_of h h1 (by intro z;cases z))];exact h))
  · exact .inl (.inr ⟨_,by rw [upd_ne (ne_of h h1 (by intro z;cases z))];exact h⟩)
  · exact .inr h
 refine ⟨_,upd_same,?_,fun j t' hj=>?_⟩
 · rw [putK_new _ hv,List.map_append,h2]
   simp [nmsOf,e1,sOf]
 · rw [putK_new _ hv]
   by_cases hlt:j < rs.length
   · rw [List.getElem?_append_left hlt]at hj
     obtain ⟨b,e,hb⟩:=h3 j t' hj
     exact ⟨b,by rw [List.getElem?_append_left (by omega)];exact e,keep2 hb⟩
   · rw [List.getElem?_append_right (by omega)]at hj
     have hj0:j - rs.length=0:=by
      have:=(List.getElem?_eq_some_iff.mp hj).1
      simp at this;omega
     rw [hj0]at hj
     cases hj
     have ej:j=rs.length:=by omega
     subst ej
     refine ⟨a,?_,?_⟩
     · rw [← hl,List.getElem?_append_right (by omega)];simp [e1,sOf]
     · rw [e2,e3]
       refine keep2 (SqT.of ?_)
       rw [ha,hl];rfl
end N1
namespace L2
section
variable {X:Cx} {pins:List (Addr×Obj)} {σ:St} {H:Hp} {s:Shared}
theorem pa_consK{c:Const}{j pos}{es:List Expr}{te:TE}{t:TA}(ha:PE X (.Constant c j pos) te)(hr:PA X es t):PA X (.Constant c j pos::es) (tCons te t):=pa_cons ha hr rfl
theorem pa_consB{o j}{a b:Expr}{es:List Expr}{te:TE}{t:TA}(ha:PE X (.BinOp a o b j) te)(hr:PA X es t):PA X (.BinOp a o b j::es) (tCons te t):=pa_cons ha hr rfl
theorem pa_consT{x j}{l es:List Expr}{te:TE}{t:TA}(ha:PE X (.Tuple l x j) te)(hr:PA X es t):PA X (.Tuple l x j::es) (tCons te t):=pa_cons ha hr rfl
end
theorem rd_setL{o i v:V}{H:Hp}{Q:Hp→Prop}:rSetL o i v H Q=∃p xs k j,o= .ref p∧i= .int k∧H p=some (.lst xs)∧ixN xs.length k=some j∧Q (upd H p (.lst (xs.set j v))):=rfl
end L2
namespace N5
open L2 N1
noncomputable def md(j:Nat):Int:=if j=0 then 26 else 36
noncomputable def sgn(F:Nat→Int)(at':Int)(k j:Nat):Nat:=bc ((F j+if (j:Int)=at' then (k:Int) else 0) % md j)
noncomputable def nmL(F:Nat→Int)(at':Int)(long k:Nat):List Nat:=(List.range long).map (sgn F at' k)
theorem bc_let{i:Int}:bc (i % 26)∈letters:=by
 have h1:=Int.emod_nonneg i (show (26:Int)≠0 by decide)
 have h2:=Int.emod_lt_of_pos i (show (0:Int) < 26 by decide)
 unfold bc
 generalize i % 26=x at *
 have h3:x.toNat < letters.length:=by simp [letters];omega
 rw [List.getD_eq_getElem?_getD,List.getElem?_append_left h3,List.getElem?_eq_getElem h3]
 exact List.getElem_mem h3
theorem bc_both{i:Int}:bc (i % 36)∈letters++figures:=by
 have h1:=Int.emod_nonneg i (show (36:Int)≠0 by decide)
 have h2:=Int.emod_lt_of_pos i (show (0:Int) < 36 by decide)
 unfold bc
 generalize i % 36=x at *
 have h3:x.toNat < (letters++figures).length:=by rw [both_len];omega
 rw [List.getD_eq_getElem?_getD,List.getElem?_eq_getElem h3]
 exact List.getElem_mem h3
theorem bc_inj{x y:Int}(hx0:0≤x)(hx:x < 36)(hy0:0≤y)(hy:y < 36)(h:bc x=bc y):x=y:=by
 have key:∀a:Fin 36,∀b:Fin 36,(letters++figures).getD a.val 0=(letters++figures).getD b.val 0→a=b:=by decide+kernel
 have:=key ⟨x.toNat,by omega⟩ ⟨y.toNat,by omega⟩ h
 have:=congrArg Fin.val this
 simp at this
 omega
theorem nmL_name{F:Nat→Int}{at':Int}{long k:Nat}(h1:1≤long)(h2:long≤8):nameB (nmL F at' long k)=true:=by
 obtain ⟨n,rfl⟩:∃n,long=n+1:=⟨long - 1,by omega⟩
 have hall:∀c∈nmL F at' (n+1) k,c∈letters++figures:=by
  intro c hc
  obtain ⟨j,_,rfl⟩:=List.mem_map.mp hc
  have hm:md j=26∨md j=36:=by unfold md;split <;> simp
  unfold sgn
  rcases hm with hm | hm <;> rw [hm]
  · exact List.mem_append_left _ bc_let
  · exact bc_both
 have hl:(nmL F at' (n+1) k).length=n+1:=by simp [nmL]
 have hh:headIn (nmL F at' (n+1) k) letters=true:=by
  unfold nmL
  rw [List.range_succ_eq_map,List.map_cons]
  show decide (sgn F at' k 0∈letters)=true
  rw [decide_eq_true_eq]
  unfold sgn md
  rw [if_pos rfl]
  exact bc_let
 unfold nameB
 rw [hl,hh,decide_eq_true h1,decide_eq_true h2]
 simp only [Bool.true_and]
 exact List.all_eq_true.mpr fun c hc=>decide_eq_true (hall c hc)
structure Good(ys:List Str)(i:Nat)(t:Rw):Prop where
 n:∃z,ys[i]?=some z∧t.2.1= .str z
 c:∃c,t.2.2.1= .int c∧0≤c∧c≤10 ^ 30
 r:∃r,t.2.2.2= .int r∧1≤r∧r≤1000
structure Kind(ys:List Str)(i:Nat)(ways:Int)(t:Rw):Prop where
 n1:ways % 2=1→nOk t.2.1=false
 n2:ways % 2=0→ways / 2 % 2=1∧0 < i→∃j z,j < i∧ys[j]?=some z∧t.2.1= .str z
 n3:ways % 2=0→¬(ways / 2 % 2=1∧0 < i)→∃z,ys[i]?=some z∧t.2.1= .str z
 c1:ways / 4 % 2=1→wIn 0 (10 ^ 30) t.2.2.1=false
 c2:ways / 4 % 2=0→wIn 0 (10 ^ 30) t.2.2.1=true
 r1:ways / 8 % 2=1→wIn 1 1000 t.2.2.2=false
 r2:ways / 8 % 2=0→wIn 1 1000 t.2.2.2=true
theorem ne1:Str.ofString "no name"≠Str.ofString "nothing":=by decide+kernel
theorem SqT.butL{K:PySem.W.Frag}{H H':Hp}{p a:Addr}{zs:List V}{xs:List V}(s:SameBut p H H')(hp:H p=some (.lst zs))(h:SqT K H a xs):SqT K H' a xs:=by
 rcases h with (h | ⟨o,h⟩) | h
 · exact .inl (.inl (s _ _ h (ne_of h hp (by intro z;cases z))))
 · exact .inl (.inr ⟨o,s _ _ h (ne_of h hp (by intro z;cases z))⟩)
 · exact .inr h
theorem same_made{H H':Hp}{x dx C:Addr}(hx:H x=none)(hd:H dx=none)(s:SameBut x (upd (upd H dx (.own x)) x (.ins C dx [])) H'):Same H H':=fun b o e=>by
 have n1:=ne_of_none e hx
 have n2:=ne_of_none e hd
 exact s b o (by rw [upd_ne n1,upd_ne n2];exact e) n1
theorem name_len{z:Str}(h:nameB z.cps.toList=true):z.length≤8:=by
 unfold nameB at h
 simp only [Bool.and_eq_true,decide_eq_true_eq]at h
 have:=h.1.1.2
 rw [str_len]at this;exact this
end N5
namespace L2
open Sem (wp)
section
variable {Pg:Program} {w:World} {A:Around} {E:Value→Shared→Prop} {h:Heap} {g:Array GenState} {d:Drawn} {t:Nat} {os:OsState}
variable {nm q:Str} {C N:Addr} {bs bm bmB:List Value} {hd:Bool} {sn:List Str} {su:List Value} {ab:Bool} {co:Option Bool} {dd:Option Addr} {k0 k1 k2 k3 k5:Option Value} {B nw ni:String}
noncomputable abbrev bareExc(h:Heap)(C:Addr):Obj:={cls:= .ref C,data:= .fields #[.ref h.objs.size,.none,.none,.none,.bool false,.none]}
noncomputable abbrev twoMore(h:Heap)(C:Addr)(rest:List Value):Heap:=(h.push {cls:= .type "tuple",data:= .seq rest.toArray}).push (bareExc h C)
theorem keep2{rest:List Value}:∀b o,h.get? b=some o→(twoMore h C rest).get? b=some o:=fun _ _ e=>Heap.get?_push_of_some _ (Heap.get?_push_of_some _ e)
theorem tcall_initT(F:ExcBaseFacts B nw ni bmB)(T:OwnTail h bmB bm){mN:Str→Option Value}{rest:List Value}{fI:Addr}{oI:Obj}{Q:Fin→Shared→Prop}
 (kC:h.get? C=some (excClassObj nm q C N bs bm hd sn su ab co dd k0 k1 k2 k3 k5 nw)) (hn:h.Ns N mN) (hi:mN "__init__"=some (.ref fI)) (hf:h.get? fI=some oI) (hfc:oI.cls= .type "function")
 (hq:∀h' e,Heap.MadeExcOf h h' e (.ref C) rest→wpAny (model Pg w) A (call (.ref fI) (.ref e::rest)) (fun r s'=>r= .none∧Q (.done (.ret (.ref e))) s') E ⟨h',g,d,t,os⟩) (hz:rest.length≤sizeLine):
 wpAny (model Pg w) A (Builtin.«type.__call__» ⟨.ref C::rest,[]⟩) Q E ⟨h,g,d,t,os⟩:=by
 repeat (first | with_reducible refine wpAny_loadPart_at kC ?_ | with_reducible refine wpAny_madeBy_exc kC ?_ | wp_step)
 refine codeAny_call_builtin_code (Code.quiet_builtin _ F.quiet) (wpAny_check_new_subT F T kC (codeAny_exc_new_subT F T kC ?_ hz))
 show wpAny _ _ _ _ _ _
 have c1:(twoMore h C rest).get? C=some (excClassObj nm q C N bs bm hd sn su ab co dd k0 k1 k2 k3 k5 nw):=keep2 _ _ kC
 have c2:(twoMore h C rest).get? fI=some oI:=keep2 _ _ hf
 have c3:(twoMore h C rest).Ns N mN:=by obtain ⟨o,es,ep,e,r⟩:=hn;exact ⟨o,es,ep,keep2 _ _ e,r⟩
 have c4:(twoMore h C rest).get? (h.objs.size+1)=some (bareExc h C):=by heap_get
 have c5:(Value.ref C::bm).contains (.ref C)=true:=by simp
 have T1:=T.keeps (keep2 (h:=h) (C:=C) (rest:=rest))
 unfold isInstance
 repeat (first | with_reducible refine wpAny_loadPart_at c4 ?_ | (with_reducible refine wpAny_isSubtype_exc c1 ?_;rw [c5]) | wp_step)
 show wpAny _ _ (typeLookup (.ref C) _) _ _ _;refine wpAny_typeLookup_tail c1 c3 T1 F.mroIs F.init.lookup ?_
 rw [hi]
 refine wpAny_holding (wpAny_bind ?_);unfold bindSpecial
 refine wpAny_bind (wpAny_typeOf (T:="function") ⟨_,c2,hfc⟩ ?_)
 rw [if_pos (by decide)]
 have made:Heap.MadeExcOf h (twoMore h C rest) (h.objs.size+1) (.ref C) rest:=⟨keep2,Heap.get?_none_of_le (Nat.le_succ _),h.objs.size,c4,Heap.get?_none_of_le (Nat.le_refl _),Heap.get?_push_of_some _ (Heap.get?_push_at rfl rfl)⟩
 refine wpAny_pure (wpAny_bind (wpAny_mono (hq _ _ made) (fun r s' hr=>?_) fun _ _ x=>x))
 obtain ⟨rfl,hQ⟩:=hr
 wp_walk
 exact hQ
theorem call_initT(F:ExcBaseFacts B nw ni bmB)(T:OwnTail h bmB bm){mN:Str→Option Value}{rest:List Value}{fI:Addr}{oI:Obj}{Q:Value→Shared→Prop}
 (kC:h.get? C=some (excClassObj nm q C N bs bm hd sn su ab co dd k0 k1 k2 k3 k5 nw)) (hn:h.Ns N mN) (hi:mN "__init__"=some (.ref fI)) (hf:h.get? fI=some oI) (hfc:oI.cls= .type "function")
 (hq:∀h' e,Heap.MadeExcOf h h' e (.ref C) rest→wpAny (model Pg w) (A.under (.builtin "type.__call__" ⟨.ref C::rest,[]⟩)) (call (.ref fI) (.ref e::rest)) (fun r s'=>r= .none∧Q (.ref e) s') E ⟨h',g,d,t,os⟩) (hz:rest.length≤sizeLine):
 wpAny (model Pg w) A (call (.ref C) rest) Q E ⟨h,g,d,t,os⟩:=by
 have f1:=tc_lookup
 have f2:=tc_bind (.ref C)
 have f3:(⟨h,g,d,t,os⟩:Shared).TypeIs (.ref C) "type":=⟨_,kC,rfl⟩
 refine wpAny_call (codeAny_of_tree ?_);show wpAny _ _ (callAny (.ref C) _) _ _ _
 repeat (any_goals (first | assumption | with_reducible refine wpAny_loadPart_at kC ?_ | wp_step))
 refine ⟨rfl,codeAny_call_builtin_at (Code.quiet_builtin _ (by decide+kernel)) entry_typeCall (wpAny_check_type_call_sub kC (tcall_initT F T kC hn hi hf hfc (fun h' e hm=>?_) hz))⟩
 exact hq h' e hm
end
section
open PySem.W PySem.Builtin PySem.Builtin.ObjectAttr
variable {Pg:Program} {w:World} {A:Around} {R:Result→Shared→Prop} {s:Shared} {K:Frag} {x C B:Addr} {ox:Obj} {od:Option Obj} {cd:ClassData} {f:Str} {tk:Tok} {v:Value}
noncomputable abbrev veTail:List Value:=[.type "ValueError",.type "Exception",.type "BaseException",.type "object"]
theorem osa_exc(X:K.In s.heap)(I:PySem.W.InstAt s.heap x ox C od)(hc:clsIn K C=some cd)(hm0:cd.mro= .ref C:: .ref B::veTail)(ha:findIn K (.ref C) f=some none)
 (h:∀b,wpAny (model Pg w) A.in1 (storeInOwnDict (.ref x) (.ref C) (.str f tk) f v b) (fun fin s'=>match fin with | .done r=>R (.ok r) s' | .again c'=>c'.quiet=true∧codeAny (model Pg w) A c' R s') (fun e s'=>R (.error e) s') s):
 codeAny (model Pg w) A (.call (.builtin "object.__setattr__") ⟨[.ref x,.str f tk,v],[]⟩) R s:=by
 have F1:=PySem.F.store_object
 have sub:Looks (model Pg w) s.heap (isInstance (.ref x) (.type "object")) true:=I.type.andThen (looks_mroIn X (by unfold mroIn;rw [hc,Option.bind_some,hm0];rfl))
 have lm:Looks (model Pg w) s.heap (mroOf (.ref C)) cd.mro:=(looks_clsIn X hc).andThen .now
 refine codeAny_call_builtin F1.slot.plain F1.entry (@check_slot (model Pg w) _ _ s "object.__setattr__" "object" "__setattr__" (.ref x) [.str f tk,v] [] _ F1.kind F1.split sub (F1.args _ _ _) ?_)
 rw [osa_eq,refuse_eq]
 refine wpAny_bind (wpAny_bind (I.type.here (wpAny_bind (lm.here ?_))))
 rw [hm0,refuseLoop_ref,refuseLoop_ref,PySem.F.store_ValueError.passes]
 exact wpAny_pure (wpAny_bind (I.type.here (wpAny_bind ((looks_findIn X ha).here (wpAny_bind (wpAny_pure (h _)))))))
theorem set_exc0{Q:Unit→Shared→Prop}{E:Value→Shared→Prop}{vs:Array Value}{sl:Array (Option Value)}(X:K.In s.heap)(hx:s.heap.get? x=some ⟨.ref C,none,.fields vs,sl⟩)(hs:findIn K (.ref C) "__setattr__"=some (some (.builtin "object.__setattr__")))
 (hc:clsIn K C=some cd) (hm0:cd.mro= .ref C:: .ref B::veTail) (hd:cd.hasDict=true) (ha:findIn K (.ref C) f=some none)
 (h:∀h',h'.get? x=some ⟨.ref C,some s.heap.objs.size,.fields vs,sl⟩→h'.Ns1 s.heap.objs.size (fun y=>if y=f then some v else none)→(∀b o,b≠x→s.heap.get? b=some o→h'.get? b=some o)→Q () {s with heap:=h',toks:=s.toks+2}):
 wpAny (model Pg w) A (setAttr (.ref x) f v) Q E s:=by
 have J:PySem.W.InstAt s.heap x ⟨.ref C,none,.fields vs,sl⟩ C none:=⟨hx,rfl,rfl,trivial⟩
 refine set_plain X J hs (osa_exc (s:={s with toks:=s.toks+1}) X J hc hm0 ha fun b=>?_)
 refine wpAny_bind (wpAny_pure (wpAny_bind (wpAny_bind (wpAny_loadPart hx (wpAny_bind (Looks.here (s:={s with toks:=s.toks+1}) (looks_clsIn X hc) ?_))))))
 rw [hd]
 have k1:(s.heap.push {cls:= .type "dict",data:= .dict #[]}).get? x=some ⟨.ref C,none,.fields vs,sl⟩:=Heap.get?_push_of_some _ hx
 have nx:x≠s.heap.objs.size:=Nat.ne_of_lt (Heap.lt_size hx)
 refine wpAny_bind (wpAny_alloc' (wpAny_bind (wpAny_update' k1 (wpAny_pure ?_))))
 have k2:((s.heap.push {cls:= .type "dict",data:= .dict #[]}).update x fun o=>{cls:=o.cls,dict:=some s.heap.objs.size,data:=o.data,slots:=o.slots}).get? s.heap.objs.size=some {cls:= .type "dict",data:= .dict #[]}:=
  (Heap.get?_update_ne _ _ _ _ nx.symm).trans (Heap.get?_push_at rfl rfl)
 have k3:((s.heap.push {cls:= .type "dict",data:= .dict #[]}).update x fun o=>{cls:=o.cls,dict:=some s.heap.objs.size,data:=o.data,slots:=o.slots}).Ns s.heap.objs.size (fun _=>none):=
  ⟨_,#[],_,k2,rfl,fun e he=>absurd he (by simp),fun _=>rfl⟩
 show wpAny _ _ (storeInDict s.heap.objs.size (.str f s.toks) f v) _ _ _
 unfold storeInDict newKeyGuard;refine wpAny_bind (wpAny_pure (wpAny_bind (wpAny_nsSet1 (Heap.Ns1.of_empty k3) fun h' hn2 sb=>?_)))
 obtain ⟨oD,esD,epD,uo,ud,uc⟩:=hn2.count (Within.cons f v Within.nil)
 refine wpAny_bind (wpAny_lookBehind uo (by rw [ud];exact pastItsLine_dict (Nat.le_trans uc (by rw [List.length_cons,List.length_nil,sizeLine_eq];omega))) ?_)
 refine wpAny_pure (h h' ?_ ?_ fun b o nb e=>?_)
 · refine (sb.2 x nx).trans (Heap.get?_update_self _ k1 rfl)
 · obtain ⟨o',es,ep,e1,e2,e3,eu,e4⟩:=hn2
   exact ⟨o',es,ep,e1,e2,e3,eu,fun y=>by rw [e4 y]⟩
 · exact (sb.2 b (Nat.ne_of_lt (Heap.lt_size e))).trans ((Heap.get?_update_ne _ _ _ _ nb).trans (Heap.get?_push_of_some _ e))
theorem set_exc1{Q:Unit→Shared→Prop}{E:Value→Shared→Prop}{vs:Array Value}{sl:Array (Option Value)}{dx:Addr}{mA:Str→Option Value}{ns:List Str}(X:K.In s.heap)(hx:s.heap.get? x=some ⟨.ref C,some dx,.fields vs,sl⟩)(hn:s.heap.Ns1 dx mA)(hw:Within mA ns)(hz:ns.length≤sizeLine)
 (hs:findIn K (.ref C) "__setattr__"=some (some (.builtin "object.__setattr__"))) (hc:clsIn K C=some cd) (hm0:cd.mro= .ref C:: .ref B::veTail) (hd:cd.hasDict=true) (ha:findIn K (.ref C) f=some none)
 (h:∀h',h'.Ns1 dx (fun y=>if y=f then some v else mA y)→(∀b,b≠dx→h'.get? b=s.heap.get? b)→Q () {s with heap:=h',toks:=s.toks+2}):
 wpAny (model Pg w) A (setAttr (.ref x) f v) Q E s:=by
 obtain ⟨oo,es,ep,e1,e2⟩:=id hn
 have J:PySem.W.InstAt s.heap x ⟨.ref C,some dx,.fields vs,sl⟩ C (some oo):=⟨hx,rfl,rfl,e1⟩
 refine set_plain X J hs (osa_exc (s:={s with toks:=s.toks+1}) X J hc hm0 ha fun b=>?_)
 refine wpAny_bind (wpAny_pure (wpAny_bind (wpAny_bind (wpAny_loadPart hx (wpAny_bind (Looks.here (s:={s with toks:=s.toks+1}) (looks_clsIn X hc) ?_))))))
 rw [hd]
 refine wpAny_pure (a:=some dx) ?_;show wpAny _ _ (storeInDict dx (.str f s.toks) f v) _ _ _
 unfold storeInDict newKeyGuard;refine wpAny_bind (wpAny_pure (wpAny_bind (wpAny_nsSet1 (s:={s with toks:=s.toks+1}) hn fun h' hn2 sb=>?_)))
 obtain ⟨oD,esD,epD,uo,ud,uc⟩:=hn2.count (Within.cons f v hw)
 refine wpAny_bind (wpAny_lookBehind uo (by rw [ud];exact pastItsLine_dict (Nat.le_trans uc (by rw [List.length_cons];omega))) ?_)
 exact wpAny_pure (h h' hn2 fun b nb=>sb.2 b nb)
theorem get_exc{Q:Value→Shared→Prop}{E:Value→Shared→Prop}{ex:Bool}(X:K.In s.heap)(J:PySem.W.InstAt s.heap x ox C od)(hg:findIn K (.ref C) "__getattribute__"=some (some (.builtin "BaseException.__getattribute__")))
 (hn:findIn K (.ref C) "__getattr__"=some none) (hc:clsIn K C=some cd) (hm0:cd.mro= .ref C:: .ref B::veTail) (hf:findObj K C od f=some (.value v)) (hh:handedIn v=true) (h:Q v {s with toks:=s.toks+1}):
 wpAny (model Pg w) A (getAttr (.ref x) f ex) Q E s:=by
 obtain ⟨hp,g,d,t,os⟩:=s
 have l0:=J.type (M:=model Pg w)
 have l1:=looks_findIn (M:=model Pg w) X hg
 have l2:=looks_findIn (M:=model Pg w) X hn
 have l3:=looks_find (M:=model Pg w) X J hf
 unfold getAttr getAttrBy
 refine wpAny_bind (wpAny_mkText (wpAny_holding (wpAny_bind (l0.at (wpAny_bind (l1.at ?_))))))
 have b1:=PySem.F.excAttr_ValueError.ga.bind (.ref x)
 have b2:(ex && onTheHeap (Value.builtin "BaseException.__getattribute__"))=false:=by cases ex <;> rfl
 have b3:(Value.builtin "BaseException.__getattribute__"==Value.builtin "object.__getattribute__")=false:=by decide+kernel
 have b4:(onTheHeap (Value.ref C) && Value.builtin "BaseException.__getattribute__"==Value.builtin "object.__getattribute__")=false:=by rw [b3];rfl
 have sub:Looks (model Pg w) hp (isInstance (.ref x) (.type "BaseException")) true:=J.type.andThen (looks_mroIn X (by unfold mroIn;rw [hc,Option.bind_some,hm0];rfl))
 show wpAny _ _ (if (onTheHeap (Value.ref C) && Value.builtin "BaseException.__getattribute__"==Value.builtin "object.__getattribute__")=true then _ else _) _ _ _
 rw [if_neg (by rw [b4];decide)]
 unfold getAttrByItsOwn hookBefore
 rw [if_pos (show onTheHeap (Value.ref C)=true from rfl)]
 refine wpAny_bind (l2.at ?_)
 (repeat (any_goals (first | assumption | wp_step)));refine codeAny_call_builtin PySem.F.excAttr_ValueError.ga.plain PySem.F.entry_bexc_ga (@check_slot (model Pg w) _ _ _ "BaseException.__getattribute__" "BaseException" "__getattribute__" (.ref x) [.str f t] [] _ (by decide+kernel) (by decide+kernel) sub (PySem.F.args_bexc_ga _ _) ?_)
 unfold Builtin.«object.__getattribute__»;repeat (any_goals (first | assumption | with_reducible refine l0.at ?_ | with_reducible refine l3.at ?_ | wp_step))
 show wpAny _ _ (handedOut v) _ _ _;rw [handedOut_of hh]
 exact wpAny_pure h
end
noncomputable def exO(n:Bool)(x C:Addr)(od:Option Addr):HO:= .ext fun h=>∃vs sl,h.get? x=some ⟨.ref C,od,.fields vs,sl⟩∧(n=true→∃t,vs=#[.ref t,.none,.none,.none,.bool false,.none])
noncomputable def exD(dx:Addr)(fs:List (Str×V)):HO:= .ext fun h=>fs.length≤1000∧∃mA,h.Ns1 dx mA∧(∀f,RelO (fs.lookup f) (mA f))∧PySem.Within mA (fs.map (·.1))
section
variable {X:Cx} {pins:List (Addr×Obj)} {σ:St} {H:Hp} {x:Addr} {s:Shared} {h':Heap} {o:HO} {t':Nat}
theorem Inv.born(I:Inv X pins σ H s)(hex:X.ex=[])(k:∀b u,s.heap.get? b=some u→h'.get? b=some u)(hn:s.heap.get? x=none)(new:ObjOk X.prog X.w (upd H x o) h' x o):Inv X pins σ (upd H x o) {s with heap:=h',toks:=t'}:=by
 have J:Inv X pins σ H {s with heap:=h',toks:=t'}:=I.kept k
 have hx:H x=none:=by
  cases q:H x with
  | none=>rfl
  | some v=>obtain ⟨o1,e1⟩:=I.hok.there q;rw [hn]at e1;cases e1
 have n0:X.s₀.heap.get? x=none:=by
  cases q:X.s₀.heap.get? x with
  | none=>rfl
  | some v=>obtain ⟨o1,e1⟩:=I.base.there x v q (by rw [hex];simp);rw [hn]at e1;cases e1
 have nl:x≠X.env.locals:=by
  rintro rfl
  obtain ⟨m,⟨o1,es,ep,e,_⟩,_⟩:=I.loc
  rw [hn]at e;cases e
 have nc:∀y c,X.env.cells.lookup y=some c→c≠x:=by
  rintro y c hc rfl
  obtain ⟨v,o1,e,_⟩:=I.cell y c hc
  rw [hn]at e;cases e
 have np:∀p∈X.pn++pins,p.1≠x:=fun p hp z=>by
  have e:=(I.pin p hp).1
  rw [z,hn]at e;cases e
 refine ⟨J.ok,J.os,J.bare,⟨J.base.keep,J.base.slot,fun b o e n hb=>?_,J.base.there,fun b xs e=>?_,fun b o v e=>?_,fun b ps e=>?_⟩,J.loc,J.cell,?_,fun y c hc=>?_,fun p hp=>?_,fun b u e=>?_,J.len⟩
 · rw [upd_ne (by rintro rfl;rw [n0]at e;cases e)];exact J.base.free b o e n hb
 · have e1:=J.base.tups b xs e;rw [upd_ne (ne_of_none e1 hx)];exact e1
 · have e1:=J.base.frzs b o v e;rw [upd_ne (ne_of_none e1 hx)];exact e1
 · obtain ⟨m,e1⟩:=J.base.tbls b ps e;exact ⟨m,by rw [upd_ne (ne_of_none e1 hx)];exact e1⟩
 · rw [upd_ne nl.symm];exact J.free
 · rw [upd_ne (nc y c hc)];exact J.freeC y c hc
 · obtain ⟨a1,a2,a3,a4,a5⟩:=J.pin p hp
   exact ⟨a1,by rw [upd_ne (np p hp)];exact a2,a3,a4,a5⟩
 · by_cases hb:b=x
   · subst hb
     rw [upd_same]at e;cases e
     exact new
   · rw [upd_ne hb]at e
     exact (J.hok b u e).stay (fun _ _ _ q=>q) (fun c q=>by rw [upd_ne (ne_of_none q hx)];exact q) fun c xs q=>by rw [upd_ne (ne_of_none q hx)];exact q
theorem exO_ok{P:Program}{w:World}{n:Bool}{C:Addr}{od:Option Addr}{vs:Array Value}{sl:Array (Option Value)}(e:h'.get? x=some ⟨.ref C,od,.fields vs,sl⟩)(hv:n=true→∃t,vs=#[.ref t,.none,.none,.none,.bool false,.none]):ObjOk P w H h' x (exO n x C od):=
 ⟨⟨vs,sl,e,hv⟩,⟨_,e⟩,fun _ _ ⟨v1,s1,e1,q1⟩ k=>⟨v1,s1,k _ e1,q1⟩⟩
end
noncomputable def tExc(C:Addr)(t:TA):TE:=fun σ H Q=>t σ H fun vs H1=>vs.length≤sizeLine∧∀x,H1 x=none→Q (.ref x) (upd H1 x (exO true x C none))
section
variable {X:Cx} {C:Addr} {x:Str} {p pos:Pos} {e:Expr} {es:List Expr} {t:TA}
theorem pe_exc(M:ExcC X.K C)(hex:X.ex=[])(kp:PySem.W.keepIn X.K (.ref C)=true)(hg:Gl X x)(hm:X.mg x=some (.ref C))(ha:PA X (e::es) t)(hdb:(x==("__debug__":Str))=false:=by decide)
 (he:starEach (e::es) X.env=(false,eval e X.env)::starEach es X.env:=by rfl) (hpl:(backTo pos (starEach es X.env)).any (·.1)=false:=by rfl):
 PE X (.Call (.Name x p) (e::es) [] pos) (tExc C t):=by
 intro pins s0 σ H0 Q I0 h
 refine wpAny_Call_Name_kw (ld_glob I0 hg hm ?_ hdb)
 refine PySem.W.callWith_K (h₀:=X.base) I0.ok.mod.kin kp (thn (ha pos pins s0 σ H0 _ I0 h) fun us s ⟨vs,H,I,r,z,q⟩=>⟨I.kIn,?_⟩) he hpl
 obtain ⟨nm,qn,N,bs,bm,hd,sn,su,ab,co,dd,k0,k1,k2,k3,k5,mN,c1,c2,c3,c4⟩:=M.at_ s.heap I.kIn
 obtain ⟨hp,gn,dr,tk,os⟩:=s
 refine wpAny_call_exc_subT PySem.F.excBase_ValueError c4 c1 c2 c3 (fun h' y hy=>?_) (by show us.length≤sizeLine;rw [← r.length];exact z)
 obtain ⟨t0,e1,_,_⟩:=hy.there
 have nv:true=true→∃t,(#[.ref t0,.none,.none,.none,.bool false,.none]:Array Value)=#[.ref t,.none,.none,.none,.bool false,.none]:=fun _=>⟨t0,rfl⟩
 have hy0:H y=none:=by
  cases w':H y with
  | none=>rfl
  | some v=>obtain ⟨o1,e2⟩:=I.hok.there w';rw [hy.new]at e2;cases e2
 exact ⟨.ref y,_,I.born hex hy.keeps hy.new (exO_ok e1 nv),rfl,q y hy0⟩
end
structure ExcG(K:PySem.W.Frag)(C:Addr):Prop where
 ga:PySem.W.findIn K (.ref C) "__getattribute__"=some (some (.builtin "BaseException.__getattribute__"))
 gh:PySem.W.findIn K (.ref C) "__getattr__"=some none
structure ExcQ(K:PySem.W.Frag)(C B:Addr):Prop extends ExcG K C where
 cd:∃cd:ClassData,PySem.W.clsIn K C=some cd∧cd.mro= .ref C:: .ref B::veTail∧cd.hasDict=true
 sa:PySem.W.findIn K (.ref C) "__setattr__"=some (some (.builtin "object.__setattr__"))
section
variable {X:Cx} {pins:List (Addr×Obj)} {σ:St} {H:Hp} {s:Shared} {nw:Bool} {a dx C B:Addr} {fs:List (Str×V)} {f:Str} {v:V} {A:Around} {E:Value→Shared→Prop}
theorem ExcQ.hd{K:PySem.W.Frag}(q:ExcQ K C B):PySem.W.hasDictIn K C=true:=by
 obtain ⟨cd,c1,_,c3⟩:=q.cd
 unfold PySem.W.hasDictIn
 rw [c1];exact c3
theorem getx_ok{ex:Bool}{Q:Value→Shared→Prop}(I:Inv X pins σ H s)(q:ExcQ X.K C B)(hx:H a=some (exO nw a C (some dx)))(hd:H dx=some (exD dx fs))(n:PySem.W.findIn X.K (.ref C) f=some none)(l:fs.lookup f=some v)
 (h:∀u s',Inv X pins σ H s'→RelV v u→Q u s'):wpAny (model X.prog X.w) A (getAttr (.ref a) f ex) Q E s:=by
 obtain ⟨vs,sl,e1,nv⟩:=(I.hok a _ hx).1
 obtain ⟨_,mA,hn,r,wi⟩:=(I.hok dx _ hd).1
 obtain ⟨od,ho,hlk⟩:=lookIn_ns hn
 obtain ⟨u,hu,ru⟩:=RelO.some_of (v:=v) (o:=mA f) (by rw [← l];exact r f)
 obtain ⟨cd,c1,c2,c3⟩:=q.cd
 exact get_exc I.kIn ⟨e1,rfl,rfl,ho⟩ q.ga q.gh c1 c2 (PySem.W.findObj_own q.hd n rfl (by rw [hlk,hu])) (handed_of ru) (h u _ (I.tok _) ru)
end
section
variable {X:Cx} {pins:List (Addr×Obj)} {σ:St} {H H1:Hp} {s s1:Shared} {x:Addr} {o:HO}
theorem Inv.track(I:Inv X pins σ H1 s1)(hex:X.ex=[])(hn:s1.heap.get? x=none)(J:Inv X pins σ H s)(hx:H x=none)(new:ObjOk X.prog X.w (upd H x o) s.heap x o):Inv X pins σ (upd H x o) s:=by
 have n0:X.s₀.heap.get? x=none:=by
  cases q:X.s₀.heap.get? x with
  | none=>rfl
  | some v=>obtain ⟨o1,e1⟩:=I.base.there x v q (by rw [hex];simp);rw [hn]at e1;cases e1
 have nl:x≠X.env.locals:=by
  rintro rfl
  obtain ⟨m,⟨o1,es,ep,e,_⟩,_⟩:=I.loc
  rw [hn]at e;cases e
 have nc:∀y c,X.env.cells.lookup y=some c→c≠x:=by
  rintro y c hc rfl
  obtain ⟨v,o1,e,_⟩:=I.cell y c hc
  rw [hn]at e;cases e
 have np:∀p∈X.pn++pins,p.1≠x:=fun p hp z=>by
  have e:=(I.pin p hp).1
  rw [z,hn]at e;cases e
 refine ⟨J.ok,J.os,J.bare,⟨J.base.keep,J.base.slot,fun b o e n hb=>?_,J.base.there,fun b xs e=>?_,fun b o v e=>?_,fun b ps e=>?_⟩,J.loc,J.cell,?_,fun y c hc=>?_,fun p hp=>?_,fun b u e=>?_,J.len⟩
 · rw [upd_ne (by rintro rfl;rw [n0]at e;cases e)];exact J.base.free b o e n hb
 · have e1:=J.base.tups b xs e;rw [upd_ne (ne_of_none e1 hx)];exact e1
 · have e1:=J.base.frzs b o v e;rw [upd_ne (ne_of_none e1 hx)];exact e1
 · obtain ⟨m,e1⟩:=J.base.tbls b ps e;exact ⟨m,by rw [upd_ne (ne_of_none e1 hx)];exact e1⟩
 · rw [upd_ne nl.symm];exact J.free
 · rw [upd_ne (nc y c hc)];exact J.freeC y c hc
 · obtain ⟨a1,a2,a3,a4,a5⟩:=J.pin p hp
   exact ⟨a1,by rw [upd_ne (np p hp)];exact a2,a3,a4,a5⟩
 · by_cases hb:b=x
   · subst hb
     rw [upd_same]at e;cases e
     exact new
   · rw [upd_ne hb]at e
     exact (J.hok b u e).stay (fun _ _ _ q=>q) (fun c q=>by rw [upd_ne (ne_of_none q hx)];exact q) fun c xs q=>by rw [upd_ne (ne_of_none q hx)];exact q
theorem put_names{fs:List (Str×V)}{mA:Str→Option Value}{f:Str}{y:V}{u:Value}(r:∀g,RelO (fs.lookup g) (mA g))(wi:PySem.Within mA (fs.map (·.1)))(ry:RelV y u):
 (∀g,RelO ((putF f y fs).lookup g) (if g=f then some u else mA g))∧PySem.Within (fun g=>if g=f then some u else mA g) ((putF f y fs).map (·.1)):=by
 refine ⟨fun g=>?_,fun g hg=>?_⟩
 · rw [lookup_putF]
   by_cases e:g=f
   · rw [if_pos e,if_pos e];exact ry
   · rw [if_neg e,if_neg e];exact r g
 · by_cases e:g=f
   · subst e;exact (keys_putF g y fs).1
   · exact (keys_putF f y fs).2 g (wi g fun z=>hg (by show (if g=f then some u else mA g)=none;rw [if_neg e,z]))
theorem exD_ok{P:Program}{w:World}{h':Heap}{dx:Addr}{fs:List (Str×V)}{mA:Str→Option Value}(hl:fs.length≤1000)(hn:h'.Ns1 dx mA)(r:∀g,RelO (fs.lookup g) (mA g))(wi:PySem.Within mA (fs.map (·.1))):ObjOk P w H h' dx (exD dx fs):=by
 refine ⟨⟨hl,mA,hn,r,wi⟩,?_,fun h1 h2 ⟨b1,mB,b2,b3,b4⟩ k=>?_⟩
 · obtain ⟨o1,es,ep,e2,_⟩:=id hn;exact ⟨o1,e2⟩
 · obtain ⟨o1,es,ep,e2,e3⟩:=id b2
   exact ⟨b1,mB,⟨o1,es,ep,k _ e2,e3⟩,b3,b4⟩
theorem setx_ok0{nw:Bool}{a C B:Addr}{f:Str}{y:V}{u:Value}{A:Around}{E:Value→Shared→Prop}{Q:Unit→Shared→Prop}(I:Inv X pins σ H s)(hex:X.ex=[])(q:ExcQ X.K C B)(hx:H a=some (exO nw a C none))(n:PySem.W.findIn X.K (.ref C) f=some none)(ry:RelV y u)
 (h:∀dx s',H dx=none→Inv X pins σ (upd (upd H a (exO nw a C (some dx))) dx (exD dx (putF f y []))) s'→Q () s'):wpAny (model X.prog X.w) A (setAttr (.ref a) f u) Q E s:=by
 obtain ⟨vs,sl,e1,nv⟩:=(I.hok a _ hx).1
 obtain ⟨cd,c1,c2,c3⟩:=q.cd
 refine set_exc0 I.kIn e1 q.sa c1 c2 c3 n fun h' k1 k2 k3=>?_
 have hd0:H s.heap.objs.size=none:=I.hok.fresh (Nat.le_refl _)
 have nda:s.heap.objs.size≠a:=fun e=>by rw [e,hx]at hd0;cases hd0
 have J:Inv X pins σ (upd H a (exO nw a C (some s.heap.objs.size))) {s with heap:=h',toks:=s.toks+2}:=
  I.write (x:=a) (e:=a) (by rw [hx];exact True.intro) (.inl rfl) k3 ⟨_,k1⟩ (exO_ok k1 nv)
 refine h _ _ hd0 (Inv.track I hex (Heap.get?_none_of_le (Nat.le_refl _)) J (by rw [upd_ne nda];exact hd0) ?_)
 have pn:=put_names (fs:=[]) (mA:=fun _=>none) (f:=f) (fun _=>trivial) (fun g hg=>absurd rfl hg) ry
 exact exD_ok (by simp [putF]) k2 pn.1 pn.2
theorem setx_ok1{nw:Bool}{a dx C B:Addr}{fs:List (Str×V)}{f:Str}{y:V}{u:Value}{A:Around}{E:Value→Shared→Prop}{Q:Unit→Shared→Prop}(I:Inv X pins σ H s)(q:ExcQ X.K C B)(hx:H a=some (exO nw a C (some dx)))(hd:H dx=some (exD dx fs))(hl:fs.length < 1000)(n:PySem.W.findIn X.K (.ref C) f=some none)(ry:RelV y u)
 (h:∀s',Inv X pins σ (upd H dx (exD dx (putF f y fs))) s'→Q () s'):wpAny (model X.prog X.w) A (setAttr (.ref a) f u) Q E s:=by
 obtain ⟨vs,sl,e1,nv⟩:=(I.hok a _ hx).1
 obtain ⟨_,mA,hn,r,wi⟩:=(I.hok dx _ hd).1
 obtain ⟨cd,c1,c2,c3⟩:=q.cd
 refine set_exc1 I.kIn e1 hn wi (by rw [List.length_map,sizeLine_eq];omega) q.sa c1 c2 c3 n fun h' k1 k2=>h _ ?_
 have pn:=put_names (f:=f) r wi ry
 have:=length_putF f y fs
 obtain ⟨o1,es,ep,e2,_⟩:=id k1
 exact I.write (x:=dx) (e:=dx) (by rw [hd];exact True.intro) (.inl rfl) (fun b v nb z=>(k2 b nb).trans z) ⟨_,e2⟩ (exD_ok (by omega) k1 pn.1 pn.2)
end
noncomputable def tFldX(K:PySem.W.Frag)(ta:TE)(f:Str):TE:=fun σ H Q=>ta σ H fun x H1=>∃nw a C B dx fs v,x= .ref a∧H1 a=some (exO nw a C (some dx))∧H1 dx=some (exD dx fs)∧ExcQ K C B∧PySem.W.findIn K (.ref C) f=some none∧fs.lookup f=some v∧Q v H1
noncomputable def sFldX(K:PySem.W.Frag)(ta tv:TE)(f:Str):TS:=fun D σ H=>tv σ H fun y H1=>ta σ H1 fun x H2=>∃nw a C B,x= .ref a∧ExcQ K C B∧PySem.W.findIn K (.ref C) f=some none∧
 ((H2 a=some (exO nw a C none)∧∀dx,H2 dx=none→D.nx σ (upd (upd H2 a (exO nw a C (some dx))) dx (exD dx (putF f y []))))∨
  ∃dx fs,H2 a=some (exO nw a C (some dx))∧H2 dx=some (exD dx fs)∧fs.length < 1000∧D.nx σ (upd H2 dx (exD dx (putF f y fs))))
noncomputable def tMethX(C:Addr)(m:Str)(sp:Sp)(EE:St→XK)(ta:TE):TE:=fun σ H Q=>ta σ H fun x H1=>∃nw a,x= .ref a∧(H1 a=some (exO nw a C none)∨∃dx fs,H1 a=some (exO nw a C (some dx))∧H1 dx=some (exD dx fs)∧fs.lookup m=none)∧sp [x] H1 Q (EE σ)
section
variable {X:Cx} {CX:CXT} {k j:Nat} {C B:Addr} {ps:List Str} {sp:Sp} {EE:St→XK} {f m:Str} {pos pos' apos:Pos} {e o value:Expr} {ta tv:TE}
theorem pe_fldX(he:PE X e ta)(hb:attributeBase e f X.env (eval e X.env)=eval e X.env):PE X (.Attribute e f pos) (tFldX X.K ta f):=by
 intro pins s σ H Q I h
 refine attr_of hb (thn (he pins s σ H _ I h) fun u s1 ⟨x,H1,I1,rx,nw,a,C,B,dx,fs,v,ex,ea,ed,q,n,l,z⟩=>?_)
 subst ex
 cases (show u=Value.ref a from rx)
 exact getx_ok I1 q ea ed n l fun u' s2 I2 ru=>⟨v,H1,I2,ru,z⟩
theorem ps_fldX(hex:X.ex=[])(ha:PE X o ta)(hv:PE X value tv)(hs:swapsWith value (some (.Attribute o f pos')) pos.line X.env=pure false):PS X (.Assign [.Attribute o f pos'] value pos) (sFldX X.K ta tv f):=by
 intro pins s σ H D I h
 refine plainObj_wpAny_Assign_Attribute (thn (hv pins s σ H _ I h) fun u s1 ⟨y,H1,I1,ry,q⟩=>thn (ha pins s1 σ H1 _ I1 q) fun ov s2 ⟨x,H2,I2,rx,nw,a,C,B,ex,c,n,z⟩=>?_) hs
 subst ex
 cases (show ov=Value.ref a from rx)
 rcases z with ⟨ea,z⟩ | ⟨dx,fs,ea,ed,l,z⟩
 · exact setx_ok0 I2 hex c ea n ry fun dx s3 hd I3=>⟨σ,_,I3,z dx hd⟩
 · exact setx_ok1 I2 c ea ed l n ry fun s3 I3=>⟨σ,_,I3,z⟩
end
structure MkX(K:PySem.W.Frag)(C f:Addr):Prop where
 at_:∀h:Heap,K.In h→∃(nm q:Str) (N:Addr) (bs bm:List Value) (hd:Bool) (sn:List Str) (su:List Value) (ab:Bool) (co:Option Bool) (dd:Option Addr) (k0 k1 k2 k3 k5:Option Value) (mN:Str→Option Value),
  h.get? C=some (excClassObj nm q C N bs bm hd sn su ab co dd k0 k1 k2 k3 k5 "ValueError.__new__")∧h.Ns N mN∧mN "__init__"=some (.ref f)∧OwnTail h veTail bm
 fn:∃oI:Obj,K.lookup f=some oI∧oI.cls= .type "function"
 kp:PySem.W.keepIn K (.ref C)=true
structure DefX(P:Program)(w:World)(K:PySem.W.Frag)(mg:Str→Option Value)(base:Heap)(CX:CXT)(k:Nat)(x:Str)(C:Addr)(ps:List Str)(sp:Sp):Prop where
 ex:∃(f:Addr) (fd:FuncData),FnOk P w K mg base CX k f fd ps sp∧MkX K C f∧mg x=some (.ref C)∧Binds K fd ps []
noncomputable def tExcI(C:Addr)(sp:Sp)(EE:St→XK)(t:TA):TE:=fun σ H Q=>t σ H fun vs H1=>vs.length≤sizeLine∧∀x,H1 x=none→sp (.ref x::vs) (upd H1 x (exO true x C none)) (fun v H2=>v= .non∧Q (.ref x) H2) (EE σ)
section
variable {X:Cx} {CX:CXT} {k j:Nat} {C:Addr} {ps:List Str} {sp:Sp} {EE:St→XK} {x:Str} {p pos:Pos} {e:Expr} {es:List Expr} {t:TA}
theorem pe_excI(D:DefX X.prog X.w X.K X.mg X.base CX j x C ps sp)(hex:X.ex=[])(hr:Room k X.A)(hg:Gl X x)(hx:PassesS CX X EE)(ha:PA X (e::es) t)(hj:j+1≤k:=by decide)(hdb:(x==("__debug__":Str))=false:=by decide)
 (he:starEach (e::es) X.env=(false,eval e X.env)::starEach es X.env:=by rfl) (hpl:(backTo pos (starEach es X.env)).any (·.1)=false:=by rfl):
 PE X (.Call (.Name x p) (e::es) [] pos) (tExcI C sp EE t):=by
 obtain ⟨f,fd,F,M,hm,hb⟩:=D.ex
 intro pins s0 σ H0 Q I0 h
 refine wpAny_Call_Name_kw (ld_glob I0 hg hm ?_ hdb)
 refine PySem.W.callWith_K (h₀:=X.base) I0.ok.mod.kin M.kp (thn (ha pos pins s0 σ H0 _ I0 h) fun us s ⟨vs,H,I,r,z,q⟩=>⟨I.kIn,?_⟩) he hpl
 obtain ⟨nm,qn,N,bs,bm,hd,sn,su,ab,co,dd,k0,k1,k2,k3,k5,mN,c1,c2,c3,c4⟩:=M.at_ s.heap I.kIn
 obtain ⟨oI,f1,f2⟩:=M.fn
 have f3:=I.kIn _ _ f1
 obtain ⟨hp,gn,dr,tk,os⟩:=s
 refine call_initT PySem.F.excBase_ValueError c4 c1 c2 c3 f3 f2 (fun h' y hy=>?_) (by show us.length≤sizeLine;rw [← r.length];exact z)
 obtain ⟨t0,e1,_,_⟩:=hy.there
 have nv:true=true→∃t,(#[.ref t0,.none,.none,.none,.bool false,.none]:Array Value)=#[.ref t,.none,.none,.none,.bool false,.none]:=fun _=>⟨t0,rfl⟩
 have hy0:H y=none:=by
  cases w':H y with
  | none=>rfl
  | some v=>obtain ⟨o1,e2⟩:=I.hok.there w';rw [hy.new]at e2;cases e2
 have hq:=q y hy0
 have I2:Inv X pins σ (upd H y (exO true y C none)) ⟨h',gn,dr,tk,os⟩:=I.born hex hy.keeps hy.new (exO_ok e1 nv)
 have r2:Vals (V.ref y::vs) (Value.ref y::us):= .cons rfl r
 have hl:(Value.ref y::us).length=ps.length:=by rw [← r2.length];exact F.len _ _ _ _ hq
 have hb':=hb ⟨h',gn,dr,tk,os⟩ (Value.ref y::us) I2.kIn (by simpa using hl)
 rw [List.append_nil]at hb'
 have hr':Room (j+1) X.A:=hr.mono hj
 refine wpAny_call (codeAny_mono (F.run _ X.stack _ _ ⟨Value.ref y::us,[]⟩ (Value.ref y::us) _ _ (EE σ) (hr'.make C us []) (I2.env0.make C us []) hb' r2 hq) fun r3 s' hq'=>?_)
 cases r3 with
 | error e=>exact hx pins σ _ _ e s' I2 hq'
 | ok fl=>
  cases fl with
  | ret u=>
   obtain ⟨v,H',I3,rv,ev,q3⟩:=I2.after hq'
   subst ev
   exact ⟨rv,⟨V.ref y,H',I3,rfl,q3⟩⟩
  | next=>exact False.elim hq'
  | brk=>exact False.elim hq'
  | cont=>exact False.elim hq'
end
end L2
namespace L2
open Sem (wp)
noncomputable def Lies(h:Heap)(x C:Addr)(od:Option Addr):Prop:=∃vs sl,h.get? x=some ⟨.ref C,od,.fields vs,sl⟩
section
variable {M:Model} {A:Around} {E:Value→Shared→Prop} {s:Shared} {base:Heap} {env:Env} {outer l:List Env} {L x C:Addr} {od:Option Addr} {vs:Array Value} {sl:Array (Option Value)} {a0 fl:Value} {Q:Unit→Shared→Prop}
theorem entry2{g1:Heap}{oT:Obj}{ts:Array Value}(tT:oT.data= .fields ts)(t3:ts[3]?=some fl)(ff:s.heap.FunFrames base l)(ex:s.heap.get? x=some ⟨.ref C,od,.fields vs,sl⟩)
 (s1:Heap.SlotsOnly (l.filterMap (·.frame)) s.heap g1) (y1:g1.get? x=some ⟨.ref C,od,.fields vs,sl⟩) (b1:base.StaysIn g1) (bx:base.get? x=none) (z1:1 < vs.size) (z0:vs[0]?=some a0)
 (q:∀h',Heap.NotedW base l x (.ref C) a0 fl s.heap h'→Lies h' x C od→Q () {s with heap:=h'}):
 wpAny M A (setField (.ref x) 1 (.ref g1.objs.size)) Q E {s with heap:=g1.push oT}:=by
 have y2:=Heap.get?_push_of_some oT y1
 have nT:g1.objs.size≠x:=Nat.ne_of_gt (Heap.lt_size y1)
 have y3:((g1.push oT).update x (Obj.mapFields (·.setIfInBounds 1 (.ref g1.objs.size)))).get? x=some ⟨.ref C,od,.fields (vs.setIfInBounds 1 (.ref g1.objs.size)),sl⟩:=Heap.get?_update_self _ y2 rfl
 have kp:∀b o,b≠x→g1.get? b=some o→((g1.push oT).update x (Obj.mapFields (·.setIfInBounds 1 (.ref g1.objs.size)))).get? b=some o:=fun b o nb e=>(Heap.get?_update_other _ _ (Ne.symm nb)).trans (Heap.get?_push_of_some _ e)
 have nr:∀b o,s.heap.get? b=some o→(∀us,o.data≠ .fields us)→b≠x:=fun b o e n z=>by rw [z,ex]at e;cases e;exact n vs rfl
 refine wpAny_setField y2 rfl z1 (q _ ⟨fun b o e=>kp b o (fun z=>by rw [z,bx]at e;cases e) (b1 b o e),ff.of_keeps fun b o e n=>?_,?_,fun b o e n=>?_⟩ ⟨_,_,y3⟩)
 · obtain ⟨r,e1⟩:=s1.2.2 b o e;exact ⟨_,kp b _ (nr b o e n) e1,rfl⟩
 · exact ⟨_,_,g1.objs.size,oT,ts,y3,⟨rfl,by rw [Array.getElem?_setIfInBounds_ne (by decide)];exact z0⟩,rfl,by simp [z1],b1.fresh,nT,(Heap.get?_update_other _ _ (Ne.symm nT)).trans (Heap.get?_push_size g1 (Obj.isFreed_of_fields tT)),tT,t3⟩
 · obtain ⟨r,e1⟩:=s1.2.2 b o e;exact ⟨r,kp b _ (nr b o e n) e1⟩
theorem entryD{hv:Value}{nx:Bool}(fr:A.frames=some (env::outer))(ff:s.heap.FunFrames base (env::outer))(el:env.frame=some L)
 (ex:s.heap.get? x=some ⟨.ref C,od,.fields vs,sl⟩) (bs:base.StaysIn s.heap) (bx:base.get? x=none) (z1:1 < vs.size) (z0:vs[0]?=some a0)
 (q:∀h',Heap.NotedW base (env::outer) x (.ref C) a0 (rawInt L) s.heap h'→Lies h' x C od→Q () {s with heap:=h'}):
 wpAny M A (do let a ← frameOf env;let pl ← entryPlaceOf L nx;let b ← EntryCells.newEntry hv a .none (rawInt L) .none pl;setField (.ref x) 1 b) Q E s:=by
 have nf:x∉(env::outer).filterMap (·.frame):=fun hm=>by
  obtain ⟨_,o1,e1,n1⟩:=ff.mem hm
  rw [ex]at e1;cases e1;exact n1 vs rfl
 refine wpAny_bind (wpAny_frameOf_fun fr ff el fun g1 s1=>wpAny_bind (wpAny_entryPlaceOf fun pl ip=>?_))
 unfold EntryCells.newEntry newFields
 refine wpAny_bind (wpAny_newObj_type ?_ (ip.sizeOk5 _ _ _ _ _))
 have y1:=(s1.2.1 x nf).trans ex
 have b1:base.StaysIn g1:=fun b o e=>(s1.2.1 b fun hm=>by rw [(ff.mem hm).1]at e;cases e).trans (bs b o e)
 refine entry2 (s:=s) (fl:=rawInt L) rfl ?_ ff ex s1 y1 b1 bx z1 z0 q
 first | (simp;done) | (rcases ip with rfl | ⟨_,_,_,_,_,_,_,rfl⟩ <;> simp)
theorem landD(bs:base.StaysIn s.heap)(ff:s.heap.FunFrames base l)(tr:s.heap.TracedAtW base x (.ref C) a0 fl)(ly:Lies s.heap x C od)
 (q:∀h',base.StaysIn h'→h'.FunFrames base l→h'.TracedW base x (.ref C) a0→s.heap.UpToSlots h'→Lies h' x C od→Q () {s with heap:=h'}):wpAny M A (setFlight (.ref x) none) Q E s:=by
 obtain ⟨oe,ws,T,oT,ts,e1,c1,d1,d2,n1,n2,e3,d3,t3⟩:=tr
 obtain ⟨v2,s2,l1⟩:=ly
 have z3:3 < ts.size:=(Array.getElem?_eq_some_iff.mp t3).1
 unfold setFlight
 refine wpAny_bind (wpAny_field e1 d1 d2 ?_)
 rw [if_pos (show (Value.ref T !=Value.none)=true from by simp)]
 have oth:∀b,b≠T→(s.heap.update T (Obj.mapFields (·.setIfInBounds 3 ((none:Option Addr).elim Value.none fun f=>rawInt f)))).get? b=s.heap.get? b:=fun b nb=>Heap.get?_update_other _ _ (Ne.symm nb)
 have nr:∀b o,s.heap.get? b=some o→(∀us,o.data≠ .fields us)→b≠T:=fun b o e n z=>by rw [z,e3]at e;cases e;exact n ts d3
 refine wpAny_setField e3 d3 z3 (q _ (fun b o e=>(oth b fun z=>by rw [z,n1]at e;cases e).trans (bs b o e)) (ff.of_keeps fun b o e n=>⟨o,(oth b (nr b o e n)).trans e,rfl⟩) ?_ (fun b o e n=>⟨o.slots,(oth b (nr b o e n)).trans e⟩) ⟨v2,s2,(oth x (Ne.symm n2)).trans l1⟩)
 exact ⟨oe,ws,T,_,_,(oth x (Ne.symm n2)).trans e1,c1,d1,d2,n1,n2,Heap.get?_update_self _ e3 (Obj.isFreed_of_fields (Obj.data_mapFields d3 _)),Obj.data_mapFields d3 _,by simp [z3]⟩
theorem noteD(fr:A.frames=some (env::outer))(ff:s.heap.FunFrames base (env::outer))(el:env.frame=some L)(tr:s.heap.TracedW base x (.ref C) a0)(bs:base.StaysIn s.heap)(bx:base.get? x=none)(ly:Lies s.heap x C od)
 (q:∀h',Heap.NotedW base (env::outer) x (.ref C) a0 (rawInt L) s.heap h'→Lies h' x C od→Q () {s with heap:=h'}):wpAny M A (noteFrame (.ref x) env) Q E s:=by
 obtain ⟨oe,ws,T,oT,ts,e1,⟨c1,c2⟩,d1,d2,n1,n2,e3,d3,t3⟩:=tr
 obtain ⟨v2,s2,l1⟩:=ly
 rw [l1]at e1;cases e1;cases d1
 unfold noteFrame
 simp only [el]
 refine wpAny_bind (wpAny_field l1 rfl d2 ?_)
 rw [if_pos (show (Value.ref T !=Value.none)=true from by simp)]
 refine wpAny_bind (wpAny_field e3 d3 t3 ?_)
 rw [if_neg (show ¬((Value.none==rawInt L)=true) from by simp [rawInt])]
 refine wpAny_bind (wpAny_setField e3 d3 (Array.getElem?_eq_some_iff.mp t3).1 ?_)
 have oth:∀b,b≠T→(s.heap.update T (Obj.mapFields (·.setIfInBounds 3 Value.none))).get? b=s.heap.get? b:=fun b nb=>Heap.get?_update_other _ _ (Ne.symm nb)
 have nr:∀b o,s.heap.get? b=some o→(∀us,o.data≠ .fields us)→b≠T:=fun b o e n z=>by rw [z,e3]at e;cases e;exact n ts d3
 refine entryD fr (ff.of_keeps fun b o e n=>⟨o,(oth b (nr b o e n)).trans e,rfl⟩) el ((oth x (Ne.symm n2)).trans l1) (fun b o e=>(oth b fun z=>by rw [z,n1]at e;cases e).trans (bs b o e)) bx (Array.getElem?_eq_some_iff.mp d2).1 c2 fun h' N ly'=>q h' ⟨N.1,N.2.1,N.2.2.1,fun b o e n=>N.2.2.2 b o ((oth b (nr b o e n)).trans e) n⟩ ly'
noncomputable def FlyD(base:Heap)(l:List Env)(x C:Addr)(od:Option Addr)(a0:Value)(h:Heap):Prop:=Heap.FlyingW base l x (.ref C) a0 h∧Lies h x C od
theorem leavesD(fr:A.frames=some (env::outer))(el:env.frame=some L)(f:FlyD base (env::outer) x C od a0 s.heap)(q:∀h',FlyD base outer x C od a0 h'→s.heap.UpToSlots h'→Q () {s with heap:=h'}):wpAny M A (leaving env (.ref x)) Q E s:=by
 obtain ⟨⟨f1,f2,f3,f4⟩,ly⟩:=f
 unfold leaving
 refine wpAny_bind (noteD fr f3 el f4 f1 f2 ly fun h1 N l1=>landD (s:={s with heap:=h1}) N.1 N.2.1 N.2.2.1 l1 fun h2 b2 g2 t2 u2 l2=>?_)
 obtain ⟨_,_,g3⟩:=g2
 exact q h2 ⟨⟨b2,f2,g3,t2⟩,l2⟩ (Heap.UpToSlots.trans N.2.2.2 u2)
theorem leavesD1{t:Addr}(fr:A.frames=some (env::outer))(el:env.frame=some L)(bs:base.StaysIn s.heap)(ff:s.heap.FunFrames base (env::outer))(bx:base.get? x=none)(ex:s.heap.get? x=some ⟨.ref C,od,.fields #[.ref t,.none,.none,.none,.bool false,.none],sl⟩)
 (q:∀h',FlyD base outer x C od (.ref t) h'→s.heap.UpToSlots h'→Q () {s with heap:=h'}):wpAny M A (leaving env (.ref x)) Q E s:=by
 unfold leaving noteFrame
 simp only [el]
 refine wpAny_bind (wpAny_bind (wpAny_field ex rfl (x:= .none) rfl ?_))
 rw [if_neg (by decide)]
 refine entryD fr ff el ex bs bx (by simp) rfl fun h1 N l1=>landD (s:={s with heap:=h1}) N.1 N.2.1 N.2.2.1 l1 fun h2 b2 g2 t2 u2 l2=>?_
 obtain ⟨_,_,g3⟩:=g2
 exact q h2 ⟨⟨b2,bx,g3,t2⟩,l2⟩ (Heap.UpToSlots.trans N.2.2.2 u2)
end
noncomputable def CXF(P:Program)(w:World):CXT:=fun outer H s E e s'=>∃(x C:Addr) (od:Option Addr) (a0:Value) (H':Hp) (B:Heap),e= .ref x∧s'.os=s.os∧AllBare s'.gens∧Un (frs outer) [] H H' s.heap s'.heap∧HOk P w H' s'.heap∧
 FlyD B outer x C od a0 s'.heap∧Spares (frs outer) H' s.heap s'.heap B∧H' x=none∧s.heap.get? x=none∧E (.ref C) (some x) (upd H' x (exO false x C od))
noncomputable def rem(H:Hp)(x:Addr):Hp:=fun b=>if b=x then none else H b
theorem rem_ne{H:Hp}{x b:Addr}(n:b≠x):rem H x b=H b:=if_neg n
theorem rem_same{H:Hp}{x:Addr}:rem H x x=none:=if_pos rfl
theorem upd_rem{H:Hp}{x:Addr}{o:HO}:upd (rem H x) x o=upd H x o:=by
 funext b
 by_cases h:b=x
 · subst h;rw [upd_same,upd_same]
 · rw [upd_ne h,upd_ne h,rem_ne h]
section
variable {X:Cx} {pins:List (Addr×Obj)} {σ:St} {H2:Hp} {s2:Shared} {h3:Heap} {n:Bool} {x C:Addr} {od:Option Addr}
theorem leaveX(I:Inv X pins σ H2 s2)(hex:X.ex=[])(hx:H2 x=some (exO n x C od))(x0:X.s₀.heap.get? x=none)(st:(PySem.W.hideAll s2.heap (x::frs X.stack)).StaysIn h3)(up:s2.heap.UpToSlots h3):
 Un X.fs [] X.H₀ (rem H2 x) X.s₀.heap h3∧HOk X.prog X.w (rem H2 x) h3∧Spares X.fs (rem H2 x) X.s₀.heap h3 (PySem.W.hideAll s2.heap (x::frs X.stack)):=by
 have bs:=I.base
 rw [hex]at bs
 have nl:∀b o,X.s₀.heap.get? b=some o→b≠X.env.locals:=fun b o e=>Nat.ne_of_lt (Nat.lt_of_lt_of_le (Heap.lt_size e) I.ok.above)
 have ns:∀b o,X.s₀.heap.get? b=some o→b∉X.fs→b∉frs X.stack:=fun b o e n hb=>(List.mem_cons.mp (I.stkSub b hb)).elim (nl b o e) n
 have nx:∀b o,X.s₀.heap.get? b=some o→b≠x:=fun b o e z=>by rw [z,x0]at e;cases e
 have sub:∀b∈X.fs,b∈frs X.stack:=fun b hb=>by
  rcases I.ok.stk with e | ⟨e,hf⟩
  · rw [e];exact hb
  · rw [e];unfold frs;rw [List.filterMap_cons,hf];exact List.mem_cons_of_mem _ hb
 have hid:∀b o,s2.heap.get? b=some o→b≠x→b∉frs X.stack→(PySem.W.hideAll s2.heap (x::frs X.stack)).get? b=some o:=fun b o e n1 n2=>PySem.W.hideAll_get _ e (fun z=>(List.mem_cons.mp z).elim n1 n2)
 have kp:∀b o,s2.heap.get? b=some o→b≠x→b∉frs X.stack→h3.get? b=some o:=fun b o e n1 n2=>st b o (hid b o e n1 n2)
 have tr:∀b o,H2 b=some o→b∉frs X.stack:=fun b o e hb=>by rw [I.stkFree b hb]at e;cases e
 have sl:∀b o,X.s₀.heap.get? b=some o→X.H₀ b=none→b∈X.fs→b∉([]:List Addr)→∃r,h3.get? b=some {o with slots:=r}:=fun b o e n hb hx=>by
  obtain ⟨r1,e1⟩:=bs.slot b o e n hb hx
  obtain ⟨o',e',d⟩:=I.frm b (sub b hb)
  rw [e1]at e';cases e'
  obtain ⟨r2,e2⟩:=up b _ e1 d
  exact ⟨r2,e2⟩
 have th:∀b o,X.s₀.heap.get? b=some o→∃o',s2.heap.get? b=some o':=fun b o e=>bs.there b o e (by simp)
 refine ⟨⟨fun b o e n hb hx=>kp b o (bs.keep b o e n hb hx) (nx b o e) (ns b o e hb),sl,fun b o e n hx=>?_,fun b o e hx=>?_,fun b xs e=>?_,fun b o v e=>?_,fun b ps e=>?_⟩,fun a o e=>?_,fun b o e hb c=>?_⟩
 · rw [rem_ne (nx b o e)];exact bs.free b o e n hx
 · obtain ⟨o',e1⟩:=th b o e
   by_cases hb:b∈frs X.stack
   · obtain ⟨o2,e2,d⟩:=I.frm b hb
     rw [e1]at e2;cases e2
     obtain ⟨r2,e3⟩:=up b _ e1 d
     exact ⟨_,e3⟩
   · exact ⟨o',kp b o' e1 (nx b o e) hb⟩
 · have e1:=bs.tups b xs e
   rw [rem_ne (fun z=>by rw [z,hx]at e1;cases e1)];exact e1
 · have e1:=bs.frzs b o v e
   rw [rem_ne (fun z=>by rw [z,hx]at e1;cases e1)];exact e1
 · obtain ⟨m1,e1⟩:=bs.tbls b ps e
   exact ⟨m1,by rw [rem_ne (fun z=>by rw [z,hx]at e1;cases e1)];exact e1⟩
 · have na:a≠x:=fun z=>by rw [z,rem_same]at e;cases e
   rw [rem_ne na]at e
   refine (I.hok a o e).stay (fun b v hc q=>?_) (fun b q=>?_) fun b xs q=>?_
   · rcases hc with rfl | hc
     · exact kp _ _ q na (tr _ _ e)
     · exact kp _ _ q (fun z=>by rw [z,hx]at hc;cases hc) (tr _ _ hc)
   · rw [rem_ne (fun z=>by rw [z,hx]at q;cases q)];exact q
   · rw [rem_ne (fun z=>by rw [z,hx]at q;cases q)];exact q
 · have w:∃o1,s2.heap.get? b=some o1∧b≠x∧b∉frs X.stack:=by
    rcases c with c | ⟨u0,e0⟩
    · cases q:rem H2 x b with
      | none=>exact absurd q c
      | some v=>
       have nb:b≠x:=fun z=>by rw [z,rem_same]at q;cases q
       rw [rem_ne nb]at q
       obtain ⟨o1,e1⟩:=I.hok.there q
       exact ⟨o1,e1,nb,tr _ _ q⟩
    · obtain ⟨o1,e1⟩:=th b u0 e0
      exact ⟨o1,e1,nx b u0 e0,ns b u0 e0 hb⟩
   obtain ⟨o1,e1,n1,n2⟩:=w
   have e2:=kp b o1 e1 n1 n2
   rw [e]at e2;cases e2
   exact hid b o e1 n1 n2
end
section
variable {P:Program} {w:World} {K:PySem.W.Frag} {mg:Str→Option Value} {base:Heap} {N:List Str} {qual:Str} {scope:Scope} {f:Addr} {cd:Value} {A:Around} {outer:List Env} {s:Shared} {H:Hp} {E:XK}
theorem raise_outF{pins:List (Addr×Obj)}{σ:St}{H2:Hp}{s2:Shared}{x C:Addr}{od:Option Addr}(I:Inv (cxOf (CXF P w) P w K mg base N qual scope f cd A outer s H E) pins σ H2 s2)
 (hx:H2 x=some (exO true x C od)) (h0:H x=none) (q:E (.ref C) (some x) (upd H2 x (exO false x C od))):(cxOf (CXF P w) P w K mg base N qual scope f cd A outer s H E).xe (.ref x) s2:=by
 have x0:s.heap.get? x=none:=by
  cases z:s.heap.get? x with
  | none=>rfl
  | some v=>
   have e:=I.base.free x v z h0 (by intro c;exact absurd (show x∈([]:List Addr) from c) (by simp))
   rw [hx]at e;cases e
 obtain ⟨vs,sl,e1,nv⟩:=(I.hok x _ hx).1
 obtain ⟨t,rfl⟩:=nv rfl
 have hin:∀env∈(cxOf (CXF P w) P w K mg base N qual scope f cd A outer s H E).stack,∀a,env.frame=some a→a∈x::frs (cxOf (CXF P w) P w K mg base N qual scope f cd A outer s H E).stack:=fun env he a ha=>List.mem_cons_of_mem _ (List.mem_filterMap.mpr ⟨env,he,ha⟩)
 refine leavesD1 (base:=PySem.W.hideAll s2.heap (x::frs (cxOf (CXF P w) P w K mg base N qual scope f cd A outer s H E).stack)) I.ok.frames rfl (fun b o e=>PySem.W.of_hideAll _ e) (PySem.W.funFrames_hide I.stack hin) (PySem.W.hideAll_none _ (List.mem_cons_self ..)) e1 fun h3 fl up=>?_
 obtain ⟨U,ok3,hB3⟩:=leaveX I rfl hx x0 fl.1.1 up
 exact ⟨x,C,od,.ref t,rem H2 x,_,rfl,I.os,I.bare,U,ok3,fl,hB3,rem_same,x0,by rw [upd_rem];exact q⟩
theorem pass_onF:Passes (CXF P w) (cxOf (CXF P w) P w K mg base N qual scope f cd A outer s H E) E:=by
 intro pins σ H1 s1 e s2 I h
 obtain ⟨x,C,od,a0,H2,B,rfl,os,bare,u,ok,fl,hB,hx,hnew,q⟩:=h
 refine leavesD (base:=B) I.ok.frames rfl fl fun h3 fl3 up=>?_
 obtain ⟨U,ok3,hB3⟩:=leave_of I rfl u ok hB fl3.1.1 up
 refine ⟨x,C,od,a0,H2,B,rfl,os.trans I.os,bare,U,ok3,fl3,hB3,hx,?_,q⟩
 cases z:s.heap.get? x with
 | none=>rfl
 | some v=>
  obtain ⟨o1,e1⟩:=I.base.there x v z (by intro c;exact absurd (show x∈([]:List Addr) from c) (by simp))
  rw [hnew]at e1;cases e1
theorem own_outF:PassesOwn (model P w) (A.deeper (envOfC qual scope s.heap.objs.size f cd)) (envOfC qual scope s.heap.objs.size f cd) (cxOf (CXF P w) P w K mg base N qual scope f cd A outer s H E).xe:=PassesOwn.leaving
theorem Fun.okF{x:Str}{st:Stmt}{fd:FuncData}{ps:List Str}{k:Nat}{sp:Sp}(F:Fun K x qual st f fd)(S:FnScope N ps (defScope st))(len:∀vs H Q E,sp vs H Q E→vs.length=ps.length)
 (hbody:∀(cdv:Value) (A:Around) (outer:List Env) (s:Shared) (H:Hp) (vs:List V) (Q:VK) (E:XK),Room k (A.deeper (envOfC qual (defScope st) s.heap.objs.size f cdv))→sp vs H Q E→
  ∃t,PSs (cxOf (CXF P w) P w K mg base N qual (defScope st) f cdv A outer s H E) (defBody st) t∧t {nx:=fun _ H'=>Q .non H',rt:=Q} (start N vs) H):FnOk P w K mg base (CXF P w) (k+1) f fd ps sp:=by
 obtain ⟨oc,od,kV,doc,pm,an,cdv,ct,osl,rfl,lk,hcd⟩:=F.ex
 exact fn_of lk hcd S len fun A outer s H vs Q E hr hsp=>hbody cdv A outer s H vs Q E hr hsp
noncomputable def RaisesF(X:Cx)(H₀:Hp)(EE:St→XK):Prop:=∀(pins:List (Addr×Obj)) (σ:St) (H2:Hp) (s2:Shared) (x C:Addr) (od:Option Addr),
 Inv X pins σ H2 s2→H2 x=some (exO true x C od)→H₀ x=none→EE σ (.ref C) (some x) (upd H2 x (exO false x C od))→X.xe (.ref x) s2
theorem raisesF:RaisesF (cxOf (CXF P w) P w K mg base N qual scope f cd A outer s H E) H (fun _=>E):=fun _ _ _ _ _ _ _ I hx h0 q=>raise_outF I hx h0 q
theorem pass_noF{Y:Cx}:Passes (CXF P w) Y fun _ _ _=>False:=fun _ _ _ _ _ _ _ h=>by
 obtain ⟨_,_,_,_,_,_,_,_,_,_,_,_,_,_,_,z⟩:=h
 exact z.elim
end
structure ExK(K:PySem.W.Frag)(C:Addr):Prop where
 at_:∀h:Heap,K.In h→∃(nm q:Str) (N:Addr) (bs bm:List Value) (hd:Bool) (sn:List Str) (su:List Value) (ab:Bool) (co:Option Bool) (dd:Option Addr) (k0 k1 k2 k3 k5:Option Value) (nw:String),
  h.get? C=some (excClassObj nm q C N bs bm hd sn su ab co dd k0 k1 k2 k3 k5 nw)∧bm.contains (.type "BaseException")=true
theorem ExcC.k{K:PySem.W.Frag}{C:Addr}(M:ExcC K C):ExK K C:=⟨fun h X=>by
 obtain ⟨nm,q,N,bs,bm,hd,sn,su,ab,co,dd,k0,k1,k2,k3,k5,mN,c1,c2,c3,c4⟩:=M.at_ h X
 exact ⟨nm,q,N,bs,bm,hd,sn,su,ab,co,dd,k0,k1,k2,k3,k5,_,c1,c4.hasType (by decide)⟩⟩
theorem MkX.k{K:PySem.W.Frag}{C f:Addr}(M:MkX K C f):ExK K C:=⟨fun h X=>by
 obtain ⟨nm,q,N,bs,bm,hd,sn,su,ab,co,dd,k0,k1,k2,k3,k5,mN,c1,c2,c3,c4⟩:=M.at_ h X
 exact ⟨nm,q,N,bs,bm,hd,sn,su,ab,co,dd,k0,k1,k2,k3,k5,_,c1,c4.hasType (by decide)⟩⟩
noncomputable def tRaiseP(P:St→Addr→Hp→Prop)(ta:TE):TS:=fun _ σ H=>ta σ H fun v H2=>∃x,v= .ref x∧P σ x H2
section
variable {X:Cx} {H₀:Hp} {EE:St→XK} {C:Addr} {e:Expr} {ta:TE} {pos:Pos}
theorem ps_raiseP{P:St→Addr→Hp→Prop}(hP:∀σ x H2,P σ x H2→∃od,H2 x=some (exO true x C od)∧H₀ x=none∧EE σ (.ref C) (some x) (upd H2 x (exO false x C od)))(k:ExK X.K C)(hc:X.calm=true)(hx:RaisesF X H₀ EE)(he:PE X e ta):
 PS X (.Raise (some e) none pos) (tRaiseP P ta):=by
 intro pins s σ H D I h
 rw [arm_exec_Raise]
 refine wpAny_bind (wpAny_standAt ?_)
 show wpAny _ _ (raiseStmt X.env (some (do let v ← eval e X.env;standAt pos;pure v)) none) _ _ _
 unfold raiseStmt
 refine wpAny_bind (wpAny_bind (wpAny_mono (he pins s σ H _ I h) (fun v s1 hv=>wpAny_bind (wpAny_standAt (wpAny_pure ?_))) fun _ _ z=>z))
 obtain ⟨v',H2,I2,rx,x,ev,hp⟩:=hv
 obtain ⟨od,hx2,h0,q⟩:=hP σ x H2 hp
 subst ev
 cases (show v=Value.ref x from rx)
 obtain ⟨nm,qn,N,bs,bm,hd,sn,su,ab,co,dd,k0,k1,k2,k3,k5,nw,c1,c2⟩:=k.at_ s1.heap I2.kIn
 obtain ⟨vs,sl,e1,nv⟩:=(I2.hok x _ hx2).1
 obtain ⟨t,rfl⟩:=nv rfl
 have fin:=hx pins σ H2 s1 x C od I2 hx2 h0 q
 have hB:(Value.ref C::bm).contains (.type "BaseException")=true:=by rw [List.contains_cons,c2,Bool.or_true]
 obtain ⟨hp',g,d,tk,os⟩:=s1
 repeat (first | with_reducible refine wpAny_loadPart_at e1 ?_ | with_reducible refine wpAny_loadPart_at c1 ?_ | (with_reducible refine wpAny_isSubtype_exc c1 ?_;rw [hB]) | wp_step)
 exact wpAny_raiseNew_none (I.ok.hd hc) fin
end
noncomputable def pN(C:Addr)(H₀:Hp)(EE:St→XK):St→Addr→Hp→Prop:=fun σ x H2=>H2 x=some (exO true x C none)∧H₀ x=none∧EE σ (.ref C) (some x) (upd H2 x (exO false x C none))
noncomputable def pI(C:Addr)(H₀:Hp)(EE:St→XK):St→Addr→Hp→Prop:=fun σ x H2=>∃od,H2 x=some (exO true x C od)∧H₀ x=none∧EE σ (.ref C) (some x) (upd H2 x (exO false x C od))
section
variable {X:Cx} {H₀:Hp} {CX:CXT} {EE:St→XK} {k j:Nat} {C:Addr} {ps:List Str} {sp:Sp} {x:Str} {np cpos pos:Pos} {e:Expr} {es:List Expr} {t:TA}
theorem ps_raiseF(M:ExcC X.K C)(hex:X.ex=[])(kp:PySem.W.keepIn X.K (.ref C)=true)(hc:X.calm=true)(hg:Gl X x)(hm:X.mg x=some (.ref C))(hx:RaisesF X H₀ EE)(ha:PA X (e::es) t)(hdb:(x==("__debug__":Str))=false:=by decide)
 (he:starEach (e::es) X.env=(false,eval e X.env)::starEach es X.env:=by rfl) (hpl:(backTo cpos (starEach es X.env)).any (·.1)=false:=by rfl):
 PS X (.Raise (some (.Call (.Name x np) (e::es) [] cpos)) none pos) (tRaiseP (pN C H₀ EE) (tExc C t)):=
 ps_raiseP (fun _ _ _ h=>⟨none,h⟩) M.k hc hx (pe_exc M hex kp hg hm ha hdb he hpl)
theorem DefX.exk(D:DefX X.prog X.w X.K X.mg X.base CX j x C ps sp):ExK X.K C:=by
 obtain ⟨f,fd,F,M,hm,hb⟩:=D.ex
 exact M.k
theorem ps_raiseI(D:DefX X.prog X.w X.K X.mg X.base CX j x C ps sp)(hex:X.ex=[])(hr:Room k X.A)(hc:X.calm=true)(hg:Gl X x)(hp:PassesS CX X EE)(hx:RaisesF X H₀ EE)(ha:PA X (e::es) t)(hj:j+1≤k:=by decide)(hdb:(x==("__debug__":Str))=false:=by decide)
 (he:starEach (e::es) X.env=(false,eval e X.env)::starEach es X.env:=by rfl) (hpl:(backTo cpos (starEach es X.env)).any (·.1)=false:=by rfl):
 PS X (.Raise (some (.Call (.Name x np) (e::es) [] cpos)) none pos) (tRaiseP (pI C H₀ EE) (tExcI C sp EE t)):=
 ps_raiseP (fun _ _ _ h=>h) D.exk hc hx (pe_excI D hex hr hg hp ha hj hdb he hpl)
end
section
variable {σ:St} {H H₀:Hp} {Q:VK} {D:Ends} {K:PySem.W.Frag} {C:Addr} {EE:St→XK} {t:TA} {sp:Sp}
theorem rd_raiseF:tRaiseP (pN C H₀ EE) (tExc C t) D σ H=t σ H fun vs H1=>vs.length≤sizeLine∧∀x,H1 x=none→H₀ x=none∧EE σ (.ref C) (some x) (upd H1 x (exO false x C none)):=by
 unfold tRaiseP pN tExc
 simp only [V.ref.injEq,exists_eq_left',upd_same,upd_upd,true_and]
theorem rd_raiseI:tRaiseP (pI C H₀ EE) (tExcI C sp EE t) D σ H=t σ H fun vs H1=>vs.length≤sizeLine∧∀x,H1 x=none→sp (.ref x::vs) (upd H1 x (exO true x C none)) (fun v H2=>v= .non∧∃od,H2 x=some (exO true x C od)∧H₀ x=none∧EE σ (.ref C) (some x) (upd H2 x (exO false x C od))) (EE σ):=by
 unfold tRaiseP pI tExcI
 simp only [V.ref.injEq,exists_eq_left']
end
section
variable {X:Cx} {pins:List (Addr×Obj)} {σ:St} {H:Hp} {x C:Addr} {od:Option Addr} {s:Shared}
theorem Air.landD(Z:Air X pins σ H x (.ref C) s)(ly:Lies s.heap x C od){M:Model}{A:Around}{Q:Unit→Shared→Prop}{E:Value→Shared→Prop}(h:∀s',Air X pins σ H x (.ref C) s'→Lies s'.heap x C od→Q () s'):wpAny M A (setFlight (.ref x) none) Q E s:=by
 obtain ⟨H0,s0,a0,B,I,os,bare,u,ok,fl,hB,hx,hn⟩:=Z.ex
 refine L2.landD fl.1 fl.2.2.1 fl.2.2.2.at ly fun h2 b2 g2 t2 u2 l2=>h _ ?_ l2
 obtain ⟨U,ok3,hB3⟩:=stay_of u ok I.frm I.stkFree hB b2 u2
 exact ⟨H0,s0,a0,B,I,os,bare,U,ok3,⟨b2,fl.2.1,g2,t2⟩,hB3,hx,hn⟩
theorem Air.trackF(Z:Air X pins σ H x (.ref C) s)(ly:Lies s.heap x C od)(hex:X.ex=[]):Inv X pins σ (upd H x (exO false x C od)) s:=by
 obtain ⟨H0,s0,a0,B,I0,os,bare,u,ok,fl,hB,hx,hn⟩:=Z.ex
 obtain ⟨vs,sl,e⟩:=ly
 exact Inv.track (H1:=H0) (s1:=s0) I0 hex hn Z.inv hx (exO_ok e fun z=>by cases z)
end
noncomputable def PHF(X:Cx)(hs:List ExceptHandler)(th:TH):Prop:=∀(pins:List (Addr×Obj)) (s:Shared) (σ:St) (H:Hp) (x C:Addr) (od:Option Addr) (D:Ends),Air X pins σ H x (.ref C) s→Lies s.heap x C od→th (.ref C) x D σ (upd H x (exO false x C od))→
 wpAny (model X.prog X.w) X.A (handleBy (.ref x) X.env hs) (SP X pins D) X.xe s
noncomputable def hAsF(K:PySem.W.Frag)(c:Value)(i:Nat)(ts:Addr→TS)(tr:TH):TH:=fun cls x D σ H=>∃b,PySem.W.exmOne K cls c=some b∧if b=true then ts x (endsAs i D) (σ.set i (some (.ref x))) H else tr cls x D σ H
section
variable {X:Cx} {Cn n:Str} {c:Value} {i:Nat} {np pos:Pos} {b₀:Stmt} {suite:List Stmt} {rest:List ExceptHandler} {ts:Addr→TS} {tr:TH}
theorem ph_nilF:PHF X [] hNil:=fun _ _ _ _ _ _ _ _ _ _ h=>h.elim
theorem ph_clsF(hex:X.ex=[])(hg:Gl X Cn)(hm:X.mg Cn=some c)(hs:∀x,PSs (X.sui x) (b₀::suite) (ts x))(hr:PHF X rest tr)(hdb:(Cn==("__debug__":Str))=false:=by decide):
 PHF X (.ExceptHandler (some (.Name Cn np)) none (b₀::suite) pos::rest) (hClsV X.K c ts tr):=by
 intro pins s σ H x C od D Z ly h
 obtain ⟨b,e,h⟩:=h
 refine wpAny_handleBy_cons (clause_test (c:=c) Z (fun Q E q=>ld_glob (X:=X.sui x) (Z.inv.sui x) hg hm q hdb) e ?_) (by intro q;cases q)
 cases b with
 | false=>exact hr pins s σ H x C od D Z ly h
 | true=>
  refine codeAny_handlers_suite (Z.landD ly fun s' Z' ly'=>?_)
  exact wpAny_mono (hs x pins s' σ _ D ((Z'.trackF ly' hex).sui x) h) (fun f s2 q=>q.unsui Z.inv.ok) fun _ _ q=>False.elim q
theorem ph_asF(hex:X.ex=[])(hN:X.N.Nodup)(hi:X.N[i]?=some n)(hl:X.env.kindOf n=some .local)(hg:Gl X Cn)(hm:X.mg Cn=some c)(hs:∀x,PSs (X.sui x) (b₀::suite) (ts x))(hr:PHF X rest tr)(hdb:(Cn==("__debug__":Str))=false:=by decide):
 PHF X (.ExceptHandler (some (.Name Cn np)) (some n) (b₀::suite) pos::rest) (hAsF X.K c i ts tr):=by
 intro pins s σ H x C od D Z ly h
 obtain ⟨b,e,h⟩:=h
 refine wpAny_handleBy_cons (clause_test (c:=c) Z (fun Q E q=>ld_glob (X:=X.sui x) (Z.inv.sui x) hg hm q hdb) e ?_) (by intro q;cases q)
 cases b with
 | false=>exact hr pins s σ H x C od D Z ly h
 | true=>
  refine codeAny_handlers_suite_as (Z.landD ly fun s' Z' ly'=>?_)
  refine store_ok (X:=X) (Z'.trackF ly' hex) hN hi (.inl hl) (v:= .ref x) rfl (fun s2 I2=>?_) (.inr hl)
  refine wpAny_mono (hs x pins s2 _ _ _ (I2.sui x) h) (fun f s3 q=>?_) fun _ _ q=>False.elim q
  have q':=q.unsui Z.inv.ok
  show wpAny _ _ _ _ _ _
  cases f with
  | next=>obtain ⟨σ',H',I3,q3⟩:=q';exact name_goes I3 hN hi hl fun s4 I4=>⟨_,H',I4,q3⟩
  | brk=>obtain ⟨σ',H',I3,q3⟩:=q';exact name_goes I3 hN hi hl fun s4 I4=>⟨_,H',I4,q3⟩
  | cont=>obtain ⟨σ',H',I3,q3⟩:=q';exact name_goes I3 hN hi hl fun s4 I4=>⟨_,H',I4,q3⟩
  | ret u=>obtain ⟨v,σ',H',I3,r3,q3⟩:=q';exact name_goes I3 hN hi hl fun s4 I4=>⟨v,_,H',I4,r3,q3⟩
theorem ps_tryF{body:List Stmt}{h₀:ExceptHandler}{hs:List ExceptHandler}{tb:TryB→TS}{th:TH}(hst:X.stack=X.env::X.outer)(hfr:X.env.frame=some X.env.locals)
 (hb:∀t:TryB,PassesS (CXF X.prog X.w) (X.tryX t.pn t.xe) t.EE→PSs (X.tryX t.pn t.xe) body (tb t)) (hh:PHF X (h₀::hs) th):
 PS X (.Try body (h₀::hs) [] [] pos) (tTryV tb th):=by
 intro pins s σ H D I h
 refine wpAny_Try_except ?_
 have P1:PassesS (CXF X.prog X.w) (X.tryX (X.pn++pins) (fun e s'=>∃σ H' x C od,e= .ref x∧Air X pins σ H' x (.ref C) s'∧Lies s'.heap x C od∧th (.ref C) x D σ (upd H' x (exO false x C od)))) (fun σ' cls ox H'=>∃x,ox=some x∧th cls x D σ' H'):=by
  intro pl σ1 H1 s1 e s2 I1 hc
  obtain ⟨x,C,od,a0,H2,B,rfl,os,bare,u,ok,fl,hB,hx,hn,⟨y,hy,q⟩⟩:=hc
  cases hy
  exact ⟨σ1,H2,x,C,od,rfl,⟨H1,s1,a0,B,I1.tryOut I.ok,os,bare,u,ok,fl.1,hB,hx,hn⟩,fl.2,q⟩
 refine wpAny_mono (hb ⟨_,_,_⟩ P1 [] s σ H D (I.tryIn _) (h _ _)) (fun f s1 q=>?_) fun e s1 q=>?_
 · have q':=q.tryOut I.ok
   cases f with
   | next=>exact wpAny_execs_nil q'
   | brk=>exact q'
   | cont=>exact q'
   | ret u=>exact q'
 · obtain ⟨σ1,H1,x,C,od,rfl,Z,ly,q⟩:=q
   have fr:X.A.frames=some (X.env::X.outer):=by rw [← hst];exact I.ok.frames
   obtain ⟨H0,s0,a0,B,I0,os,bare,u,ok,fl,hB,hx,hn⟩:=Z.ex
   have fl':=fl
   rw [hst]at fl'
   obtain ⟨f1,f2,f3,f4⟩:=fl'
   refine noteD fr f3 hfr f4 f1 f2 ly fun h1 N1 l1=>landD (s:={s1 with heap:=h1}) N1.1 N1.2.1 N1.2.2.1 l1 fun h3 b3 g3 t3 u3 l3=>?_
   have fl3:Heap.FlyingW B X.stack x (.ref C) a0 h3:=by rw [hst];exact ⟨b3,f2,g3,t3⟩
   obtain ⟨U,ok3,hB3⟩:=stay_of u ok I0.frm I0.stkFree hB b3 (Heap.UpToSlots.trans N1.2.2.2 u3)
   exact hh pins _ σ1 H1 x C od D ⟨H0,s0,a0,B,I0,os,bare,U,ok3,fl3,hB3,hx,hn⟩ l3 q
end
section
variable {σ:St} {H:Hp} {D:Ends} {K:PySem.W.Frag}
theorem rd_hasF{c cls:Value}{i:Nat}{x:Addr}{ts:Addr→TS}{tr:TH}:hAsF K c i ts tr cls x D σ H=∃b,PySem.W.exmOne K cls c=some b∧if b=true then ts x (endsAs i D) (σ.set i (some (.ref x))) H else tr cls x D σ H:=rfl
theorem rd_fldX{Q:VK}{ta:TE}{f:Str}:tFldX K ta f σ H Q=ta σ H fun x H1=>∃nw a C B dx fs v,x= .ref a∧H1 a=some (exO nw a C (some dx))∧H1 dx=some (exD dx fs)∧ExcQ K C B∧PySem.W.findIn K (.ref C) f=some none∧fs.lookup f=some v∧Q v H1:=rfl
theorem rd_sfldX{ta tv:TE}{f:Str}:sFldX K ta tv f D σ H=tv σ H fun y H1=>ta σ H1 fun x H2=>∃nw a C B,x= .ref a∧ExcQ K C B∧PySem.W.findIn K (.ref C) f=some none∧
 ((H2 a=some (exO nw a C none)∧∀dx,H2 dx=none→D.nx σ (upd (upd H2 a (exO nw a C (some dx))) dx (exD dx (putF f y []))))∨
  ∃dx fs,H2 a=some (exO nw a C (some dx))∧H2 dx=some (exD dx fs)∧fs.length < 1000∧D.nx σ (upd H2 dx (exD dx (putF f y fs)))):=rfl
theorem rd_methX{C:Addr}{m:Str}{sp:Sp}{EE:St→XK}{ta:TE}{Q:VK}:tMethX C m sp EE ta σ H Q=ta σ H fun x H1=>∃nw a,x= .ref a∧(H1 a=some (exO nw a C none)∨∃dx fs,H1 a=some (exO nw a C (some dx))∧H1 dx=some (exD dx fs)∧fs.lookup m=none)∧sp [x] H1 Q (EE σ):=rfl
theorem rd_exc{C:Addr}{t:TA}{Q:VK}:tExc C t σ H Q=t σ H fun vs H1=>vs.length≤sizeLine∧∀x,H1 x=none→Q (.ref x) (upd H1 x (exO true x C none)):=rfl
theorem rd_excI{C:Addr}{sp:Sp}{EE:St→XK}{t:TA}{Q:VK}:tExcI C sp EE t σ H Q=t σ H fun vs H1=>vs.length≤sizeLine∧∀x,H1 x=none→sp (.ref x::vs) (upd H1 x (exO true x C none)) (fun v H2=>v= .non∧Q (.ref x) H2) (EE σ):=rfl
end
section
open PySem.W
theorem walk_ofKF{l:PySem.W.OpenLaw}{n k:Nat}{q:Program}{loose:List Str}{XP:(Str→Option Value)→Heap→Prop}{YP:World→Heap→Prop}{d:DefRec}{K:Params→PySem.W.Frag}{sp:PySem.W.Frag→Sp}{x:Str}
 (hn:l.most=some n) (hn2:n≤sizeLine) (hdf:d.params.defaults=[]) (hr:Room k callerA) (hY:∀(w:World) (h:Heap),YP w h→(K w.params).In h)
 (F:∀(w:World) (mg:Str→Option Value) (fa:Addr) (h:Heap),(K w.params).In h→h.Ns mainGlobals mg→mg d.name=some (.ref fa)→
  ∃fd:FuncData,(∀(s:Shared) (u:Value),BindsTo s fd ⟨[u],[]⟩ [(x,u)])∧∀base:Heap,(K w.params).In base→base.Ns mainGlobals mg→FnOk l.prog w (K w.params) mg base (CXF l.prog w) k fa fd [x] (sp (K w.params)))
 (hsp:∀(K:PySem.W.Frag) (H:Hp) (a:Addr) (ns:List Int),ns.length≤n→Only H→SqL K H a (ns.map V.int)→sp K [.ref a] H (fun v _=>v= .bl true) fun _ _ _=>False):
 PySem.W.WalkO q loose XP YP l.row.toRowW d [] (fun f vs=>PySem.call f vs):=
 walk_of (K:=K) (CX:=fun w=>CXF l.prog w) (sp:=fun w=>sp (K w.params)) hn hn2 hdf hr hY F (fun w H a ns h1 h2 h3=>hsp (K w.params) H a ns h1 h2 h3) fun _ _ _ _ _ ⟨_,_,_,_,_,_,_,_,_,_,_,_,_,_,_,z⟩=>z
end
section
open PySem.W
variable {K:Frag} {C N A f:Addr} {nm q:Str} {bs:List Value} {hdct:Bool} {sn:List Str} {sub:List Value} {ab:Bool} {col:Option Bool} {dd:Option Addr} {k0 k1 k2 k3 k5:Option Value} {oc c0 oc2:Value} {od dA od2:Option Addr} {es es2:Array DictEntry} {ep ep2:Nat} {sl slA sl2:Array (Option Value)} {cdA:ClassData} {nw:String}
theorem mkX_of{fo:Obj}(lC:K.lookup C=some (excClassObj nm q C N bs (.ref A::veTail) hdct sn sub ab col dd k0 k1 k2 k3 k5 "ValueError.__new__"))(lN:K.lookup N=some ⟨oc,od,.dict es ep,sl⟩)(sN:strKeysB es=true)(iN:nsFind es "__init__"=some (.ref f))
 (lA:K.lookup A=some ⟨c0,dA,.cls cdA,slA⟩) (lNA:K.lookup cdA.ns=some ⟨oc2,od2,.dict es2 ep2,sl2⟩) (sNA:strKeysB es2=true) (iNA:nsFind es2 "__init__"=none) (lF:K.lookup f=some fo) (cF:fo.cls= .type "function") (kp:keepIn K (.ref C)=true):MkX K C f:=
 ⟨fun h X=>⟨nm,q,N,bs,_,hdct,sn,sub,ab,col,dd,k0,k1,k2,k3,k5,nsFind es,X _ _ lC,ns_of X lN sN,iN,.own (X _ _ lA) (ns_of X lNA sNA) iNA .base⟩,⟨fo,lF,cF⟩,kp⟩
theorem excQ_of(lC:K.lookup C=some (excClassObj nm q C N bs (.ref A::veTail) true sn sub ab col dd k0 k1 k2 k3 k5 nw))(ga:findIn K (.ref C) "__getattribute__"=some (some (.builtin "BaseException.__getattribute__")))(gh:findIn K (.ref C) "__getattr__"=some none)
 (sa:findIn K (.ref C) "__setattr__"=some (some (.builtin "object.__setattr__"))):ExcQ K C A:=by
 refine ⟨⟨ga,gh⟩,?_,sa⟩
 unfold clsIn
 rw [lC]
 exact ⟨_,rfl,rfl,rfl⟩
end
end L2
namespace L2
theorem kV_of{P:Program}{w:World}{k:Key}{u:Value}(h:(mixKind P w).is k u=true):RelV (kV k) u:=by
 cases k with
 | inl i=>
  cases u <;> first | (exact absurd h (by intro z;cases z)) | skip
  rename_i j t
  have e:j=i:=by simpa [mixKind,keyIs,Value.isInt] using h
  exact ⟨t,by rw [e]⟩
 | inr x=>
  cases u <;> first | (exact absurd h (by intro z;cases z)) | skip
  rename_i j t
  have e:j=x:=by simpa [mixKind,keyIs,Value.isStrOf] using h
  exact ⟨t,by rw [e]⟩
theorem vals_get:∀{xs:List V} {us:List Value},Vals xs us→∀{i:Nat} {u:Value},us[i]?=some u→∃x,xs[i]?=some x∧RelV x u
 | _,_,.cons r t,0,u,e=>by cases e;exact ⟨_,rfl,r⟩
 | _,_,.cons r t,i+1,u,e=>vals_get t (i:=i) e
theorem vals_at:∀{xs:List V} {us:List Value},xs.length=us.length→(∀(j:Nat) (u:Value),us[j]?=some u→∃x,xs[j]?=some x∧RelV x u)→Vals xs us
 | [],[],_,_=> .nil
 | x::xs,u::us,hl,h=>by
  obtain ⟨y,e,r⟩:=h 0 u rfl
  cases e
  exact .cons r (vals_at (by simpa using hl) fun j v e=>h (j+1) v e)
theorem paired_get{α β:Type}{F:α→β→Prop}:∀{l:List α} {m:List β},Paired F l m→∀{i:Nat} {b:β},m[i]?=some b→∃a,l[i]?=some a∧F a b
 | _,_,.cons r t,0,b,e=>by cases e;exact ⟨_,rfl,r⟩
 | _,_,.cons r t,i+1,b,e=>paired_get t (i:=i) e
theorem erase_map{α β:Type}(f:α→β):∀(l:List α) (i:Nat),(l.map f).eraseIdx i=(l.eraseIdx i).map f
 | [],_=>rfl
 | _::_,0=>rfl
 | a::l,i+1=>by rw [List.map_cons,List.eraseIdx_cons_succ,List.eraseIdx_cons_succ,List.map_cons,erase_map f l i]
theorem erase_at(z:Str):∀l:List Str,l.eraseIdx (l.idxOf z)=l.erase z
 | []=>rfl
 | a::l=>by
  by_cases h:a=z
  · subst h;simp
  · have e:(a::l).idxOf z=l.idxOf z+1:=by rw [List.idxOf_cons,show (a==z)=false from beq_false_of_ne h];rfl
    rw [e,List.eraseIdx_cons_succ,erase_at z l,List.erase_cons_tail (by simpa using h)]
noncomputable def viewO(v d:Addr):HO:= .ext fun h=>h.IsValuesView v d
noncomputable def rListD:List V→Hp→VK→Prop:=fun xs H Q=>∃a kvs,xs=[.ref a]∧H a=some (.dK kvs)∧∀l,H l=none→Q (.ref l) (upd H l (.lst (kvs.map fun p=>kV p.1)))
noncomputable def rValues:V→List V→Hp→VK→Prop:=fun x vs H Q=>∃a kvs,x= .ref a∧vs=[]∧H a=some (.dK kvs)∧∀v,H v=none→Q (.ref v) (upd H v (viewO v a))
noncomputable def rSumV:List V→Hp→VK→Prop:=fun xs H Q=>∃(v d:Addr) (kvs:List (Key×V)) (is:List Int),xs=[.ref v]∧H v=some (viewO v d)∧H d=some (.dK kvs)∧kvs.map (·.2)=is.map V.int∧Q (.int is.sum) H
noncomputable def rRemove:V→List V→Hp→VK→Prop:=fun x vs H Q=>∃(l:Addr) (ys:List Str) (z:Str),x= .ref l∧vs=[.str z]∧H l=some (.lst (ys.map V.str))∧z∈ys∧Q .non (upd H l (.lst ((ys.erase z).map V.str)))
section
variable {X:Cx}
theorem call_listD(hc:X.calm=true):CallR X (.type "list") rListD:=by
 intro pins s σ H xs us Q I r h
 obtain ⟨a,kvs,rfl,ha,q⟩:=h
 obtain ⟨u,rfl,rx⟩:=vals1 r
 cases rx
 obtain ⟨z,lo,ws,rel,ob,es,ep,e1,e2⟩:=I.hok a _ ha
 have dat:s.heap.DictAt (mixKind X.prog X.w) a ws ep:=⟨ob,es,e1,e2⟩
 refine PySem.W.kdl_call (PySem.W.kdl_dict (knd:=mixKind X.prog X.w) (kvs:=ws) (ep:=ep) lo) (I.ok.hd hc) dat (by rw [← rel.length];exact z) fun h' tk acc c' kp e hi=>?_
 have hv:Vals (kvs.map fun p=>kV p.1) acc.toList:=by
  have h1:=hi.1
  have h2:=rel.length
  refine vals_at (by rw [List.length_map];exact h2.trans (h1.symm.trans (Array.length_toList (xs:=acc)).symm)) fun j u ej=>?_
  obtain ⟨k,x,ek,hk⟩:=hi.2 j u (by rw [← Array.getElem?_toList];exact ej)
  obtain ⟨p,ep',hp⟩:=paired_get rel ek
  exact ⟨kV p.1,by rw [List.getElem?_map,ep'];rfl,by rw [hp.1];exact kV_of hk⟩
 refine ⟨.ref s.heap.objs.size,_,I.laid (t':=tk) kp (Nat.le_refl _) (show ObjOk X.prog X.w _ h' _ (.lst (kvs.map fun p=>kV p.1)) from ⟨by rw [List.length_map];exact z,acc.toList,c',hv,?_⟩),rfl,q _ I.fresh⟩
 rw [Array.toArray_toList];exact e
theorem mt_remove:MtM X "list.remove" rRemove:=by
 intro pins s σ H x vs v us Q I rx rv h
 obtain ⟨l,ys,z,rfl,rfl,hH,hz,q⟩:=h
 cases rx
 obtain ⟨u,rfl,ru⟩:=rv.one
 obtain ⟨t,rfl⟩:=ru
 obtain ⟨hs,its,n,r,hl,e⟩:=I.lstM hH
 have hj:ys.idxOf z < ys.length:=List.idxOf_lt_length_iff.mpr hz
 have at_:∀(m:Nat) (u:Value),its[m]?=some u→∃y t,ys[m]?=some y∧u= .str y t:=fun m u em=>by
  obtain ⟨x,ex,rx⟩:=vals_get r em
  rw [List.getElem?_map]at ex
  cases hy:ys[m]? with
  | none=>rw [hy]at ex;cases ex
  | some y=>
   rw [hy]at ex
   cases ex
   obtain ⟨t,e⟩:=rx
   exact ⟨y,t,rfl,e⟩
 have ev:∀y,y∈its.toArray→MeetsSeq.EqGives y (.str z t) (PyProof.Rows.isStrOf z y):=fun y hy=>by
  obtain ⟨m,hm⟩:=List.mem_iff_getElem?.mp (by simpa using hy)
  obtain ⟨y',t',_,rfl⟩:=at_ m y hm
  exact eqGives_str y' z t' t
 have hit:∀(m:Nat) (hm:m < its.toArray.size),∃y t,ys[m]?=some y∧its.toArray[m]= .str y t:=fun m hm=>at_ m _ (by simp)
 refine call_meets F.slot_list_remove ⟨_,e,rfl⟩ F.entry_list_remove (F.args_list_remove_2 _ _) (MeetsSeq.list_remove l its.toArray n (.str z t) (isStrOf z) ev (ys.idxOf z) (by rw [List.size_toArray,← hl,List.length_map];exact hj) ?_ ?_ (by rw [List.size_toArray];omega)) ⟨e,?_⟩
 · obtain ⟨y,t',h1,h2⟩:=hit (ys.idxOf z) (by rw [List.size_toArray,← hl,List.length_map];exact hj)
   rw [h2]
   have e3:ys[ys.idxOf z]?=some z:=by rw [List.getElem?_eq_getElem hj,List.getElem_idxOf hj]
   rw [e3]at h1;cases h1
   simp [isStrOf]
 · intro m hm hlt
   obtain ⟨y,t',h1,h2⟩:=hit m hm
   rw [h2]
   have e3:(ys[m]'(by omega)==z)=false:=List.not_of_lt_findIdx hlt
   rw [List.getElem?_eq_getElem (by omega)]at h1
   cases h1
   exact e3
 · refine ⟨.non,_,I.lset (its':=its.eraseIdx (ys.idxOf z)) hH e ?_ (ys:=(ys.erase z).map V.str) ?_ ?_,rfl,q⟩
   · rw [List.eraseIdxIfInBounds_toArray]
   · have:=r.eraseIdx (ys.idxOf z)
     have e5:(ys.map V.str).eraseIdx (ys.idxOf z)=(ys.erase z).map V.str:=by
      rw [erase_map,erase_at]
     rw [e5]at this
     exact this
   · have:=List.length_erase_le (a:=z) (l:=ys)
     rw [List.length_map]at hs ⊢
     omega
noncomputable def gLst(K:PySem.W.Frag)(n:Nat)(t:TGs):TG:=fun v σ H Q=>∃a xs,v= .ref a∧SqL K H a xs∧xs.length=n∧t xs σ H Q
noncomputable def rIsB:R2:=fun x y H Q=>∃a b,x= .bl a∧y= .bl b∧Q (.bl (a==b)) H
noncomputable def rIsNB:R2:=fun x y H Q=>∃a b,x= .bl a∧y= .bl b∧Q (.bl (!(a==b))) H
end
section
variable {σ:St} {H:Hp} {Q:VK} {xs:List V} {x y:V}
theorem rd_glst{K:PySem.W.Frag}{n:Nat}{t:TGs}{v:V}{N:St→Hp→Prop}:gLst K n t v σ H N=∃a xs,v= .ref a∧SqL K H a xs∧xs.length=n∧t xs σ H N:=rfl
theorem rd_dpop1{td ty:TE}:tDPop1 td ty σ H Q=td σ H fun x H1=>∃a,x= .ref a∧IsD H1 a∧ty σ H1 fun y H2=>∃kvs k v,H2 a=some (.dK kvs)∧y=kV k∧valV kvs k=some v∧Q v (upd H2 a (.dK (dropK kvs k))):=rfl
theorem rd_dget2{td ty tx:TE}:tDGet2 td ty tx σ H Q=td σ H fun x H1=>∃a,x= .ref a∧IsD H1 a∧ty σ H1 fun y H2=>tx σ H2 fun z H3=>∃o,DGet H3 a y o∧Q (o.getD z) H3:=rfl
theorem rd_popAt:rPopAt x xs H Q=∃l ys i k y,x= .ref l∧xs=[.int i]∧H l=some (.lst ys)∧-(2 ^ 63)≤i∧i < 2 ^ 63∧seqIndex? i ys.length=some k∧ys[k]?=some y∧Q y (upd H l (.lst (ys.eraseIdx k))):=rfl
theorem rd_listD:rListD xs H Q=∃a kvs,xs=[.ref a]∧H a=some (.dK kvs)∧∀l,H l=none→Q (.ref l) (upd H l (.lst (kvs.map fun p=>kV p.1))):=rfl
theorem rd_values:rValues x xs H Q=∃a kvs,x= .ref a∧xs=[]∧H a=some (.dK kvs)∧∀v,H v=none→Q (.ref v) (upd H v (viewO v a)):=rfl
theorem rd_sumV:rSumV xs H Q=∃(v d:Addr) (kvs:List (Key×V)) (is:List Int),xs=[.ref v]∧H v=some (viewO v d)∧H d=some (.dK kvs)∧kvs.map (·.2)=is.map V.int∧Q (.int is.sum) H:=rfl
theorem rd_remove:rRemove x xs H Q=∃(l:Addr) (ys:List Str) (z:Str),x= .ref l∧xs=[.str z]∧H l=some (.lst (ys.map V.str))∧z∈ys∧Q .non (upd H l (.lst ((ys.erase z).map V.str))):=rfl
theorem rd_isB:rIsB x y H Q=∃a b,x= .bl a∧y= .bl b∧Q (.bl (a==b)) H:=rfl
theorem rd_isnB:rIsNB x y H Q=∃a b,x= .bl a∧y= .bl b∧Q (.bl (!(a==b))) H:=rfl
end
section
variable {i j:Int} {a b:Bool} {x y:Str}
theorem sc_nn:scal .non .non=true:=rfl
theorem sc_ni:scal .non (.int j)=true:=rfl
theorem sc_in:scal (.int i) .non=true:=rfl
theorem sc_nb:scal .non (.bl b)=true:=rfl
theorem sc_bn:scal (.bl a) .non=true:=rfl
theorem sc_ns:scal .non (.str y)=true:=rfl
theorem sc_sn:scal (.str x) .non=true:=rfl
theorem sc_ii:scal (.int i) (.int j)=true:=rfl
theorem sc_bb:scal (.bl a) (.bl b)=true:=rfl
theorem sc_ss:scal (.str x) (.str y)=true:=rfl
theorem sc_is:scal (.int i) (.str y)=true:=rfl
theorem sc_si:scal (.str x) (.int j)=true:=rfl
theorem sc_bs:scal (.bl a) (.str y)=true:=rfl
theorem sc_sb:scal (.str x) (.bl b)=true:=rfl
end
end L2
namespace L2
open N1 N5
section
variable {K:PySem.W.Frag} {tail:St} {te:Blk→TE} {Q:VK} {H1:Hp}
noncomputable def OffLists(P:V→Hp→Prop):Prop:=∀y H H' l zs,P y H→H l=some (.lst zs)→SameBut l H H'→P y H'
theorem compR_mk{lo:Int}{n:Nat}(P:Nat→V→Hp→Prop)(hP:∀i,OffLists (P i))(hz:n≤sizeLine)(he:∀b (i:Nat) H Q',i < n→Same H1 H→(∀y H',Same H H'→P i y H'→Q' y H')→te b (some (.int (lo+i))::tail) H Q')
 (q:∀D ys H',H1 D=none→Same H1 H'→H' D=some (.lst ys)→ys.length=n→(∀i y,ys[i]?=some y→P i y H')→Q (.ref D) H'):CompTail (none::tail) (fun _=>gName 0) (fun _=>tYes) te Q (Itr lo n) H1:=by
 refine comp_by n (fun b D hD=>⟨fun i ys H=>i≤n∧ys.length=i∧H D=some (.lst ys)∧Same H1 H∧∀j y,ys[j]?=some y→P j y H,⟨Nat.zero_le _,rfl,upd_same,same_new hD,fun j y e=>by simp at e⟩,?_,?_,?_⟩)
 · rintro i ys H ⟨hi,_,h,_⟩
   exact h
 · rintro ys H ⟨_,hl,h,sm,hall⟩
   exact ⟨Nat.le_refl _,q D ys H hD sm h hl hall⟩
 · rintro i ys H hi ⟨_,hl,h,sm,hall⟩
   refine ⟨hi,fun x H3 ⟨e3,ex⟩=>?_⟩
   subst e3 ex
   refine he b i _ _ hi sm fun y H4 sm4 py=>?_
   have h4:=sm4 _ _ h
   have sb:SameBut D H4 (upd H4 D (.lst (ys++[y]))):=sameBut_upd
   refine compNext h4 (by omega) hi ⟨hi,by rw [List.length_append,hl];rfl,upd_same,fun c o e=>?_,fun j y' e=>?_⟩
   · rw [upd_ne (ne_of_none e hD)];exact sm4 _ _ (sm _ _ e)
   · by_cases hj:j < ys.length
     · rw [List.getElem?_append_left hj]at e
       have:=hall j y' e
       exact hP j _ _ _ _ _ this h fun c o e n=>by rw [upd_ne n];exact sm4 _ _ e
     · rw [List.getElem?_append_right (by omega)]at e
       have hj0:j=i:=by have:=(List.getElem?_eq_some_iff.mp e).1;simp at this;omega
       subst hj0
       rw [show j - ys.length=0 by omega]at e
       cases e
       exact hP j _ _ _ _ _ py h4 sb
end
end L2
namespace N4
open L2 N1 N5
noncomputable def unkF(n p:V):List (Str×V):=putF "place" p (putF "name" n [])
noncomputable def ErrU(C:Addr)(H:Hp)(x:Addr)(n p:V):Prop:=∃dx,H x=some (exO false x C (some dx))∧H dx=some (exD dx (unkF n p))
noncomputable def sp_unk(C:Addr):Sp:=fun vs H Q _=>∃(x:Addr) (n p:V) (nw:Bool),vs=[.ref x,n,p]∧H x=some (exO nw x C none)∧∀dx,H dx=none→Q .non (upd (upd H x (exO nw x C (some dx))) dx (exD dx (unkF n p)))
noncomputable def sp_checkG(K:PySem.W.Frag):Sp:=fun vs H Q _=>∃(n co r:V) (e:Addr) (kvs:List (Key×V)) (ks:List Str),vs=[n,co,r,.ref e]∧H e=some (.dK kvs)∧kvs.map (·.1)=ks.map Sum.inr∧rowR ks n co r=none∧∀H',Same H H'→Q .non H'
noncomputable def sp_initG(K:PySem.W.Frag)(C:Addr):Sp:=fun vs H Q _=>∃(p dx ra:Addr) (rs:List Rw),vs=[.ref p,.ref ra]∧H p=some (.ins C dx [])∧SqL K H ra (rs.map fun t=>V.ref t.1)∧(∀t∈rs,SqT K H t.1 [t.2.1,t.2.2.1,t.2.2.2])∧initR rs=none∧
 ∀H',SameBut p H H'→StockAt K C H' p (rs.map thOf)→Q .non H'
theorem initR_none{rs:List Rw}(h:initR rs=none):rs.length≤60∧stockR [] rs=none:=by
 unfold initR at h
 split at h
 · cases h
 · exact ⟨by omega,h⟩
theorem wIn_ok{lo hi c:Int}(h1:lo≤c)(h2:c≤hi):wIn lo hi (.int c)=true:=by
 show (decide (lo≤c) && decide (c≤hi))=true
 rw [decide_eq_true h1,decide_eq_true h2];rfl
theorem stockR_ok:∀(rs:List Rw) (ks:List Str),(∀t∈rs,∃z c q,t.2.1= .str z∧t.2.2.1= .int c∧t.2.2.2= .int q∧nameB z.cps.toList=true∧0≤c∧c≤10 ^ 30∧1≤q∧q≤1000)→(ks++rs.map fun t=>sOf t.2.1).Nodup→stockR ks rs=none
 | [],_,_,_=>rfl
 | t::rs,ks,h,nd=>by
  obtain ⟨z,c,q,e1,e2,e3,hn,h1,h2,h3,h4⟩:=h t (List.mem_cons_self ..)
  have hz:¬z∈ks:=fun hz=>by
   rw [List.map_cons,List.nodup_append]at nd
   exact nd.2.2 z hz (sOf t.2.1) (List.mem_cons_self ..) (by rw [e1];rfl)
  have r0:rowR ks t.2.1 t.2.2.1 t.2.2.2=none:=by
   unfold rowR
   rw [e1,e2,e3]
   rw [if_neg (by show ¬nameB z.cps.toList=false;rw [hn];decide),if_neg (show ¬sOf (.str z)∈ks from hz),if_neg (by rw [wIn_ok h1 h2];decide),if_neg (by rw [wIn_ok h3 h4];decide)]
  unfold stockR
  rw [r0]
  refine stockR_ok rs _ (fun t' ht=>h t' (List.mem_cons_of_mem _ ht)) ?_
  rw [List.append_assoc]
  exact nd
theorem valV_nth{kvs:List (Key×V)}{i:Nat}{k:Key}{v:V}(nd:(kvs.map (·.1)).Nodup)(e:kvs[i]?=some (k,v)):valV kvs k=some v:=by
 induction kvs generalizing i with
 | nil=>rw [List.getElem?_nil]at e;cases e
 | cons p r ih=>
  cases i with
  | zero=>cases e;exact valV_pos rfl
  | succ i=>
   rw [List.map_cons,List.nodup_cons]at nd
   have hm:(k,v)∈r:=List.mem_of_getElem? e
   rw [valV_neg (fun z=>nd.1 (by rw [z];exact List.mem_map_of_mem (f:=(·.1)) hm))]
   exact ih nd.2 e
theorem inr_nodup{ks:List Str}(h:ks.Nodup):(ks.map (Sum.inr:Str→Key)).Nodup:=by
 unfold List.Nodup at *
 rw [List.pairwise_map]
 exact h.imp fun n e=>n (by injection e)
section
variable {K:PySem.W.Frag} {C:Addr} {H H':Hp} {p:Addr} {ts:List Th} {z:Str}
theorem StockAt.has(h:StockAt K C H p ts):∃dx d kvs,H p=some (.ins C dx (flds d))∧H d=some (.dK kvs)∧(kvs.map fun q=>kV q.1)=ts.map (fun t=>V.str t.1)∧(∀z,(valV kvs (Sum.inr z)).isSome=decide (z∈ts.map (·.1)))∧
 ((ts.map (·.1)).Nodup→∀(i:Nat) (t:Th),ts[i]?=some t→∃a,valV kvs (Sum.inr t.1)=some (.ref a)∧SqT K H a [.int i,.int t.2.1,.int t.2.2]):=by
 obtain ⟨dx,d,kvs,h1,h2,h3,h4⟩:=h.ex
 have h3':kvs.map (·.1)=(ts.map (·.1)).map Sum.inr:=by rw [h3,List.map_map];rfl
 refine ⟨dx,d,kvs,h1,h2,?_,fun z=>key_mem h3',fun nd i t e=>?_⟩
 · have:=congrArg (List.map kV) h3
   rw [List.map_map,List.map_map]at this
   exact this
 · obtain ⟨a,e1,e2⟩:=h4 i t e
   exact ⟨a,valV_nth (by rw [h3'];exact inr_nodup nd) e1,e2⟩
end
noncomputable def pick(w:Nat)(i:Nat)(t:Th):Int:=if w=0 then i else if w=1 then t.2.1 else t.2.2
noncomputable def sp_thing(K:PySem.W.Frag)(C U:Addr):Sp:=fun vs H Q E=>∃(p:Addr) (ts:List Th) (z:Str),vs=[.ref p,.str z]∧StockAt K C H p ts∧(ts.map (·.1)).Nodup∧
 (∀(i:Nat) (t:Th),ts[i]?=some t→t.1=z→∀a,SqT K H a [.int i,.int t.2.1,.int t.2.2]→Q (.ref a) H)∧(¬z∈ts.map (·.1)→∀H' x,Same H H'→H x=none→ErrU U H' x (.str z) (.int (-1))→E (.ref U) (some x) H')
noncomputable def sp_tell(w:Nat)(K:PySem.W.Frag)(C U:Addr):Sp:=fun vs H Q E=>∃(p:Addr) (ts:List Th) (z:Str),vs=[.ref p,.str z]∧StockAt K C H p ts∧(ts.map (·.1)).Nodup∧
 (∀(i:Nat) (t:Th),ts[i]?=some t→t.1=z→Q (.int (pick w i t)) H)∧(¬z∈ts.map (·.1)→∀H' x,Same H H'→H x=none→ErrU U H' x (.str z) (.int (-1))→E (.ref U) (some x) H')
noncomputable def sp_nms(K:PySem.W.Frag)(C:Addr):Sp:=fun vs H Q _=>∃(p:Addr) (ts:List Th),vs=[.ref p]∧StockAt K C H p ts∧∀l,H l=none→Q (.ref l) (upd H l (.lst ((ts.map (·.1)).map V.str)))
theorem mem_nth{ts:List Th}{z:Str}(h:z∈ts.map (·.1)):∃(i:Nat) (t:Th),ts[i]?=some t∧t.1=z:=by
 obtain ⟨t,ht,e⟩:=List.mem_map.mp h
 obtain ⟨i,hi⟩:=List.mem_iff_getElem?.mp ht
 exact ⟨i,t,hi,e⟩
end N4
namespace N4
open L2 N1 N5
theorem md_two{j:Nat}:md j=26∨md j=36:=by unfold md;split <;> simp
theorem bc_mod{x y:Int}{j:Nat}(h:bc (x % md j)=bc (y % md j)):x % md j=y % md j:=by
 rcases md_two (j:=j) with hm | hm <;> rw [hm]at h ⊢
 · exact bc_inj (by omega) (by omega) (by omega) (by omega) h
 · exact bc_inj (by omega) (by omega) (by omega) (by omega) h
noncomputable def G2(F:Nat→Int)(at' be:Int)(k:Nat)(j:Nat):Int:=F j+(if (j:Int)=at' then (k:Int) % 26 else 0)+(if (j:Int)=be∧25 < k then (k:Int) / 26 else 0)
theorem tx_nodup{f:Nat→List Nat}{m:Nat}(h:∀a b,a < m→b < m→f a=f b→a=b):((List.range m).map fun k=>tx (f k)).Nodup:=by
 unfold List.Nodup
 rw [List.pairwise_map]
 refine List.Pairwise.imp_of_mem (R:=fun a b=>a≠b) ?_ List.nodup_range
 intro a b ha hb ne e
 exact ne (h a b (List.mem_range.mp ha) (List.mem_range.mp hb) (T_inj e))
structure RowsAt(K:PySem.W.Frag)(H:Hp)(r:Addr)(as:List Addr)(ts:List Th):Prop where
 l:SqL K H r (as.map V.ref)
 n:as.length=ts.length
 m:ts.length≤60
 at_:∀(i:Nat) (a:Addr) (t:Th),as[i]?=some a→ts[i]?=some t→SqT K H a [.str t.1,.int t.2.1,.int t.2.2]
 ok:∀t∈ts,nameB t.1.cps.toList=true∧0≤t.2.1∧t.2.1≤10 ^ 30∧1≤t.2.2∧t.2.2≤1000
 nd:(ts.map (·.1)).Nodup
noncomputable def rwOf(a:Addr)(t:Th):Rw:=(a,.str t.1,.int t.2.1,.int t.2.2)
theorem RowsAt.init{K:PySem.W.Frag}{H:Hp}{r:Addr}{as:List Addr}{ts:List Th}(h:RowsAt K H r as ts):∃rs:List Rw,rs.map (fun t=>V.ref t.1)=as.map V.ref∧(∀t∈rs,SqT K H t.1 [t.2.1,t.2.2.1,t.2.2.2])∧initR rs=none∧rs.map thOf=ts:=by
 have hn:=h.n
 have gt:∀(i:Nat) (x:Addr×Th),(as.zip ts)[i]?=some x→as[i]?=some x.1∧ts[i]?=some x.2:=fun i x e=>by
  rw [List.getElem?_zip_eq_some]at e;exact e
 have e1:((as.zip ts).map fun x=>rwOf x.1 x.2).map thOf=ts:=by
  rw [List.map_map]
  have:(thOf∘fun x:Addr×Th=>rwOf x.1 x.2)=Prod.snd:=by funext x;rfl
  rw [this,List.map_snd_zip (by omega)]
 refine ⟨(as.zip ts).map fun x=>rwOf x.1 x.2,?_,?_,?_,e1⟩
 · rw [List.map_map]
   have:((fun t:Rw=>V.ref t.1)∘fun x:Addr×Th=>rwOf x.1 x.2)=V.ref∘Prod.fst:=by funext x;rfl
   rw [this,← List.map_map,List.map_fst_zip (by omega)]
 · intro t ht
   obtain ⟨x,hx,rfl⟩:=List.mem_map.mp ht
   obtain ⟨i,hi⟩:=List.mem_iff_getElem?.mp hx
   obtain ⟨h1,h2⟩:=gt i x hi
   exact h.at_ i x.1 x.2 h1 h2
 · unfold initR
   rw [if_neg (by rw [List.length_map,List.length_zip];have:=h.m;omega)]
   refine stockR_ok _ _ (fun t ht=>?_) ?_
   · obtain ⟨x,hx,rfl⟩:=List.mem_map.mp ht
     obtain ⟨i,hi⟩:=List.mem_iff_getElem?.mp hx
     obtain ⟨h1,h2⟩:=gt i x hi
     obtain ⟨o1,o2,o3,o4,o5⟩:=h.ok x.2 (List.mem_of_getElem? h2)
     exact ⟨x.2.1,x.2.2.1,x.2.2.2,rfl,rfl,rfl,o1,o2,o3,o4,o5⟩
   · rw [List.nil_append,List.map_map]
     have:((fun t:Rw=>sOf t.2.1)∘fun x:Addr×Th=>rwOf x.1 x.2)=(fun t:Th=>t.1)∘Prod.snd:=by funext x;rfl
     rw [this,← List.map_map,List.map_snd_zip (by omega)]
     exact h.nd
end N4
namespace N6
open L2 N1 N5 N4
noncomputable def sfl(p d:Addr)(n:Int):List (Str×V):=putF "rooms" (.ref d) (putF "places" (.int n) (putF "stock" (.ref p) []))
noncomputable abbrev Ly:=List (Str×Int)
noncomputable def lyK(ls:Ly):List (Key×V):=ls.map fun x=>(Sum.inr x.1,.int x.2)
noncomputable def lyN(ls:Ly):List Str:=ls.map (·.1)
structure ShelfAt(S:Addr)(H:Hp)(q p d:Addr)(n:Int)(ls:Ly):Prop where
 o:∃dx,H q=some (.ins S dx (sfl p d n))
 d:H d=some (.dK (lyK ls))
 nd:(lyN ls).Nodup
structure StockX(K:PySem.W.Frag)(C:Addr)(H:Hp)(p:Addr)(ts:List Th)(d:Addr):Prop where
 ex:∃(dx e:Addr) (kvs:List (Key×V)),e≠d∧H p=some (.ins C dx (flds e))∧H e=some (.dK kvs)∧kvs.map (·.1)=ts.map (fun t=>Sum.inr t.1)∧
  ∀(i:Nat) (t:Th),ts[i]?=some t→∃a,kvs[i]?=some (Sum.inr t.1,.ref a)∧SqT K H a [.int i,.int t.2.1,.int t.2.2]
section
variable {K:PySem.W.Frag} {C S:Addr} {H H':Hp} {p q d:Addr} {ts:List Th} {n:Int} {ls:Ly} {z:Str}
theorem SqL.butD{a:Addr}{xs:List V}{kvs:List (Key×V)}(s:SameBut d H H')(hd:H d=some (.dK kvs))(h:SqL K H a xs):SqL K H' a xs:=by
 rcases h with (h | ⟨o,h⟩) | h
 · exact .inl (.inl (s _ _ h (ne_of h hd (by intro z;cases z))))
 · exact .inl (.inr ⟨o,s _ _ h (ne_of h hd (by intro z;cases z))⟩)
 · exact .inr h
end
noncomputable def Err0(C:Addr)(H':Hp)(x:Addr):Prop:=H' x=some (exO false x C none)
end N6
namespace N6
open L2 N1 N5 N4
theorem inV_strs{z:Str}{ys:List Str}:inV (.str z) (ys.map V.str)=decide (z∈ys):=by
 unfold inV
 induction ys with
 | nil=>rfl
 | cons y ys ih=>
  rw [List.map_cons,List.any_cons,ih,eqV_str]
  by_cases h:y=z
  · subst h;simp
  · have h':¬z=y:=fun e=>h e.symm
    simp [h,h']
theorem in_go{K:PySem.W.Frag}{H:Hp}{p:Addr}{z:Str}{ys:List Str}{Q:VK}(h:SqL K H p (ys.map V.str))(q:Q (.bl (decide (z∈ys))) H):rIn K false (.str z) (.ref p) H Q:=by
 refine ⟨p,_,rfl,.inl h,rfl,all_strs,?_⟩
 rw [if_neg (by decide),inV_strs]
 exact q
theorem both_app:Str.ofString "abcdefghijklmnopqrstuvwxyz"++Str.ofString "0123456789"=Str.ofString "abcdefghijklmnopqrstuvwxyz0123456789":=by decide+kernel
theorem ix_let(i:Int):atI (Str.ofString "abcdefghijklmnopqrstuvwxyz").cps.toList (i % 26)=some (bc (i % 26)):=by
 have h2:=Int.emod_lt_of_pos i (show (0:Int) < 26 by decide)
 have h3:=Int.emod_nonneg i (show (26:Int)≠0 by decide)
 refine atI_of h3 ?_
 have hl:letters.length=26:=by decide
 have h4:(i % 26).toNat < letters.length:=by rw [hl];omega
 unfold bc
 rw [let_list,List.getD_eq_getElem?_getD,List.getElem?_append_left h4,List.getElem?_eq_getElem h4]
 rfl
theorem bc_fig{k:Int}(h0:0≤k)(h1:k < 10):bc (26+k)∈letters++figures:=by
 have:=bc_both (i:=26+k)
 rwa [Int.emod_eq_of_lt (by omega) (by omega)]at this
theorem name_more{l:List Nat}{c:Nat}(h:nameB l=true)(hl:l.length < 8)(hc:c∈letters++figures):nameB (l++[c])=true:=by
 unfold nameB at h ⊢
 simp only [Bool.and_eq_true,decide_eq_true_eq,List.all_eq_true]at h ⊢
 obtain ⟨⟨⟨h1,h2⟩,h3⟩,h4⟩:=h
 refine ⟨⟨⟨by simp,by simp;omega⟩,?_⟩,fun x hx=>?_⟩
 · cases l with
   | nil=>simp at h1
   | cons a r=>exact h3
 · rcases List.mem_append.mp hx with hx | hx
   · exact h4 x hx
   · rw [List.mem_singleton.mp hx];exact hc
theorem nmL_len{F:Nat→Int}{at':Int}{long k:Nat}:(nmL F at' long k).length=long:=by simp [nmL]
theorem nmL_near{F:Nat→Int}{at':Int}{long k k':Nat}(h0:0≤at')(h1:at' < long)(hk:k < k'+26)(hk':k' < k+26)(h:nmL F at' long k=nmL F at' long k'):k=k':=by
 have hl:at'.toNat < long:=by omega
 have e:=congrArg (fun l=>l[at'.toNat]?) h
 simp only [nmL,List.getElem?_map,List.getElem?_range hl,Option.map_some,Option.some.injEq]at e
 unfold sgn at e
 rw [if_pos (by omega),if_pos (by omega)]at e
 have e2:=bc_mod e
 rcases md_two (j:=at'.toNat) with hm | hm <;> rw [hm]at e2 <;> omega
theorem nmL_succ{F:Nat→Int}{at':Int}{j k:Nat}:nmL F at' (j+1) k=nmL F at' j k++[sgn F at' k j]:=by
 unfold nmL
 rw [List.range_succ,List.map_append]
 rfl
noncomputable def nm3(F:Nat→Int)(at':Int)(long k:Nat):List Nat:=nmL F at' long k++if 25 < k then [bc (26+(k:Int) / 26)] else []
theorem nm3_name{F:Nat→Int}{at':Int}{long k:Nat}(h1:1≤long)(h2:long≤8)(h3:25 < k→long≤7)(hk:k < 61):nameB (nm3 F at' long k)=true:=by
 unfold nm3
 split
 · rename_i h
   exact name_more (nmL_name h1 h2) (by rw [nmL_len];have:=h3 h;omega) (bc_fig (by omega) (by omega))
 · rw [List.append_nil];exact nmL_name h1 h2
theorem nm3_inj{F:Nat→Int}{at':Int}{long k k':Nat}(h0:0≤at')(h1:at' < long)(hk:k < 61)(hk':k' < 61)(h:nm3 F at' long k=nm3 F at' long k'):k=k':=by
 have hl:=congrArg List.length h
 unfold nm3 at h hl
 rw [List.length_append,List.length_append,nmL_len,nmL_len]at hl
 obtain ⟨e1,e2⟩:=List.append_inj h (by rw [nmL_len,nmL_len])
 by_cases c1:25 < k
 · by_cases c2:25 < k'
   · rw [if_pos c1,if_pos c2]at e2
     injection e2 with e3
     have e4:=bc_inj (by omega) (by omega) (by omega) (by omega) e3
     exact nmL_near h0 h1 (by omega) (by omega) e1
   · rw [if_pos c1,if_neg c2]at hl;simp at hl
 · by_cases c2:25 < k'
   · rw [if_neg c1,if_pos c2]at hl;simp at hl
   · exact nmL_near h0 h1 (by omega) (by omega) e1
theorem getD_str{ys:List Str}{i:Nat}(h:i < ys.length):ys[i]?=some (ys.getD i Str.empty):=by
 rw [List.getD_eq_getElem?_getD,List.getElem?_eq_getElem h];rfl
theorem getD_int{rs:List Int}{i:Nat}(h:i < rs.length):rs[i]?=some (rs.getD i 0):=by
 rw [List.getD_eq_getElem?_getD,List.getElem?_eq_getElem h];rfl
noncomputable def aOf:V→Addr
 | .ref a=>a
 | _=>0
theorem cut_to(ys:List Str)(m:Nat)(h:m≤ys.length):cutV (ys.map V.str) none (some (m:Int))=(ys.take m).map V.str:=by
 unfold cutV
 rw [← List.map_drop,← List.map_take,List.length_map]
 congr 1
 unfold HT.sIx
 simp only [Option.getD_none,Option.getD_some]
 first
  | (rw [if_neg (show ¬((m:Int) < 0) by omega)];simp;omega)
  | (rw [if_neg (show ¬((m:Int) < 0) by omega)];simp [Nat.min_eq_left h])
end N6
namespace N6
open L2 N1 N5 N4
noncomputable def sp_roomG(K:PySem.W.Frag)(C:Addr):Sp:=fun vs H Q _=>∃(p:Addr) (ts:List Th) (z:Str),vs=[.ref p,.str z]∧StockAt K C H p ts∧(ts.map (·.1)).Nodup∧z∈ts.map (·.1)∧∀(i:Nat) (t:Th),ts[i]?=some t→t.1=z→Q (.int t.2.2) H
end N6
namespace L2
theorem Inv.turned2{X:Cx}{pins:List (Addr×Obj)}{σ:St}{H:Hp}{s:Shared}{h':Heap}{t':Nat}{fp:List Addr}(I:Inv X pins σ H s)(k:∀b o,b∉fp→s.heap.get? b=some o→h'.get? b=some o)(hf:∀it∈fp,FpOk X pins H it):
 Inv X pins σ H {s with heap:=h',toks:=t'}:=by
 have nit:∀b u,H b=some u→b∉fp:=fun b u e z=>by rw [(hf b z).1]at e;cases e
 refine I.step (g':=s.gens) (d':=s.drawn) (ch:=fp) (fun b hb=>?_) (fun b o _ _ hc e _=>k b o hc e) (fun b o _ _ hc e _=>⟨o.slots,k b o hc e⟩) (fun _ _ _ _ n=>n)
  (fun b o hc e=>⟨o,k b o hc e⟩) (fun _ _ e=>e) (fun _ _ _ e=>e) (fun b ps e=>⟨#[],by rw [e];simp⟩) (fun m hm=>?_) (fun b u e=>?_) I.bare
 · obtain ⟨_,h1,_,h2,h3,h4⟩:=hf b hb
   exact ⟨h2,h1,h3,h4⟩
 · obtain ⟨o,es,ep,ho,r⟩:=hm
   exact ⟨o,es,ep,k _ o (fun z=>(hf _ z).2.1 rfl) ho,r⟩
 · refine (I.hok b u e).stay (fun c v hc q=>k c v ?_ q) (fun _ q=>q) fun _ _ q=>q
   rcases hc with z | z
   · rw [z];exact nit b u e
   · exact nit c _ z
noncomputable def Ite(K:PySem.W.Frag)(a:Addr):It:=
 ⟨fun i H=>∃xs x,SqL K H a xs∧xs[i]?=some x,fun i H y H'=>∃t x,y= .ref t∧H t=none∧H'=upd H t (.tup [.int i,x])∧∀xs,SqL K H a xs→xs[i]?=some x,fun i H=>∃xs,SqL K H a xs∧xs.length≤i⟩
noncomputable def tnE(e it a:Addr)(i:Nat)(h:Heap):Prop:=(∃old,IsEnum h e it i old)∧h.IsListIter it a i
theorem turn_enum{P:Program}{w:World}{K:PySem.W.Frag}{es:List Expr}{k:Nat}{pos:Pos}(a e it:Addr)(ne:e≠it):Turn P w K (.Tuple es k pos) (Ite K a) [e,it] e (tnE e it a) where
 mem:=by simp
 obj:=fun i h st b hb=>by
  obtain ⟨⟨old,h1⟩,o,h2,c,d⟩:=st
  have hb:b=e∨b=it:=by simpa using hb
  rcases hb with rfl | rfl
  · exact ⟨_,h1,fun v z=>by cases z⟩
  · exact ⟨o,h2,fun v z=>by rw [d]at z;cases z⟩
 keep:=fun i h h' st kk=>by
  obtain ⟨⟨old,h1⟩,h2⟩:=st
  exact ⟨⟨old,kk e (by simp) _ h1⟩,h2.at fun o q=>kk it (by simp) o q⟩
 item:=by
  intro X hP hw hK hc i pins s σ H E I hf st hg
  subst hP hw hK
  obtain ⟨xs,x,hq,hx⟩:=hg
  obtain ⟨its,rv,p,hz⟩:=I.list hq
  obtain ⟨u,hu,ru⟩:=rv.get hx
  obtain ⟨⟨old,h1⟩,h2⟩:=st
  have hlt:e < s.heap.objs.size:=Heap.lt_size h1
  have hit:it < s.heap.objs.size:=by obtain ⟨o,q,_⟩:=id h2;exact Heap.lt_size q
  refine wpAny_pyNext_enum_item h1 h2 p.isList (x:=u) (by simpa using hu) ne fun h' eo it' ht hs hk=>?_
  refine ⟨_,rfl,wpAny_letOwnedTupleGo_enum (s:={s with heap:=h',toks:=s.toks+1}) eo fun h3 e3 sb=>?_⟩
  have hf0:H s.heap.objs.size=none:=I.hok.fresh (Nat.le_refl _)
  have nt:∀b∈[e,it],b≠s.heap.objs.size:=fun b hb=>by
   have hb:b=e∨b=it:=by simpa using hb
   rcases hb with rfl | rfl
   · exact Nat.ne_of_lt hlt
   · exact Nat.ne_of_lt hit
  have I0:Inv X pins σ (upd H s.heap.objs.size (.tup [.int i,x])) {s with heap:=s.heap.push {cls:= .type "tuple",data:= .seq #[.int i s.toks,u]},toks:=s.toks+1}:=
   I.laid (fun b u e=>Heap.get?_push_of_some _ e) (Nat.le_refl _) ⟨by simp [sizeLine];try decide,[.int i s.toks,u],.cons ⟨_,rfl⟩ (.cons ru .nil),⟨_,Heap.get?_push_size _ rfl,rfl,_,rfl⟩⟩
  have hfp:∀b∈[e,it],FpOk X pins (upd H s.heap.objs.size (.tup [.int i,x])) b:=fun b hb=>by
   obtain ⟨f0,f1,f2,f3,f4,f5⟩:=hf b hb
   exact ⟨by rw [upd_ne (nt b hb)];exact f0,f1,f2,f3,f4,f5⟩
  have I1:Inv X pins σ (upd H s.heap.objs.size (.tup [.int i,x])) {s with heap:=h3,toks:=s.toks+1}:=by
   refine Inv.turned2 (s:={s with heap:=s.heap.push {cls:= .type "tuple",data:= .seq #[.int i s.toks,u]},toks:=s.toks+1}) (t':=s.toks+1) I0 (fun b o hb q=>?_) hfp
   have hb':b≠e∧b≠it:=by simpa using hb
   refine (sb.2 b hb'.1).trans ?_
   rcases Heap.get?_push_cases q with ⟨rfl,rfl⟩ | q2
   · exact ht
   · exact hk b o hb'.1 hb'.2 q2
  refine ⟨.ref s.heap.objs.size,upd H s.heap.objs.size (.tup [.int i,x]),I1,rfl,⟨_,x,rfl,hf0,rfl,fun ys hy=>by rw [I.list_inj hy hq];exact hx⟩,⟨⟨u,?_⟩,?_⟩,fun b hb=>(hfp b hb).1⟩
  · show IsEnum h3 e it ((i+1:Nat):Int) u
    rw [show ((i+1:Nat):Int)=(i:Int)+1 from rfl]
    exact e3
  · exact it'.at fun o q=>(sb.2 it (Ne.symm ne)).trans q
 done:=by
   intro X hP hw hK hc i pins s σ H E I hf st hg
   subst hP hw hK
   obtain ⟨xs,hq,hx⟩:=hg
   obtain ⟨its,rv,p,hz⟩:=I.list hq
   obtain ⟨⟨old,h1⟩,h2⟩:=st
   have hl:=rv.length
   exact wpAny_pyNext_enum_end (I.ok.hd hc) h1 h2 p.isList (by simp;omega) fun h' eb=>⟨rfl,Inv.turned2 (t':=s.toks) I (fun b o hb q=>eb b o (fun z=>hb (by simp [z])) q) hf⟩
 self:=fun _ _ _ _ _ st h=>wpAny_pyIter_enum st.1.choose_spec h
section
variable {X:Cx}
noncomputable def iEnum(K:PySem.W.Frag)(ta:TA):TI:=fun σ H R=>ta σ H fun vs H1=>∃a,vs=[.ref a]∧(∃xs,SqL K H1 a xs)∧R (Ite K a) H1
theorem pi_enum{l:Expr}{ta:TA}{p pos pp:Pos}{es:List Expr}{k:Nat}(hg:Gl X "enumerate")(hm:X.mg "enumerate"=none)(ha:PA X [l] ta)(hs:starEach [l] X.env=[(false,eval l X.env)]:=by rfl):PI X (.Tuple es k pp) (.Call (.Name "enumerate" p) [l] [] pos) (iEnum X.K ta):=by
 intro pins s σ H R I h
 refine Call_ (ld_blt I hg hm boot_enumerate (PyProof.Rows.callWith_type1 (thn (ha pos pins s σ H _ I h) fun us s1 ⟨vs,H1,I1,r1,q1⟩=>?_) hs rfl))
 obtain ⟨a,e,⟨xs,hq⟩,q⟩:=q1
 subst e
 cases r1 with
 | cons r rr=>
  cases rr
  cases r
  obtain ⟨its,rv,p',hz⟩:=I1.list hq
  refine call_enumerate_list p'.isList fun h' h1 h2 h3 h4=>?_
  refine wpAny_pyIter_enum h1 ?_
  refine ⟨_,[s1.heap.objs.size+1,s1.heap.objs.size],_,_,H1,rfl,I1.kept (t':=s1.toks) h4,turn_enum a _ _ (Nat.succ_ne_self _),⟨⟨_,h1⟩,h2⟩,fun b hb=>?_,q⟩
  have hb:b=s1.heap.objs.size+1∨b=s1.heap.objs.size:=by simpa using hb
  rcases hb with rfl | rfl
  · exact I1.fpOk (Nat.le_succ _) (I1.hok.fresh (Nat.le_succ _))
  · exact I1.fpOk (Nat.le_refl _) (I1.hok.fresh (Nat.le_refl _))
end
section
variable {K:PySem.W.Frag} {σ:St} {H:Hp} {D:Ends}
theorem rd_ienum{ta:TA}{R:It→Hp→Prop}:iEnum K ta σ H R=ta σ H fun vs H1=>∃a,vs=[.ref a]∧(∃xs,SqL K H1 a xs)∧R (Ite K a) H1:=rfl
theorem forE_by{a:Addr}{xs:List V}{g:TG}{tb:TS}(Pv:Nat→St→Hp→Prop)(h0:Pv 0 σ H)(hl:∀i σ H,i≤xs.length→Pv i σ H→SqL K H a xs)
 (hs:∀i x σ H t,xs[i]?=some x→Pv i σ H→H t=none→g (.ref t) σ (upd H t (.tup [.int i,x])) fun σ2 H2=>tb {D with nx:=Pv (i+1),ct:=Pv (i+1),bk:=D.nx} σ2 H2) (hd:∀σ H,Pv xs.length σ H→D.nx σ H):ForTail g tb D σ (Ite K a) H:=by
 refine ⟨fun i m σ H=>i≤xs.length∧m=xs.length - i∧Pv i σ H,⟨_,Nat.zero_le _,rfl,h0⟩,fun i m σ H ⟨hi,hm,hP⟩=>?_⟩
 have hq:=hl i σ H hi hP
 cases hx:xs[i]? with
 | none=>
  have hn:xs.length≤i:=by simpa using hx
  have e:i=xs.length:=Nat.le_antisymm hi hn
  subst e
  exact .inl ⟨⟨xs,hq,Nat.le_refl _⟩,hd σ H hP⟩
 | some x=>
  have hlt:i < xs.length:=(List.getElem?_eq_some_iff.mp hx).1
  refine .inr ⟨⟨xs,x,hq,hx⟩,Pv (i+1),fun σ' H' h=>⟨xs.length - (i+1),by omega,by omega,rfl,h⟩,?_⟩
  rintro y H' ⟨t,x',rfl,ht,rfl,hy⟩
  have e:=(hy xs hq).symm.trans hx
  cases e
  exact hs i x σ H t hx hP ht
end
end L2
namespace L2
noncomputable abbrev tComp1I(wi:TI)(fs:List Nat)(tt:Blk→TT)(te:Blk→TE):TE:=tComp wi 1 fs (fun _=>gName 0) tt te
noncomputable abbrev g2(K:PySem.W.Frag):Blk→TG:=fun _=>gTup K 2 (gCons (gName 0) (gCons (gName 1) gNil))
section
variable {K:PySem.W.Frag} {tail:St} {tt:Blk→TT} {te:Blk→TE} {Q:VK} {H1:Hp} {σ:St} {H:Hp}
theorem rd_compI{wi:TI}{fs:List Nat}:tComp1I wi fs tt te σ H Q=wi σ H (CompTail (none::fs.map fun j=>σ.getD j none) (fun _=>gName 0) tt te Q):=rfl
theorem same_put{H H':Hp}{p:Addr}{o:HO}(s:Same H H')(h:H p=none):Same H (upd H' p o):=fun b u e=>by
 rw [upd_ne (ne_of_none e h)];exact s b u e
theorem compL_if{a:Addr}{xs:List V}(p:V→Bool)(f:V→V)(hS:SqL K H1 a xs)(hz:xs.length≤sizeLine)(ht:∀b x H QT,x∈xs→Same H1 H→(∀H',Same H H'→QT (p x) H')→tt b (some x::tail) H QT)
 (he:∀b x H Q',x∈xs→p x=true→Same H1 H→(∀H',Same H H'→Q' (f x) H')→te b (some x::tail) H Q')
 (q:∀D H',H1 D=none→Same H1 H'→H' D=some (.lst ((xs.filter p).map f))→Q (.ref D) H'):CompTail (none::tail) (fun _=>gName 0) tt te Q (Itl K a) H1:=by
 intro b D hD
 refine ⟨fun i m ys H=>m=xs.length - i∧i≤xs.length∧ys=((xs.take i).filter p).map f∧H D=some (.lst ys)∧Same H1 H,⟨_,rfl,Nat.zero_le _,rfl,upd_same,same_new hD⟩,?_⟩
 rintro i m ys H ⟨rfl,hi,rfl,hd,sm⟩
 refine ⟨hd,?_⟩
 by_cases hlt:i < xs.length
 · refine .inr ⟨⟨xs,xs[i],sm.seq hS,by simp [hlt]⟩,fun x H3 ⟨e3,ex⟩=>⟨kept0,?_⟩⟩
   subst e3
   have hx:=ex xs (sm.seq hS)
   have hm:=List.mem_of_getElem? hx
   have hl:(((xs.take i).filter p).map f).length≤i:=by
    rw [List.length_map];exact Nat.le_trans (List.length_filter_le _ _) (by rw [List.length_take];omega)
   refine ht b x _ _ hm sm fun H7 s7=>?_
   have htk:(xs.take (i+1)).filter p=(xs.take i).filter p++[x].filter p:=by rw [List.take_add_one,hx,List.filter_append];rfl
   by_cases hp:p x=true
   · rw [if_pos hp]
     refine he b x H7 _ hm hp (sm.trans s7) fun H8 s8=>?_
     have hd8:=(s7.trans s8) _ _ hd
     refine ⟨hd8,by omega,xs.length - (i+1),by omega,rfl,hlt,?_,upd_same,same_put ((sm.trans s7).trans s8) hD⟩
     rw [htk,List.filter_cons_of_pos hp,List.filter_nil,List.map_append];rfl
   · rw [if_neg hp]
     refine ⟨xs.length - (i+1),by omega,rfl,hlt,?_,s7 _ _ hd,sm.trans s7⟩
     rw [htk,List.filter_cons_of_neg hp,List.filter_nil,List.append_nil]
 · have e:i=xs.length:=by omega
   subst e
   refine .inl ⟨⟨xs,sm.seq hS,Nat.le_refl _⟩,q D H hD sm ?_⟩
   rw [hd,List.take_length]
end
end L2
namespace L2
section
variable {X:Cx}
noncomputable def rInsert0:V→List V→Hp→VK→Prop:=fun x vs H Q=>∃l xs y,x= .ref l∧vs=[.int 0,y]∧H l=some (.lst xs)∧xs.length < sizeLine∧Q .non (upd H l (.lst (y::xs)))
theorem mt_insert:MtM X "list.insert" rInsert0:=by
 intro pins s σ H x vs v us Q I rx rv h
 obtain ⟨l,xs,y,rfl,rfl,hH,hz,q⟩:=h
 cases rx
 cases rv with
 | cons r0 rr=>
  obtain ⟨t0,rfl⟩:=r0
  obtain ⟨u,rfl,ru⟩:=Vals.one rr
  obtain ⟨z,its,n,r,hl,e⟩:=I.lstM hH
  refine call_meets F.slot_list_insert ⟨_,e,rfl⟩ F.entry_list_insert (F.args_list_insert_3 _ _ _) (AutoSeq1.list_insert_list_int_val_1 l its.toArray n 0 t0 u (by decide) (by rw [List.size_toArray];omega)) ⟨e,?_⟩
  refine ⟨.non,_,I.lset (its':=u::its) hH e ?_ (.cons ru r) ?_,rfl,q⟩
  · simp
  · rw [List.length_cons];omega
theorem rd_insert{x:V}{vs:List V}{H:Hp}{Q:VK}:rInsert0 x vs H Q=∃l xs y,x= .ref l∧vs=[.int 0,y]∧H l=some (.lst xs)∧xs.length < sizeLine∧Q .non (upd H l (.lst (y::xs))):=rfl
end
end L2
namespace L2
section
variable {X:Cx} {scope:Scope} {x y v:Str} {px py pt pv':Pos} {n i:Nat} {fs:List Nat} {elt iter c:Expr} {pos spos:Pos} {wi:TI} {tt:Blk→TT} {te:Blk→TE}
theorem ps_compI(x:Str)(fs:List Nat)(hN:X.N.Nodup)(hy:X.N[i]?=some v)(hyl:X.env.kindOf v=some .local)(hc:X.calm=true)(hok:compOkB X.N X.env.scope scope [x] fs=true)(hi:PI X (.Name x px) iter wi)(ht:∀b,PT (X.blk scope ([x]++around X.N fs) b) c (tt b))(he:∀b,PE (X.blk scope ([x]++around X.N fs) b) elt (te b))
 (hsw:swapsWith (.ListComp elt [⟨.Name x px,iter,[c],0⟩] scope pos) (some (.Name v pv')) spos.line X.env=pure true:=by rfl)
 (hs:∀x,foldedSetIterable iter X.env x=pure x:=by intro _;rfl):PS X (.Assign [.Name v pv'] (.ListComp elt [⟨.Name x px,iter,[c],0⟩] scope pos) spos) (tAsg (tComp1I wi fs tt te) (gName i)):=
 ps_comp (xs:=[x]) (g:=fun _=>gName 0) (tt:=tt) hN hy hyl hc hok hi (pg_own hok) (fun b=>pts_one (ht b)) he hsw hs
end
end L2
namespace N08
open PySem PySem.Builtin PySem.Builtin.Str PySem.StrLaws
open PySem.NumText
end N08
namespace L2
open N1 N5
theorem eqV_self{x:V}(h:flatV x=true):eqV x x=true:=by
 cases x with
 | non=>rfl
 | bl b=>cases b <;> rfl
 | int i=>exact beq_self_eq_true i
 | str z=>rw [eqV_str];simp
 | _=>cases h
section
variable {K:PySem.W.Frag} {tail:St} {te:Blk→TE} {Q:VK} {H1:Hp}
noncomputable def OffL(P:V→Hp→Prop):Prop:=∀y H H' l zs,P y H→H l=some (.lst zs)→SameBut l H H'→P y H'
theorem compL_mk{a:Addr}{xs:List V}(P:Nat→V→Hp→Prop)(G:Nat→Prop)(hP:∀i,OffL (P i))(hS:SqL K H1 a xs)(hz:xs.length≤sizeLine)
 (he:∀b i x H Q',xs[i]?=some x→Same H1 H→(∀j,j < i→G j)→(∀y H',Same H H'→P i y H'→G i→Q' y H')→te b (some x::tail) H Q')
 (q:∀D ys H',H1 D=none→Same H1 H'→H' D=some (.lst ys)→ys.length=xs.length→(∀i y,ys[i]?=some y→P i y H')→(∀j,j < xs.length→G j)→Q (.ref D) H'):CompTail (none::tail) (fun _=>gName 0) (fun _=>tYes) te Q (Itl K a) H1:=by
 refine comp_by xs.length (fun b D hD=>⟨fun i ys H=>i≤xs.length∧ys.length=i∧H D=some (.lst ys)∧Same H1 H∧(∀j y,ys[j]?=some y→P j y H)∧∀j,j < i→G j,⟨Nat.zero_le _,rfl,upd_same,same_new hD,fun j y e=>by simp at e,fun j h=>absurd h (Nat.not_lt_zero j)⟩,?_,?_,?_⟩)
 · rintro i ys H ⟨hi,_,h,_⟩
   exact h
 · rintro ys H ⟨_,hl,h,sm,hall,hg⟩
   exact ⟨⟨xs,sm.seq hS,Nat.le_refl _⟩,q D ys H hD sm h hl hall hg⟩
 · rintro i ys H hi ⟨_,hl,h,sm,hall,hg⟩
   refine ⟨⟨xs,xs[i],sm.seq hS,by simp [hi]⟩,fun x H3 ⟨e3,ex⟩=>?_⟩
   subst e3
   refine he b i x _ _ (ex xs (sm.seq hS)) sm hg fun y H4 sm4 py gi=>?_
   have h4:=sm4 _ _ h
   have sb:SameBut D H4 (upd H4 D (.lst (ys++[y]))):=sameBut_upd
   refine compNext h4 (by omega) hi ⟨hi,by rw [List.length_append,hl];rfl,upd_same,fun c o e=>?_,fun j y' e=>?_,fun j hj=>?_⟩
   · rw [upd_ne (ne_of_none e hD)];exact sm4 _ _ (sm _ _ e)
   · by_cases hj:j < ys.length
     · rw [List.getElem?_append_left hj]at e
       exact hP j _ _ _ _ _ (hall j y' e) h fun c o e n=>by rw [upd_ne n];exact sm4 _ _ e
     · rw [List.getElem?_append_right (by omega)]at e
       have hj0:j=i:=by have:=(List.getElem?_eq_some_iff.mp e).1;simp at this;omega
       subst hj0
       rw [show j - ys.length=0 by omega]at e
       cases e
       exact hP j _ _ _ _ _ py h4 sb
   · by_cases e:j=i
     · rw [e];exact gi
     · exact hg j (by omega)
end
end L2
namespace N8
open L2 N1 N5 N08
inductive Pc where
 | line | num | ok (t:Th)
inductive R8 where
 | line | num | st (e:StE) | ok (ts:List Th)
end N8
namespace L2
noncomputable abbrev g3(K:PySem.W.Frag):Blk→TG:=fun _=>gTup K 3 (gCons (gName 0) (gCons (gName 1) (gCons (gName 2) gNil)))
end L2
namespace N12
open L2 N1 N5 N4 N6
noncomputable def sp12_names:Sp:=fun vs H Q _=>∃(i:Int) (m:Nat),vs=[.int i,.int m]∧m≤26∧∀(p:Addr) (ys:List Str) (H':Hp),H p=none→Same H H'→H' p=some (.lst (ys.map V.str))→ys.length≤m→m≤ys.length→ys.Nodup→(∀y∈ys,nameB y.cps.toList=true)→Q (.ref p) H'
theorem nodup_set{ys:List Str}{z:Str}(nd:ys.Nodup)(h:z∉ys)(j:Nat):(ys.set j z).Nodup:=by
 induction ys generalizing j with
 | nil=>exact nd
 | cons a ys ih=>
  rw [List.nodup_cons]at nd
  have h1:z≠a:=fun e=>h (by rw [e];exact List.mem_cons_self)
  have h2:z∉ys:=fun e=>h (List.mem_cons_of_mem _ e)
  cases j with
  | zero=>exact List.nodup_cons.mpr ⟨h2,nd.2⟩
  | succ j=>
   refine List.nodup_cons.mpr ⟨fun e=>?_,ih nd.2 h2 j⟩
   rcases List.mem_or_eq_of_mem_set e with e | e
   · exact nd.1 e
   · exact h1 e.symm
theorem ixN_at{n k:Nat}(h:k < n):ixN n (k:Int)=some k:=by
 unfold ixN
 rw [if_pos (by omega),if_pos (by omega)]
 simp
theorem seven:(Str.ofString "7").cps.toList=[55]∧(Str.ofString "7").length=1:=by decide+kernel
noncomputable def rmOf(ts:List Th)(z:Str):Int:=match ts.find? (fun t=>decide (t.1=z)) with
 | some t=>t.2.2
 | none=>0
end N12
namespace L2
open PySem.W
noncomputable def rSumL(K:PySem.W.Frag):List V→Hp→VK→Prop:=fun xs H Q=>∃(p:Addr) (is:List Int),xs=[.ref p]∧SqL K H p (is.map V.int)∧Q (.int is.sum) H
noncomputable def rGetL(K:PySem.W.Frag):V→V→Hp→VK→Prop:=fun o i H Q=>∃(p:Addr) (xs:List V) (k:Nat) (v:V),o= .ref p∧i= .int k∧SqL K H p xs∧xs[k]?=some v∧Q v H
theorem preSum_is(is:List Int):preSum (fun i=>is.getD i 0) is.length=is.sum:=by
 have key:∀n,n≤is.length→preSum (fun i=>is.getD i 0) n=(is.take n).sum:=by
  intro n
  induction n with
  | zero=>intro _;rfl
  | succ n ih=>
   intro h
   have e:is.take (n+1)=is.take n++[is.getD n 0]:=by
    rw [List.take_add_one,List.getD_eq_getElem?_getD,List.getElem?_eq_getElem (by omega)]
    rfl
   rw [preSum,ih (by omega),e,List.sum_append]
   simp
 have:=key is.length (Nat.le_refl _)
 rwa [List.take_length]at this
section
variable {X:Cx}
theorem call_sumL(hc:X.calm=true):CallR X (.builtin "sum") (rSumL X.K):=by
 intro pins s σ H xs us Q I r h
 obtain ⟨p,is,rfl,hp,q⟩:=h
 obtain ⟨u,rfl,ru⟩:=vals1 r
 cases ru
 obtain ⟨its,r,pl,hz⟩:=I.list hp
 have hlt:p < s.heap.objs.size:=by obtain ⟨o,n,e,_⟩:=pl;exact Heap.lt_size e
 have hlen:=r.length
 rw [List.length_map]at hlen
 refine call_sum_walkAnyS (wpAny_pyIter_list pl.isList ⟨s.heap.objs.size,_,_,_,_,_,_,fun i=>is.getD i 0,rfl,(Walks.list (show X.A.in1.handled=none from I.ok.hd hc) s.heap.objs.size p (Nat.ne_of_lt hlt) its.toArray).toS,⟨⟨_,Heap.get?_push_size _ rfl,rfl,rfl⟩,pl.isList.push _⟩,fun b hb=>?_,fun i v hP=>?_,fun s' t' hmv=>?_⟩)
 · show b < (s.heap.push _).objs.size
   rw [Heap.size_push]
   rcases List.mem_cons.mp hb with e | hb
   · rw [e];exact Nat.lt_succ_self _
   · rw [List.mem_singleton.mp hb];exact Nat.lt_succ_of_lt hlt
 · have hP:its.toArray[i]?=some v:=hP
   have hi:i < is.length:=by
    have:=(Array.getElem?_eq_some_iff.mp hP).1
    rw [List.size_toArray]at this
    omega
   obtain ⟨u,hu,ru⟩:=r.get (i:=i) (x:=V.int (is[i])) (by simp [hi])
   have e:u=v:=by
    have:its[i]?=some v:=by simpa using hP
    rw [hu]at this;exact Option.some.inj this
   subst e
   show ∃t,u=Value.int (is.getD i 0) t
   rw [List.getD_eq_getElem?_getD,List.getElem?_eq_getElem hi]
   exact ru
 · have hk:∀b o,s.heap.get? b=some o→s'.heap.get? b=some o:=fun b o e=>
    hmv.heap b o (fun hI=>absurd (Heap.lt_size e) (by rw [List.mem_singleton.mp hI];exact Nat.lt_irrefl _)) (Heap.get?_push_of_some _ e)
   rw [Moved.eq_with hmv]
   refine ⟨.int is.sum,H,I.kept (t':=s'.toks) hk,⟨t',?_⟩,q⟩
   rw [List.size_toArray,← hlen,preSum_is]
theorem get_list:PGet X (rGetL X.K):=by
 intro pins s σ H o i ov iv Q I ro ri h
 obtain ⟨p,xs,k,v,rfl,rfl,hq,he,q⟩:=h
 cases ro
 obtain ⟨t,rfl⟩:=ri
 obtain ⟨its,r,pl,hz⟩:=I.list hq
 obtain ⟨w,ew,rw'⟩:=r.get he
 have hl:=r.length
 have hn:=line63
 have hk:=(List.getElem?_eq_some_iff.mp he).1
 exact wpAny_getItem_list pl.isList (by omega) (by omega) (by simpa using ew) ⟨v,H,I,rw',q⟩
end
section
variable {σ:St} {H:Hp} {Q:VK} {D:Ends} {K:PySem.W.Frag} {xs:List V} {x y:V}
theorem rd_sumL:rSumL K xs H Q=∃(p:Addr) (is:List Int),xs=[.ref p]∧SqL K H p (is.map V.int)∧Q (.int is.sum) H:=rfl
theorem rd_augS{to ti te:TE}{tget:V→V→Hp→VK→Prop}{tip:TIp}{tset:TSet}:tAugS to ti te tget tip tset D σ H=to σ H fun o H1=>ti σ H1 fun i H2=>tget o i H2 fun x H3=>te σ H3 fun y H4=>tip x y H4 fun z H5=>tset o i z H5 fun H6=>D.nx σ H6:=rfl
theorem rd_ipI{f:Int→Int→Int}:ipI f x y H Q=∃i j,x= .int i∧y= .int j∧Q (.int (f i j)) H:=rfl
end
end L2
namespace N31
open L2 N1 N5
noncomputable def fldN(l:Addr):List (Str×V):=putF "numbers" (.ref l) []
structure SumsAt(C:Addr)(H:Hp)(p l:Addr)(is:List Int):Prop where
 o:∃dx,H p=some (.ins C dx (fldN l))
 l:H l=some (.lst (is.map V.int))
end N31
namespace N71
open L2 N1 N5 N4 N6 N12
theorem putF_len{f:Str}{v:V}:∀{fs:List (Str×V)},(fs.lookup f).isSome=true→(putF f v fs).length=fs.length:=by
 intro fs
 induction fs with
 | nil=>intro h;cases h
 | cons p r ih=>
  obtain ⟨g,x⟩:=p
  intro h
  by_cases e:g=f
  · subst e;simp [putF]
  · have h2:(r.lookup f).isSome=true:=by
     rw [List.lookup_cons]at h
     rw [show (f==g)=false from beq_false_of_ne (fun z=>e z.symm)]at h
     exact h
    have:=ih h2
    simp [putF,e,this]
theorem valV_drop_same(kvs:List (Key×V))(k:Key):valV (dropK kvs k) k=none:=by
 induction kvs with
 | nil=>rfl
 | cons p r ih=>
  by_cases e:p.1=k
  · have:dropK (p::r) k=dropK r k:=by unfold dropK;rw [List.filter_cons_of_neg (by simp [e])]
    rw [this];exact ih
  · have:dropK (p::r) k=p::dropK r k:=by unfold dropK;rw [List.filter_cons_of_pos (by simp [e])]
    rw [this,valV_neg e];exact ih
theorem valV_dropK{kvs:List (Key×V)}{k j:Key}(n:j≠k):valV (dropK kvs k) j=valV kvs j:=by
 induction kvs with
 | nil=>rfl
 | cons p r ih=>
  by_cases e:p.1=k
  · have h1:dropK (p::r) k=dropK r k:=by unfold dropK;rw [List.filter_cons_of_neg (by simp [e])]
    rw [h1,ih,valV_neg (fun z=>n (by rw [← z,e]))]
  · have h1:dropK (p::r) k=p::dropK r k:=by unfold dropK;rw [List.filter_cons_of_pos (by simp [e])]
    rw [h1]
    by_cases e2:p.1=j
    · rw [valV_pos e2,valV_pos e2]
    · rw [valV_neg e2,valV_neg e2];exact ih
theorem dropK_ls(kvs:List (Key×V))(k:Key):(dropK kvs k).length≤kvs.length:=dropK_le kvs k
structure TwA where
 st:Addr
 si:Addr
 ro:Addr
 he:Addr
 la:Addr
 so:Addr
 en:Addr
 fi:Addr
structure Tfs(x:TwA)(pd:Int)(fs:List (Str×V)):Prop where
 st:fs.lookup (Str.ofString "stock")=some (.ref x.st)
 si:fs.lookup (Str.ofString "sizes")=some (.ref x.si)
 ro:fs.lookup (Str.ofString "row")=some (.ref x.ro)
 he:fs.lookup (Str.ofString "held")=some (.ref x.he)
 la:fs.lookup (Str.ofString "late")=some (.ref x.la)
 so:fs.lookup (Str.ofString "store")=some (.ref x.so)
 en:fs.lookup (Str.ofString "entries")=some (.ref x.en)
 fi:fs.lookup (Str.ofString "finds")=some (.ref x.fi)
 pd:fs.lookup (Str.ofString "paid")=some (.int pd)
 n:fs.length < 500
 m:∀m∈[Str.ofString "levels",Str.ofString "stored",Str.ofString "shelf_of",Str.ofString "fetch",Str.ofString "come",Str.ofString "fall_off",Str.ofString "write",Str.ofString "settle",Str.ofString "read",Str.ofString "keep",Str.ofString "rest",Str.ofString "ahead",Str.ofString "diary",Str.ofString "found",Str.ofString "spent"],fs.lookup m=none
theorem Tfs.paid{x:TwA}{pd pd':Int}{fs:List (Str×V)}(h:Tfs x pd fs):Tfs x pd' (putF (Str.ofString "paid") (.int pd') fs):=by
 have k:∀g,g≠Str.ofString "paid"→(putF (Str.ofString "paid") (.int pd') fs).lookup g=fs.lookup g:=fun g n=>by rw [lookup_putF,if_neg n]
 refine ⟨?_,?_,?_,?_,?_,?_,?_,?_,by rw [lookup_putF,if_pos rfl],?_,?_⟩
 · rw [k _ (by decide+kernel)];exact h.st
 · rw [k _ (by decide+kernel)];exact h.si
 · rw [k _ (by decide+kernel)];exact h.ro
 · rw [k _ (by decide+kernel)];exact h.he
 · rw [k _ (by decide+kernel)];exact h.la
 · rw [k _ (by decide+kernel)];exact h.so
 · rw [k _ (by decide+kernel)];exact h.en
 · rw [k _ (by decide+kernel)];exact h.fi
 · rw [putF_len (by rw [h.pd];rfl)];exact h.n
 · intro m hm
   have hne:∀m∈[Str.ofString "levels",Str.ofString "stored",Str.ofString "shelf_of",Str.ofString "fetch",Str.ofString "come",Str.ofString "fall_off",Str.ofString "write",Str.ofString "settle",Str.ofString "read",Str.ofString "keep",Str.ofString "rest",Str.ofString "ahead",Str.ofString "diary",Str.ofString "found",Str.ofString "spent"],m≠Str.ofString "paid":=by decide+kernel
   rw [k _ (hne m hm)];exact h.m m hm
theorem Tfs.late{x:TwA}{pd:Int}{l:Addr}{fs:List (Str×V)}(h:Tfs x pd fs):Tfs {x with la:=l} pd (putF (Str.ofString "late") (.ref l) fs):=by
 have k:∀g,g≠Str.ofString "late"→(putF (Str.ofString "late") (.ref l) fs).lookup g=fs.lookup g:=fun g n=>by rw [lookup_putF,if_neg n]
 refine ⟨?_,?_,?_,?_,by rw [lookup_putF,if_pos rfl],?_,?_,?_,?_,?_,?_⟩
 · rw [k _ (by decide+kernel)];exact h.st
 · rw [k _ (by decide+kernel)];exact h.si
 · rw [k _ (by decide+kernel)];exact h.ro
 · rw [k _ (by decide+kernel)];exact h.he
 · rw [k _ (by decide+kernel)];exact h.so
 · rw [k _ (by decide+kernel)];exact h.en
 · rw [k _ (by decide+kernel)];exact h.fi
 · rw [k _ (by decide+kernel)];exact h.pd
 · rw [putF_len (by rw [h.la];rfl)];exact h.n
 · intro m hm
   have hne:∀m∈[Str.ofString "levels",Str.ofString "stored",Str.ofString "shelf_of",Str.ofString "fetch",Str.ofString "come",Str.ofString "fall_off",Str.ofString "write",Str.ofString "settle",Str.ofString "read",Str.ofString "keep",Str.ofString "rest",Str.ofString "ahead",Str.ofString "diary",Str.ofString "found",Str.ofString "spent"],m≠Str.ofString "late":=by decide+kernel
   rw [k _ (hne m hm)];exact h.m m hm
structure TwS where
 zs:List Int
 R:List Str
 kh:List (Key×V)
 kl:List (Key×V)
 ks:List (Key×V)
 es:List V
 ff:List Int
 pd:Int
structure TwAt(C:Addr)(H:Hp)(t:Addr)(x:TwA)(s:TwS):Prop where
 o:∃dx fs,H t=some (.ins C dx fs)∧Tfs x s.pd fs
 si:H x.si=some (.lst (s.zs.map V.int))
 ro:H x.ro=some (.lst (s.R.map V.str))
 he:H x.he=some (.dK s.kh)
 la:H x.la=some (.dK s.kl)
 so:H x.so=some (.dK s.ks)
 en:H x.en=some (.lst s.es)
 fi:H x.fi=some (.lst (s.ff.map V.int))
 d1:x.he≠x.la
 d2:x.he≠x.so
 d3:x.la≠x.so
 l1:x.ro≠x.si
 l2:x.ro≠x.en
 l3:x.ro≠x.fi
 l4:x.si≠x.en
 l5:x.si≠x.fi
 l6:x.en≠x.fi
theorem TwAt.same{C:Addr}{H H':Hp}{t:Addr}{x:TwA}{s:TwS}(m:Same H H')(h:TwAt C H t x s):TwAt C H' t x s:=by
 obtain ⟨dx,fs,h1,h2⟩:=h.o
 exact ⟨⟨dx,fs,m _ _ h1,h2⟩,m _ _ h.si,m _ _ h.ro,m _ _ h.he,m _ _ h.la,m _ _ h.so,m _ _ h.en,m _ _ h.fi,h.d1,h.d2,h.d3,h.l1,h.l2,h.l3,h.l4,h.l5,h.l6⟩
noncomputable def own(t:Addr)(x:TwA):List Addr:=[t,x.ro,x.he,x.la,x.so,x.en,x.fi]
noncomputable def Off(L:List Addr)(H H':Hp):Prop:=∀b o,H b=some o→b∉L→H' b=some o
theorem Off.trans{L:List Addr}{H H1 H2:Hp}(a:Off L H H1)(b:Off L H1 H2):Off L H H2:=fun c o e n=>b c o (a c o e n) n
theorem Off.of{L:List Addr}{H H1:Hp}(s:Same H H1):Off L H H1:=fun c o e _=>s c o e
theorem Off.put{L:List Addr}{H:Hp}{b:Addr}{o:HO}(h:b∈L):Off L H (upd H b o):=fun c u e n=>by
 rw [upd_ne (fun z=>n (by rw [z];exact h))];exact e
section
variable {C:Addr} {H:Hp} {t:Addr} {x:TwA} {s:TwS}
theorem TwAt.nt(h:TwAt C H t x s){b:Addr}{u:HO}(e:H b=some u)(n:∀C dx fs,u≠ .ins C dx fs):t≠b:=by
 obtain ⟨dx,fs,h1,_⟩:=h.o
 exact fun z=>by rw [← z,h1]at e;cases e;exact n _ _ _ rfl
theorem TwAt.row(h:TwAt C H t x s)(R:List Str):TwAt C (upd H x.ro (.lst (R.map V.str))) t x {s with R:=R}:=by
 obtain ⟨dx,fs,h1,h2⟩:=h.o
 have nt:=h.nt h.ro (by intro _ _ _ z;cases z)
 refine ⟨⟨dx,fs,by rw [upd_ne nt];exact h1,h2⟩,by rw [upd_ne h.l1.symm];exact h.si,upd_same,?_,?_,?_,by rw [upd_ne h.l2.symm];exact h.en,by rw [upd_ne h.l3.symm];exact h.fi,h.d1,h.d2,h.d3,h.l1,h.l2,h.l3,h.l4,h.l5,h.l6⟩
 · rw [upd_ne (ne_of h.he h.ro (by intro z;cases z))];exact h.he
 · rw [upd_ne (ne_of h.la h.ro (by intro z;cases z))];exact h.la
 · rw [upd_ne (ne_of h.so h.ro (by intro z;cases z))];exact h.so
theorem TwAt.held(h:TwAt C H t x s)(k:List (Key×V)):TwAt C (upd H x.he (.dK k)) t x {s with kh:=k}:=by
 obtain ⟨dx,fs,h1,h2⟩:=h.o
 have nt:=h.nt h.he (by intro _ _ _ z;cases z)
 refine ⟨⟨dx,fs,by rw [upd_ne nt];exact h1,h2⟩,?_,?_,upd_same,by rw [upd_ne h.d1.symm];exact h.la,by rw [upd_ne h.d2.symm];exact h.so,?_,?_,h.d1,h.d2,h.d3,h.l1,h.l2,h.l3,h.l4,h.l5,h.l6⟩
 · rw [upd_ne (ne_of h.si h.he (by intro z;cases z))];exact h.si
 · rw [upd_ne (ne_of h.ro h.he (by intro z;cases z))];exact h.ro
 · rw [upd_ne (ne_of h.en h.he (by intro z;cases z))];exact h.en
 · rw [upd_ne (ne_of h.fi h.he (by intro z;cases z))];exact h.fi
theorem TwAt.late(h:TwAt C H t x s)(k:List (Key×V)):TwAt C (upd H x.la (.dK k)) t x {s with kl:=k}:=by
 obtain ⟨dx,fs,h1,h2⟩:=h.o
 have nt:=h.nt h.la (by intro _ _ _ z;cases z)
 refine ⟨⟨dx,fs,by rw [upd_ne nt];exact h1,h2⟩,?_,?_,by rw [upd_ne h.d1];exact h.he,upd_same,by rw [upd_ne h.d3.symm];exact h.so,?_,?_,h.d1,h.d2,h.d3,h.l1,h.l2,h.l3,h.l4,h.l5,h.l6⟩
 · rw [upd_ne (ne_of h.si h.la (by intro z;cases z))];exact h.si
 · rw [upd_ne (ne_of h.ro h.la (by intro z;cases z))];exact h.ro
 · rw [upd_ne (ne_of h.en h.la (by intro z;cases z))];exact h.en
 · rw [upd_ne (ne_of h.fi h.la (by intro z;cases z))];exact h.fi
theorem TwAt.store(h:TwAt C H t x s)(k:List (Key×V)):TwAt C (upd H x.so (.dK k)) t x {s with ks:=k}:=by
 obtain ⟨dx,fs,h1,h2⟩:=h.o
 have nt:=h.nt h.so (by intro _ _ _ z;cases z)
 refine ⟨⟨dx,fs,by rw [upd_ne nt];exact h1,h2⟩,?_,?_,by rw [upd_ne h.d2];exact h.he,by rw [upd_ne h.d3];exact h.la,upd_same,?_,?_,h.d1,h.d2,h.d3,h.l1,h.l2,h.l3,h.l4,h.l5,h.l6⟩
 · rw [upd_ne (ne_of h.si h.so (by intro z;cases z))];exact h.si
 · rw [upd_ne (ne_of h.ro h.so (by intro z;cases z))];exact h.ro
 · rw [upd_ne (ne_of h.en h.so (by intro z;cases z))];exact h.en
 · rw [upd_ne (ne_of h.fi h.so (by intro z;cases z))];exact h.fi
theorem TwAt.entry(h:TwAt C H t x s)(k:List V):TwAt C (upd H x.en (.lst k)) t x {s with es:=k}:=by
 obtain ⟨dx,fs,h1,h2⟩:=h.o
 have nt:=h.nt h.en (by intro _ _ _ z;cases z)
 refine ⟨⟨dx,fs,by rw [upd_ne nt];exact h1,h2⟩,by rw [upd_ne h.l4];exact h.si,by rw [upd_ne h.l2];exact h.ro,?_,?_,?_,upd_same,by rw [upd_ne h.l6.symm];exact h.fi,h.d1,h.d2,h.d3,h.l1,h.l2,h.l3,h.l4,h.l5,h.l6⟩
 · rw [upd_ne (ne_of h.he h.en (by intro z;cases z))];exact h.he
 · rw [upd_ne (ne_of h.la h.en (by intro z;cases z))];exact h.la
 · rw [upd_ne (ne_of h.so h.en (by intro z;cases z))];exact h.so
theorem TwAt.find(h:TwAt C H t x s)(k:List Int):TwAt C (upd H x.fi (.lst (k.map V.int))) t x {s with ff:=k}:=by
 obtain ⟨dx,fs,h1,h2⟩:=h.o
 have nt:=h.nt h.fi (by intro _ _ _ z;cases z)
 refine ⟨⟨dx,fs,by rw [upd_ne nt];exact h1,h2⟩,by rw [upd_ne h.l5];exact h.si,by rw [upd_ne h.l3];exact h.ro,?_,?_,?_,by rw [upd_ne h.l6];exact h.en,upd_same,h.d1,h.d2,h.d3,h.l1,h.l2,h.l3,h.l4,h.l5,h.l6⟩
 · rw [upd_ne (ne_of h.he h.fi (by intro z;cases z))];exact h.he
 · rw [upd_ne (ne_of h.la h.fi (by intro z;cases z))];exact h.la
 · rw [upd_ne (ne_of h.so h.fi (by intro z;cases z))];exact h.so
end
theorem TwAt.paid{C:Addr}{H:Hp}{t:Addr}{x:TwA}{s:TwS}(h:TwAt C H t x s){dx:Addr}{fs:List (Str×V)}(ho:H t=some (.ins C dx fs))(hf:Tfs x s.pd fs)(n:Int):TwAt C (upd H t (.ins C dx (putF (Str.ofString "paid") (.int n) fs))) t x {s with pd:=n}:=by
 have nt:∀(b:Addr) (u:HO),H b=some u→(∀C dx fs,u≠ .ins C dx fs)→b≠t:=fun b u e k=>(h.nt e k).symm
 refine ⟨⟨dx,_,upd_same,hf.paid⟩,?_,?_,?_,?_,?_,?_,?_,h.d1,h.d2,h.d3,h.l1,h.l2,h.l3,h.l4,h.l5,h.l6⟩
 · rw [upd_ne (nt _ _ h.si (by intro _ _ _ z;cases z))];exact h.si
 · rw [upd_ne (nt _ _ h.ro (by intro _ _ _ z;cases z))];exact h.ro
 · rw [upd_ne (nt _ _ h.he (by intro _ _ _ z;cases z))];exact h.he
 · rw [upd_ne (nt _ _ h.la (by intro _ _ _ z;cases z))];exact h.la
 · rw [upd_ne (nt _ _ h.so (by intro _ _ _ z;cases z))];exact h.so
 · rw [upd_ne (nt _ _ h.en (by intro _ _ _ z;cases z))];exact h.en
 · rw [upd_ne (nt _ _ h.fi (by intro _ _ _ z;cases z))];exact h.fi
theorem TwAt.newLate{C:Addr}{H:Hp}{t:Addr}{x:TwA}{s:TwS}(h:TwAt C H t x s){dx:Addr}{fs:List (Str×V)}(ho:H t=some (.ins C dx fs))(hf:Tfs x s.pd fs){l:Addr}(hl:H l=none):TwAt C (upd (upd H l (.dK [])) t (.ins C dx (putF (Str.ofString "late") (.ref l) fs))) t {x with la:=l} {s with kl:=[]}:=by
 have m:Same H (upd H l (.dK [])):=Same.new hl
 have ntl:l≠t:=(ne_of_none ho hl).symm
 have nt:∀(b:Addr) (u:HO),H b=some u→(∀C dx fs,u≠ .ins C dx fs)→b≠t:=fun b u e k=>(h.nt e k).symm
 refine ⟨⟨dx,_,upd_same,hf.late⟩,?_,?_,?_,by rw [upd_ne ntl];exact upd_same,?_,?_,?_,ne_of_none h.he hl,h.d2,(ne_of_none h.so hl).symm,h.l1,h.l2,h.l3,h.l4,h.l5,h.l6⟩
 · rw [upd_ne (nt _ _ h.si (by intro _ _ _ z;cases z))];exact m _ _ h.si
 · rw [upd_ne (nt _ _ h.ro (by intro _ _ _ z;cases z))];exact m _ _ h.ro
 · rw [upd_ne (nt _ _ h.he (by intro _ _ _ z;cases z))];exact m _ _ h.he
 · rw [upd_ne (nt _ _ h.so (by intro _ _ _ z;cases z))];exact m _ _ h.so
 · rw [upd_ne (nt _ _ h.en (by intro _ _ _ z;cases z))];exact m _ _ h.en
 · rw [upd_ne (nt _ _ h.fi (by intro _ _ _ z;cases z))];exact m _ _ h.fi
noncomputable def lateV(kl:List (Key×V)):V→Bool
 | .str y=>(valV kl (Sum.inr y)).isSome
 | _=>false
theorem filt_late(R:List Str)(kl:List (Key×V)):((R.map V.str).filter (lateV kl)).map (fun v=>v)=(R.filter fun y=>(valV kl (Sum.inr y)).isSome).map V.str:=by
 rw [List.map_id',List.filter_map];rfl
structure StockT(K:PySem.W.Frag)(S:Addr)(H:Hp)(p:Addr)(ts:List Th)(L:List Addr):Prop where
 ex:∃(dx d:Addr) (kvs:List (Key×V)),H p=some (.ins S dx (flds d))∧H d=some (.dK kvs)∧p∉L∧d∉L∧kvs.map (·.1)=ts.map (fun t=>Sum.inr t.1)∧
  ∀(i:Nat) (t:Th),ts[i]?=some t→∃a,kvs[i]?=some (Sum.inr t.1,.ref a)∧((Rd H a (.tup [.int i,.int t.2.1,.int t.2.2])∧a∉L)∨∀H',SqT K H' a [.int i,.int t.2.1,.int t.2.2])
theorem StockT.at{K:PySem.W.Frag}{S:Addr}{H:Hp}{p:Addr}{ts:List Th}{L:List Addr}(h:StockT K S H p ts L):StockAt K S H p ts:=by
 obtain ⟨dx,d,kvs,h1,h2,_,_,h3,h4⟩:=h.ex
 refine ⟨dx,d,kvs,h1,h2,h3,fun i t e=>?_⟩
 obtain ⟨a,e1,e2 | e2⟩:=h4 i t e
 · exact ⟨a,e1,.inl e2.1⟩
 · exact ⟨a,e1,e2 H⟩
theorem StockT.off{K:PySem.W.Frag}{S:Addr}{H H':Hp}{p:Addr}{ts:List Th}{L:List Addr}(o:Off L H H')(h:StockT K S H p ts L):StockT K S H' p ts L:=by
 obtain ⟨dx,d,kvs,h1,h2,n1,n2,h3,h4⟩:=h.ex
 refine ⟨dx,d,kvs,o _ _ h1 n1,o _ _ h2 n2,n1,n2,h3,fun i t e=>?_⟩
 obtain ⟨a,e1,⟨e2,n⟩ | e2⟩:=h4 i t e
 · refine ⟨a,e1,.inl ⟨?_,n⟩⟩
   rcases e2 with h | ⟨ob,h⟩
   · exact .inl (o _ _ h n)
   · exact .inr ⟨ob,o _ _ h n⟩
 · exact ⟨a,e1,.inr e2⟩
theorem StockT.mono{K:PySem.W.Frag}{S:Addr}{H:Hp}{p:Addr}{ts:List Th}{L L':List Addr}(m:∀b∈L',b∈L∨H b=none)(h:StockT K S H p ts L):StockT K S H p ts L':=by
 obtain ⟨dx,d,kvs,h1,h2,n1,n2,h3,h4⟩:=h.ex
 have k:∀(b:Addr) (u:HO),H b=some u→b∉L→b∉L':=fun b u e n z=>by
  rcases m b z with h | h
  · exact n h
  · rw [h]at e;cases e
 refine ⟨dx,d,kvs,h1,h2,k _ _ h1 n1,k _ _ h2 n2,h3,fun i t e=>?_⟩
 obtain ⟨a,e1,⟨e2,n⟩ | e2⟩:=h4 i t e
 · refine ⟨a,e1,.inl ⟨e2,?_⟩⟩
   rcases e2 with h | ⟨ob,h⟩
   · exact k _ _ h n
   · exact k _ _ h n
 · exact ⟨a,e1,.inr e2⟩
theorem StockT.of{K:PySem.W.Frag}{S:Addr}{H:Hp}{p:Addr}{ts:List Th}(h:StockAt K S H p ts):StockT K S H p ts []:=by
 obtain ⟨dx,d,kvs,h1,h2,h3,h4⟩:=h.ex
 refine ⟨dx,d,kvs,h1,h2,List.not_mem_nil,List.not_mem_nil,h3,fun i t e=>?_⟩
 obtain ⟨a,e1,e2⟩:=h4 i t e
 rcases e2 with e2 | e2
 · exact ⟨a,e1,.inl ⟨e2,List.not_mem_nil⟩⟩
 · exact ⟨a,e1,.inr fun _=> .inr e2⟩
theorem Off.mono{L L':List Addr}{H H':Hp}(m:∀b∈L,b∈L')(o:Off L H H'):Off L' H H':=fun b u e n=>o b u e fun z=>n (m b z)
structure TwL(s:TwS)(B:Nat)(hd:Str→Prop):Prop where
 h:∀y,hd y→∃i:Int,valV s.kh (Sum.inr y)=some (.int i)
 l:∀y,(valV s.kl (Sum.inr y)).isSome=true→hd y
 st:∀y v,valV s.ks (Sum.inr y)=some v→∃i:Int,v= .int i
 n1:s.kh.length≤B
 n2:s.kl.length≤B
 n3:s.ks.length≤B
 n4:s.es.length≤B
 b:B≤100000
theorem TwL.iff{s:TwS}{B B':Nat}{p q:Str→Prop}(h:TwL s B p)(e:∀u,p u↔q u)(hB:B≤B')(hb:B'≤100000):TwL s B' q:=
 ⟨fun y hy=>h.h y ((e y).mpr hy),fun y hy=>(e y).mp (h.l y hy),h.st,Nat.le_trans h.n1 hB,Nat.le_trans h.n2 hB,Nat.le_trans h.n3 hB,Nat.le_trans h.n4 hB,hb⟩
theorem mem_come{R:List Str}{z u:Str}:u∈z::R.erase z↔u∈R∨u=z:=by
 rw [List.mem_cons]
 constructor
 · rintro (h | h)
   · exact .inr h
   · exact .inl (List.mem_of_mem_erase h)
 · rintro (h | h)
   · by_cases e:u=z
     · exact .inl e
     · exact .inr ((List.mem_erase_of_ne e).mpr h)
   · exact .inl h
theorem nd_come{R:List Str}{z:Str}(nd:R.Nodup):(z::R.erase z).Nodup:=List.nodup_cons.mpr ⟨nd.not_mem_erase,nd.erase z⟩
theorem drop_last{R1:List Str}{S:Nat}(nd:R1.Nodup)(hl:R1.length=S+1):∃y,R1[R1.length - 1]?=some y∧R1.dropLast=R1.take S∧y∈R1∧∀u,u∈R1.dropLast↔u∈R1∧u≠y:=by
 have hS:S < R1.length:=by omega
 have e1:R1.dropLast=R1.take S:=by rw [List.dropLast_eq_take,show R1.length - 1=S by omega]
 have e2:R1=R1.take S++[R1[S]]:=by
  have:=List.take_append_drop S R1
  rw [List.drop_eq_getElem_cons hS,List.drop_eq_nil_of_le (by omega)]at this
  exact this.symm
 refine ⟨R1[S],by rw [show R1.length - 1=S by omega,List.getElem?_eq_getElem hS],e1,List.getElem_mem hS,fun u=>?_⟩
 rw [e1]
 have nd2:(R1.take S++[R1[S]]).Nodup:=by rw [← e2];exact nd
 have nin:R1[S]∉R1.take S:=fun h=>(List.nodup_append.mp nd2).2.2 _ h _ List.mem_cons_self rfl
 constructor
 · intro h
   exact ⟨List.mem_of_mem_take h,fun e=>nin (by rw [← e];exact h)⟩
 · rintro ⟨h1,h2⟩
   rw [e2]at h1
   rcases List.mem_append.mp h1 with h | h
   · exact h
   · exact absurd (List.mem_singleton.mp h) h2
noncomputable def lvl:List Int→List Str→Nat→List Str
 | [],_,_=>[]
 | z::_,R,0=>R.take z.toNat
 | z::zs,R,i+1=>lvl zs (R.drop z.toNat) i
noncomputable def pre(zs:List Int)(i:Nat):Int:=(zs.take i).sum
theorem pre_nn{zs:List Int}(h:∀z∈zs,1≤z)(i:Nat):0≤pre zs i:=by
 unfold pre
 induction zs generalizing i with
 | nil=>simp
 | cons a l ih=>
  cases i with
  | zero=>simp
  | succ i=>
   have h1:=h a List.mem_cons_self
   have h2:=ih (fun z hz=>h z (List.mem_cons_of_mem _ hz)) i
   rw [List.take_succ_cons,List.sum_cons];omega
theorem pre_succ{zs:List Int}{i:Nat}(h:i < zs.length):pre zs (i+1)=pre zs i+zs.getD i 0:=by
 unfold pre
 rw [List.take_add_one,List.getElem?_eq_getElem h,List.sum_append,List.getD_eq_getElem?_getD,List.getElem?_eq_getElem h]
 simp
theorem lvl_is{zs:List Int}(h:∀z∈zs,1≤z):∀{R:List Str} {i:Nat},i < zs.length→lvl zs R i=(R.drop (pre zs i).toNat).take (zs.getD i 0).toNat:=by
 induction zs with
 | nil=>intro R i hi;cases hi
 | cons a l ih=>
  intro R i hi
  cases i with
  | zero=>simp [lvl,pre]
  | succ i=>
   have h1:=h a List.mem_cons_self
   have h2:=pre_nn (zs:=l) (fun z hz=>h z (List.mem_cons_of_mem _ hz)) i
   have e:pre (a::l) (i+1)=a+pre l i:=by unfold pre;rw [List.take_succ_cons,List.sum_cons]
   show lvl l (R.drop a.toNat) i=_
   rw [ih (fun z hz=>h z (List.mem_cons_of_mem _ hz)) (by simpa using hi),e,List.drop_drop,show a.toNat+(pre l i).toNat=(a+pre l i).toNat by omega]
   rfl
theorem lvl_sub{zs:List Int}:∀{R:List Str} {i:Nat} {u:Str},u∈lvl zs R i→u∈R:=by
 induction zs with
 | nil=>intro R i u h;cases h
 | cons a l ih=>
  intro R i u h
  cases i with
  | zero=>exact List.mem_of_mem_take h
  | succ i=>exact List.mem_of_mem_drop (ih (R:=R.drop a.toNat) h)
theorem lvl_all{zs:List Int}(h:∀z∈zs,1≤z):∀{R:List Str} {u:Str},(R.length:Int)≤zs.sum→u∈R→∃i,i < zs.length∧u∈lvl zs R i:=by
 induction zs with
 | nil=>
  intro R u hs hu
  have:R.length=0:=by simp at hs;simp [hs]
  rw [List.length_eq_zero_iff.mp this]at hu
  cases hu
 | cons a l ih=>
  intro R u hs hu
  have h1:=h a List.mem_cons_self
  rw [List.sum_cons]at hs
  have h3:0≤l.sum:=by
   have:=pre_nn (zs:=l) (fun z hz=>h z (List.mem_cons_of_mem _ hz)) l.length
   unfold pre at this
   rw [List.take_length]at this
   exact this
  rw [← List.take_append_drop a.toNat R]at hu
  rcases List.mem_append.mp hu with hu | hu
  · exact ⟨0,by simp,hu⟩
  · obtain ⟨i,hi,hui⟩:=ih (fun z hz=>h z (List.mem_cons_of_mem _ hz)) (R:=R.drop a.toNat) (by rw [List.length_drop];omega) hu
    exact ⟨i+1,by simpa using hi,hui⟩
theorem cut_gen(xs:List V)(a b:Nat)(h:a≤b):cutV xs (some (a:Int)) (some (b:Int))=(xs.drop a).take (b - a):=by
 unfold cutV
 rw [HT.sIx_nat,HT.sIx_nat]
 by_cases h1:a≤xs.length
 · rw [Nat.min_eq_left h1]
   by_cases h2:b≤xs.length
   · rw [Nat.min_eq_left h2]
   · rw [Nat.min_eq_right (by omega),List.take_of_length_le (by rw [List.length_drop];exact Nat.le_refl _),List.take_of_length_le (by rw [List.length_drop];omega)]
 · rw [Nat.min_eq_right (by omega),Nat.min_eq_right (by omega),Nat.sub_self,List.take_zero,List.drop_eq_nil_of_le (by omega),List.take_nil]
theorem cut_lvl{zs:List Int}{R:List Str}{i:Nat}(h:∀z∈zs,1≤z∧z≤1000000)(hi:i < zs.length):cutV (R.map V.str) (some (pre zs i)) (some (pre zs i+zs.getD i 0))=(lvl zs R i).map V.str:=by
 have h0:=pre_nn (fun z hz=>(h z hz).1) i
 have hz:=h _ (List.mem_of_getElem? (getD_int hi))
 rw [lvl_is (fun z hz=>(h z hz).1) hi]
 have e1:pre zs i=((pre zs i).toNat:Int):=by omega
 have e2:pre zs i+zs.getD i 0=(((pre zs i).toNat+(zs.getD i 0).toNat:Nat):Int):=by omega
 have:=cut_gen (R.map V.str) (pre zs i).toNat ((pre zs i).toNat+(zs.getD i 0).toNat) (by omega)
 rw [← e1,← e2]at this
 rw [this,show (pre zs i).toNat+(zs.getD i 0).toNat - (pre zs i).toNat=(zs.getD i 0).toNat by omega,← List.map_drop,← List.map_take]
noncomputable def LvAt(H:Hp)(as:List Addr)(zs:List Int)(R:List Str)(n:Nat):Prop:=as.length=n∧∀(i:Nat) (a:Addr),as[i]?=some a→H a=some (.lst ((lvl zs R i).map V.str))
theorem LvAt.same{H H':Hp}{as:List Addr}{zs:List Int}{R:List Str}{n:Nat}(s:Same H H')(h:LvAt H as zs R n):LvAt H' as zs R n:=⟨h.1,fun i a e=>s _ _ (h.2 i a e)⟩
noncomputable def sp71_tell(w:Nat)(K:PySem.W.Frag)(C:Addr):Sp:=fun vs H Q _=>∃(p:Addr) (ts:List Th) (z:Str),vs=[.ref p,.str z]∧StockAt K C H p ts∧(ts.map (·.1)).Nodup∧z∈ts.map (·.1)∧∀(i:Nat) (t:Th),ts[i]?=some t→t.1=z→Q (.int (pick w i t)) H
noncomputable def sp71_levels(C:Addr):Sp:=fun vs H Q _=>∃(t:Addr) (x:TwA) (s:TwS),vs=[.ref t]∧TwAt C H t x s∧s.zs.length≤6∧(∀z∈s.zs,1≤z∧z≤1000000)∧
 ∀(p:Addr) (as:List Addr) (H':Hp),H p=none→Same H H'→H' p=some (.lst (as.map V.ref))→LvAt H' as s.zs s.R s.zs.length→(∀a∈as,H a=none)→as.Nodup→p∉as→Q (.ref p) H'
structure Tow(K:PySem.W.Frag)(C S:Addr)(H:Hp)(t:Addr)(x:TwA)(s:TwS)(ts:List Th)(B:Nat):Prop where
 tw:TwAt C H t x s
 sk:StockT K S H x.st ts (own t x)
 l:TwL s B (fun y=>y∈s.R)
 nd:s.R.Nodup
 rs:(s.R.length:Int)≤s.zs.sum
 z1:1≤s.zs.length
 zl:s.zs.length≤6
 zz:∀z∈s.zs,1≤z∧z≤1000000
 rn:∀y∈s.R,y∈ts.map (·.1)
 tn:(ts.map (·.1)).Nodup
 tl:ts.length≤59
 ff:s.ff.length=s.zs.length+1
theorem Tow.rl{K:PySem.W.Frag}{C S:Addr}{H:Hp}{t:Addr}{x:TwA}{s:TwS}{ts:List Th}{B:Nat}(h:Tow K C S H t x s ts B):s.R.length≤59:=by
 have h1:=List.Nodup.length_le_of_subset h.nd (fun y hy=>h.rn y hy)
 rw [List.length_map]at h1
 exact Nat.le_trans h1 h.tl
theorem Tow.s1{K:PySem.W.Frag}{C S:Addr}{H:Hp}{t:Addr}{x:TwA}{s:TwS}{ts:List Th}{B:Nat}(h:Tow K C S H t x s ts B):1≤s.zs.sum:=by
 have h1:=h.z1
 have h2:=h.zz
 cases e:s.zs with
 | nil=>rw [e]at h1;cases h1
 | cons a l=>
  rw [e]at h2
  have h3:=h2 a List.mem_cons_self
  have h4:=pre_nn (zs:=l) (fun z hz=>(h2 z (List.mem_cons_of_mem _ hz)).1) l.length
  unfold pre at h4
  rw [List.take_length]at h4
  rw [List.sum_cons];omega
theorem Tow.same{K:PySem.W.Frag}{C S:Addr}{H H':Hp}{t:Addr}{x:TwA}{s:TwS}{ts:List Th}{B:Nat}(m:Same H H')(h:Tow K C S H t x s ts B):Tow K C S H' t x s ts B:=
 ⟨h.tw.same m,h.sk.off (.of m),h.l,h.nd,h.rs,h.z1,h.zl,h.zz,h.rn,h.tn,h.tl,h.ff⟩
noncomputable def cameR(z:Str)(s:TwS):List Str:=(z::s.R.erase z).take s.zs.sum.toNat
theorem tow_came{K:PySem.W.Frag}{C S:Addr}{H H':Hp}{t:Addr}{x:TwA}{s s':TwS}{ts:List Th}{B B':Nat}{z:Str}(h:Tow K C S H t x s ts B)(hz:z∈ts.map (·.1))(o:Off (own t x) H H')(hT:TwAt C H' t x s')(eR:s'.R=cameR z s)(eZ:s'.zs=s.zs)(hL:TwL s' B' (fun y=>y∈s'.R))(hF:s'.ff.length=s.zs.length+1):Tow K C S H' t x s' ts B':=by
 have hs1:=h.s1
 refine ⟨hT,h.sk.off o,hL,?_,?_,by rw [eZ];exact h.z1,by rw [eZ];exact h.zl,by rw [eZ];exact h.zz,fun y hy=>?_,h.tn,h.tl,by rw [eZ];exact hF⟩
 · rw [eR];exact (nd_come h.nd).sublist (List.take_sublist _ _)
 · rw [eR,eZ];unfold cameR;rw [List.length_take];omega
 · rw [eR]at hy
   rcases mem_come.mp (List.mem_of_mem_take hy) with h1 | h1
   · exact h.rn y h1
   · rw [h1];exact hz
theorem step_new{H1 Hk:Hp}{t l C dx:Addr}{fs:List (Str×V)}{o:HO}{f:Str}(sb:SameBut t H1 Hk)(ht:Hk t=some (.ins C dx fs))(hl:Hk l=none):
 SameBut t H1 (upd (upd Hk l o) t (.ins C dx (putF f (.ref l) fs)))∧upd (upd Hk l o) t (.ins C dx (putF f (.ref l) fs)) t=some (.ins C dx (putF f (.ref l) fs))∧upd (upd Hk l o) t (.ins C dx (putF f (.ref l) fs)) l=some o∧
  (∀b u,Hk b=some u→b≠t→upd (upd Hk l o) t (.ins C dx (putF f (.ref l) fs)) b=some u)∧H1 l=none∧l≠t∧(∀b u,Hk b=some u→b≠l):=by
 have ntl:l≠t:=(ne_of_none ht hl).symm
 have kp:∀b u,Hk b=some u→b≠t→upd (upd Hk l o) t (.ins C dx (putF f (.ref l) fs)) b=some u:=fun b u e n=>by
  rw [upd_ne n,upd_ne (ne_of_none e hl)];exact e
 refine ⟨fun b u e n=>kp b u (sb b u e n) n,upd_same,by rw [upd_ne ntl];exact upd_same,kp,?_,ntl,fun b u e=>ne_of_none e hl⟩
 cases q:H1 l with
 | none=>rfl
 | some u=>rw [sb _ _ q ntl]at hl;cases hl
theorem putF_le{f:Str}{v:V}{fs:List (Str×V)}{k:Nat}(h:fs.length≤k):(putF f v fs).length≤k+1:=Nat.le_trans (length_putF f v fs) (Nat.succ_le_succ h)
noncomputable def f1(x:TwA):List (Str×V):=putF (Str.ofString "sizes") (.ref x.si) (putF (Str.ofString "stock") (.ref x.st) [])
noncomputable def f3(x:TwA):List (Str×V):=putF (Str.ofString "late") (.ref x.la) (putF (Str.ofString "held") (.ref x.he) (putF (Str.ofString "row") (.ref x.ro) (f1 x)))
noncomputable def f6(x:TwA):List (Str×V):=putF (Str.ofString "paid") (.int 0) (putF (Str.ofString "finds") (.ref x.fi) (putF (Str.ofString "entries") (.ref x.en) (putF (Str.ofString "store") (.ref x.so) (f3 x))))
theorem tfs_init(x:TwA):Tfs x 0 (f6 x):=by
 unfold f6 f3 f1
 refine ⟨?_,?_,?_,?_,?_,?_,?_,?_,?_,?_,?_⟩
 case refine_10=>exact Nat.lt_of_le_of_lt (putF_le (putF_le (putF_le (putF_le (putF_le (putF_le (putF_le (putF_le (putF_le (Nat.le_refl _)))))))))) (by decide)
 case refine_11=>
  intro m hm
  have hne:∀m∈[Str.ofString "levels",Str.ofString "stored",Str.ofString "shelf_of",Str.ofString "fetch",Str.ofString "come",Str.ofString "fall_off",Str.ofString "write",Str.ofString "settle",Str.ofString "read",Str.ofString "keep",Str.ofString "rest",Str.ofString "ahead",Str.ofString "diary",Str.ofString "found",Str.ofString "spent"],m≠Str.ofString "paid"∧m≠Str.ofString "finds"∧m≠Str.ofString "entries"∧m≠Str.ofString "store"∧m≠Str.ofString "late"∧m≠Str.ofString "held"∧m≠Str.ofString "row"∧m≠Str.ofString "sizes"∧m≠Str.ofString "stock":=by decide+kernel
  obtain ⟨h1,h2,h3,h4,h5,h6,h7,h8,h9⟩:=hne m hm
  rw [lookup_putF,if_neg h1,lookup_putF,if_neg h2,lookup_putF,if_neg h3,lookup_putF,if_neg h4,lookup_putF,if_neg h5,lookup_putF,if_neg h6,lookup_putF,if_neg h7,lookup_putF,if_neg h8,lookup_putF,if_neg h9]
  rfl
 all_goals repeat first | (rw [lookup_putF,if_pos rfl];done) | rw [lookup_putF,if_neg (by decide+kernel)]
theorem StockT.ins{K:PySem.W.Frag}{S C:Addr}{H:Hp}{p t dx:Addr}{ts:List Th}{L:List Addr}(ht:H t=some (.ins C dx []))(h:StockT K S H p ts L):StockT K S H p ts (t::L):=by
 obtain ⟨dy,d,kvs,h1,h2,n1,n2,h3,h4⟩:=h.ex
 have k:∀(b:Addr) (u:HO),H b=some u→u≠ .ins C dx []→b∉L→b∉t::L:=fun b u e ne n z=>by
  rcases List.mem_cons.mp z with h | h
  · rw [h,ht]at e;cases e;exact ne rfl
  · exact n h
 refine ⟨dy,d,kvs,h1,h2,k _ _ h1 (by intro z;injection z with _ _ z;cases z) n1,k _ _ h2 (by intro z;cases z) n2,h3,fun i t' e=>?_⟩
 obtain ⟨a,e1,⟨e2,n⟩ | e2⟩:=h4 i t' e
 · refine ⟨a,e1,.inl ⟨e2,?_⟩⟩
   rcases e2 with h | ⟨ob,h⟩
   · exact k _ _ h (by intro z;cases z) n
   · exact k _ _ h (by intro z;cases z) n
 · exact ⟨a,e1,.inr e2⟩
theorem rep0(n:Nat):(List.replicate ((n:Int)+1).toNat [V.int 0]).flatten=(List.replicate (n+1) (0:Int)).map V.int:=by
 rw [show ((n:Int)+1).toNat=n+1 by omega,List.map_replicate,List.flatten_replicate_singleton]
end N71
namespace L2
noncomputable def tOr2(t1 t2:TE):TE:=fun σ H Q=>t1 σ H Q∨t2 σ H Q
theorem pe_or2{X:Cx}{e:Expr}{t1 t2:TE}(h1:PE X e t1)(h2:PE X e t2):PE X e (tOr2 t1 t2):=fun pins s σ H Q I h=>h.elim (h1 pins s σ H Q I) (h2 pins s σ H Q I)
theorem rd_or2{t1 t2:TE}{σ:St}{H:Hp}{Q:VK}:tOr2 t1 t2 σ H Q=(t1 σ H Q∨t2 σ H Q):=rfl
end L2
namespace L2
section
variable {K:PySem.W.Frag} {σ:St} {H:Hp} {D:Ends} {Q:VK}
theorem rd_pop{x:V}{vs:List V}:rPop x vs H Q=∃l xs y,x= .ref l∧vs=[]∧H l=some (.lst xs)∧xs[xs.length - 1]?=some y∧Q y (upd H l (.lst xs.dropLast)):=rfl
theorem rd_fldaug{ta tv:TE}{rd:V→V→Hp→VK→Prop}{f:Str}:sFldAug K ta tv rd f D σ H=ta σ H fun x H1=>∃a C dx fs v,x= .ref a∧H1 a=some (.ins C dx fs)∧Cls K C∧NoAttr K C f∧fs.lookup f=some v∧
 tv σ H1 fun y H2=>rd v y H2 fun z H3=>∃dx' fs',H3 a=some (.ins C dx' fs')∧fs'.length < 1000∧D.nx σ (upd H3 a (.ins C dx' (putF f z fs'))):=rfl
theorem rd_aug{i:Nat}{te:TE}{ti:TIp}:tAug i te ti D σ H=∃x,σ[i]?=some (some x)∧te σ H fun y H1=>ti x y H1 fun z H2=>D.nx (σ.set i (some z)) H2:=rfl
end
end L2
namespace L2
open N1 N5
noncomputable def LikeLL(K:PySem.W.Frag)(H:Hp)(x y:V):Prop:=∃(a b:Addr) (as bs:List Addr),x= .ref a∧y= .ref b∧SqL K H a (as.map V.ref)∧SqL K H b (bs.map V.ref)∧as.length=bs.length∧∀(i:Nat) (p q:Addr),as[i]?=some p→bs[i]?=some q→∃xs,SqL K H p xs∧SqL K H q xs∧xs.all flatV=true
noncomputable def rNeLL(K:PySem.W.Frag):R2:=fun x y H Q=>LikeLL K H x y∧Q (.bl false) H
theorem rd_neLL{K:PySem.W.Frag}{H:Hp}{Q:VK}{x y:V}:rNeLL K x y H Q=(LikeLL K H x y∧Q (.bl false) H):=rfl
end L2
namespace N71
open L2 N1 N5 N4 N6 N12
theorem Tow.up{K:PySem.W.Frag}{C S:Addr}{H:Hp}{t:Addr}{x:TwA}{s:TwS}{ts:List Th}{B B':Nat}(h:Tow K C S H t x s ts B)(hB:B≤B')(hb:B'≤100000):Tow K C S H t x s ts B':=
 ⟨h.tw,h.sk,h.l.iff (fun _=>Iff.rfl) hB hb,h.nd,h.rs,h.z1,h.zl,h.zz,h.rn,h.tn,h.tl,h.ff⟩
theorem own_off{L L':List Addr}{H:Hp}{b:Addr}{o:HO}(m:∀c∈L',c∈L∨H c=none)(e:H b=some o)(n:b∉L):b∉L':=fun h=>by
 rcases m b h with h | h
 · exact n h
 · rw [h]at e;cases e
end N71
namespace L2
noncomputable def Itk(o:Obj)(d:Addr):It:=
 ⟨fun i H=>∃kvs p,H d=some (.frz o (.dK kvs))∧kvs[i]?=some p,fun i H v H'=>H'=H∧∀kvs,H d=some (.frz o (.dK kvs))→∃p,kvs[i]?=some p∧v=kV p.1,
  fun i H=>∃kvs,H d=some (.frz o (.dK kvs))∧kvs.length≤i⟩
noncomputable def tnK(o:Obj)(I d:Addr)(i:Nat)(h:Heap):Prop:=d≠I∧∃es ep,o.data= .dict es ep∧h.IsKeyIter I d i es.size ep
theorem turn_keys{P:Program}{w:World}{K:PySem.W.Frag}{tg:Expr}(o:Obj)(d I:Addr):Turn P w K tg (Itk o d) [I] I (tnK o I d) where
 mem:=by simp
 obj:=fun i h st c hc=>by
  obtain ⟨_,es,ep,_,o1,h1,h2,h3⟩:=st
  have hc:c=I:=by simpa using hc
  subst hc
  exact ⟨_,h1,fun v z=>by rw [h3]at z;cases z⟩
 keep:=fun i h h' st kk=>by
  obtain ⟨ne,es,ep,hd,o1,h1,h2,h3⟩:=st
  exact ⟨ne,es,ep,hd,o1,kk I (by simp) _ h1,h2,h3⟩
 item:=by
  intro X hP hw hK hc i pins s σ H E J hf st hg
  subst hP hw hK
  obtain ⟨kvs,p,hd,hp⟩:=hg
  obtain ⟨ne,es,ep,hdat,h1⟩:=st
  obtain ⟨e,z,lo,ws,rel,ob,es2,ep2,e1,c1,d1,r1⟩:=J.hok d _ hd
  have e1':=e1
  rw [e]at e1'
  cases e1'
  rw [hdat]at d1
  cases d1
  have dat:s.heap.DictAt (mixKind X.prog X.w) d ws ep:=⟨o,es,e1,c1,hdat,r1⟩
  have hsz:es.size=ws.length:=by
   obtain ⟨_,hpr,_⟩:=r1
   rw [← hpr.length];simp
  rw [hsz]at h1
  have hlw:i < ws.length:=by rw [← rel.length];exact (List.getElem?_eq_some_iff.mp hp).1
  have hw:ws[i]?=some (ws[i]):=List.getElem?_eq_getElem hlw
  obtain ⟨p',hp',hpk,hpv⟩:=paired_get rel hw
  rw [hp]at hp'
  cases hp'
  obtain ⟨f0,f1,f2,f3,f4,f5⟩:=hf I (by simp)
  refine wpAny_pyNext_dict_item h1 dat (k:=(ws[i]).1) (v:=(ws[i]).2) hw fun key h' hkey hit' sb=>?_
  have I1:Inv X pins σ H {s with heap:=h'}:=J.turned (t':=s.toks) (fun b o hb e=>(sb.2 b hb).trans e) f0 f1 f3 f4 f5
  have rk:RelV (kV p.1) key:=by rw [hpk];exact kV_of hkey
  obtain ⟨o',e',c',d'⟩:=id hit'
  exact ⟨key,rfl,go_of (s:={s with heap:=h'}) e' c' d' (by decide) ⟨kV p.1,H,I1,rk,⟨rfl,fun kvs' hy'=>by rw [hd]at hy';cases hy';exact ⟨p,hp,rfl⟩⟩,⟨ne,es,ep,hdat,by rw [hsz];exact hit'⟩,fun c hc=>(hf c hc).1⟩⟩
 done:=by
   intro X hP hw hK hc i pins s σ H E J hf st hg
   subst hP hw hK
   obtain ⟨kvs,hd,hl⟩:=hg
   obtain ⟨ne,es,ep,hdat,h1⟩:=st
   obtain ⟨e,z,lo,ws,rel,ob,es2,ep2,e1,c1,d1,r1⟩:=J.hok d _ hd
   have e1':=e1
   rw [e]at e1'
   cases e1'
   rw [hdat]at d1
   cases d1
   have dat:s.heap.DictAt (mixKind X.prog X.w) d ws ep:=⟨o,es,e1,c1,hdat,r1⟩
   have hsz:es.size=ws.length:=by
    obtain ⟨_,hpr,_⟩:=r1
    rw [← hpr.length];simp
   rw [hsz]at h1
   have hn:ws[i]?=none:=List.getElem?_eq_none (by rw [← rel.length];exact hl)
   obtain ⟨f0,f1,f2,f3,f4,f5⟩:=hf I (by simp)
   exact wpAny_pyNext_dict_end (J.ok.hd hc) h1 dat hn fun h' eb=>⟨rfl,J.turned (t':=s.toks) (fun b o hb e=>eb b o hb e) f0 f1 f3 f4 f5⟩
 self:=fun A i s Q E st h=>by
  obtain ⟨_,es,ep,_,h1⟩:=st
  exact wpAny_pyIter_keyiter h1 h
section
variable {X:Cx}
noncomputable def iDict(tl:TE):TI:=fun σ H R=>tl σ H fun x H1=>∃d kvs,x= .ref d∧((H1 d=some (.dK kvs)∧∀o,R (Itk o d) (upd H1 d (.frz o (.dK kvs))))∨∃o,H1 d=some (.frz o (.dK kvs))∧R (Itk o d) H1)
theorem pi_dict{tg e:Expr}{tl:TE}(hl:PE X e tl):PI X tg e (iDict tl):=by
 intro pins s σ H R I h
 refine thn (hl pins s σ H _ I h) fun u s1 ⟨x,H1,I1,rx,q⟩=>?_
 obtain ⟨d,kvs,rfl,hq⟩:=q
 cases rx
 have key:∀(o:Obj) (H2:Hp),Inv X pins σ H2 s1→H2 d=some (.frz o (.dK kvs))→R (Itk o d) H2→wpAny (model X.prog X.w) X.A (pyIter (.ref d)) (PIE X pins σ tg R) X.xe s1:=by
  intro ob H2 I2 hd q
  obtain ⟨e,z,lo,ws,rel,ob',es2,ep2,e1,c1,d1,r1⟩:=I2.hok d _ hd
  have e1':=e1
  rw [e]at e1'
  cases e1'
  have dat:s1.heap.DictAt (mixKind X.prog X.w) d ws ep2:=⟨ob,es2,e1,c1,d1,r1⟩
  have hsz:es2.size=ws.length:=by
   obtain ⟨_,hpr,_⟩:=r1
   rw [← hpr.length];simp
  refine wpAny_pyIter_dict lo dat ?_
  have I3:Inv X pins σ H2 {s1 with heap:=s1.heap.push {cls:= .type "dict_keyiterator",data:= .fields #[.ref d,.int 0 0,.int ws.length 0,.int ep2 0]}}:=I2.kept (t':=s1.toks) fun b o e=>Heap.get?_push_of_some _ e
  have ltd:=Heap.lt_size e1
  refine ⟨s1.heap.objs.size,[s1.heap.objs.size],_,_,_,rfl,I3,turn_keys ob d s1.heap.objs.size,⟨Nat.ne_of_lt ltd,es2,ep2,d1,?_⟩,fun c hc=>?_,q⟩
  · rw [hsz];exact ⟨_,Heap.get?_push_size _ rfl,rfl,rfl⟩
  · have hc:c=s1.heap.objs.size:=by simpa using hc
    subst hc
    exact I2.fpOk (Nat.le_refl _) (I2.hok.fresh (Nat.le_refl _))
 rcases hq with ⟨hd,q⟩ | ⟨o,hd,q⟩
 · obtain ⟨z,lo,ws,rel,ob,es2,ep2,e1,c1,d1,r1⟩:=I1.hok d _ hd
   have I2:Inv X pins σ (upd H1 d (.frz ob (.dK kvs))) {s1 with heap:=s1.heap,toks:=s1.toks}:=I1.write (x:=d) (e:=d) (by rw [hd];trivial) (.inl rfl) (fun b u _ e=>e) ⟨ob,e1⟩ ⟨e1,z,lo,ws,rel,ob,es2,ep2,e1,c1,d1,r1⟩
   exact key ob _ I2 upd_same (q ob)
 · exact key o H1 I1 hd q
end
section
variable {σ:St} {H:Hp} {D:Ends}
theorem rd_idict{tl:TE}{R:It→Hp→Prop}:iDict tl σ H R=tl σ H fun x H1=>∃d kvs,x= .ref d∧((H1 d=some (.dK kvs)∧∀o,R (Itk o d) (upd H1 d (.frz o (.dK kvs))))∨∃o,H1 d=some (.frz o (.dK kvs))∧R (Itk o d) H1):=rfl
theorem forK_by{o:Obj}{d:Addr}{kvs:List (Key×V)}{g:TG}{tb:TS}(Pv:Nat→St→Hp→Prop)(h0:Pv 0 σ H)(hl:∀i σ H,i≤kvs.length→Pv i σ H→H d=some (.frz o (.dK kvs)))
 (hs:∀i p σ H,kvs[i]?=some p→Pv i σ H→g (kV p.1) σ H fun σ2 H2=>tb {D with nx:=Pv (i+1),ct:=Pv (i+1),bk:=D.nx} σ2 H2) (hd:∀σ H,Pv kvs.length σ H→D.nx σ H):ForTail g tb D σ (Itk o d) H:=by
 refine ⟨fun i m σ H=>i≤kvs.length∧m=kvs.length - i∧Pv i σ H,⟨_,Nat.zero_le _,rfl,h0⟩,fun i m σ H ⟨hi,hm,hP⟩=>?_⟩
 have hq:=hl i σ H hi hP
 cases hx:kvs[i]? with
 | none=>
  have hn:kvs.length≤i:=by simpa using hx
  have e:i=kvs.length:=Nat.le_antisymm hi hn
  subst e
  exact .inl ⟨⟨kvs,hq,Nat.le_refl _⟩,hd σ H hP⟩
 | some p=>
  have hlt:i < kvs.length:=(List.getElem?_eq_some_iff.mp hx).1
  refine .inr ⟨⟨kvs,p,hq,hx⟩,Pv (i+1),fun σ' H' h=>⟨kvs.length - (i+1),by omega,by omega,rfl,h⟩,?_⟩
  rintro y H' ⟨rfl,hy⟩
  obtain ⟨p',hp',rfl⟩:=hy kvs hq
  have e:=hp'.symm.trans hx
  cases e
  exact hs i _ σ H' hx hP
end
end L2
namespace N74
open L2 N1 N5 N4 N6 N12 N71
structure Gt where
 h:Str→Int
 l:Str→Bool
 st:Str→Int
 es:List (List V)
noncomputable def setF{α:Type}(f:Str→α)(z:Str)(v:α):Str→α:=fun y=>if y=z then v else f y
theorem setF_same{α:Type}{f:Str→α}{z:Str}{v:α}:setF f z v z=v:=if_pos rfl
theorem setF_ne{α:Type}{f:Str→α}{z y:Str}{v:α}(n:y≠z):setF f z v y=f y:=if_neg n
noncomputable def wrT(z:Str)(v:Int):List V:=[.str (Str.ofString "write"),.str z,.int v]
noncomputable def Gt.write(g:Gt)(z:Str):Gt:={g with st:=setF g.st z (g.h z),es:=g.es++[wrT z (g.h z)]}
noncomputable def Gt.late(g:Gt)(z:Str)(b:Bool):Gt:={g with l:=setF g.l z b}
noncomputable def Gt.hold(g:Gt)(z:Str)(v:Int):Gt:={g with h:=setF g.h z v}
noncomputable def settleG(pr:Bool)(z:Str)(g:Gt):Gt:=if pr then g.write z else g.late z true
noncomputable def fallG(z:Str)(g:Gt):Gt:=if g.l z then (g.late z false).write z else g
noncomputable def lastS(R:List Str):Str:=(R[R.length - 1]?).getD Str.empty
noncomputable def comeG(S:Int)(R:List Str)(z:Str)(g:Gt):Gt:=if S < ((z::R.erase z).length:Int) then fallG (lastS (z::R.erase z)) g else g
noncomputable def fetchG(w z:Str)(g:Gt):Gt:={g with es:=g.es++[[.str w,.str z]],h:=setF g.h z (g.st z)}
noncomputable def readG(S:Int)(R:List Str)(z:Str)(g:Gt):Gt:=comeG S R z (if z∈R then g else fetchG (Str.ofString "fetch") z g)
noncomputable def keepG(pr:Bool)(S:Int)(R:List Str)(z:Str)(v:Int)(g:Gt):Gt:=comeG S R z (settleG pr z (g.hold z v))
noncomputable def aheadG(S:Int)(R:List Str)(z:Str)(g:Gt):Gt:=if z∈R then g else comeG S R z (fetchG (Str.ofString "ahead") z g)
noncomputable def writesG(ys:List Str)(g:Gt):Gt:=ys.foldl (fun g y=>g.write y) g
noncomputable def restG(R:List Str)(g:Gt):Gt:={writesG (R.filter g.l) g with l:=fun _=>false}
structure TwG(H:Hp)(s:TwS)(g:Gt)(B:Nat)(hd:Str→Prop):Prop where
 h:∀y,hd y→valV s.kh (Sum.inr y)=some (.int (g.h y))
 l:∀y,(valV s.kl (Sum.inr y)).isSome=g.l y
 lh:∀y,g.l y=true→hd y
 st:∀y,(valV s.ks (Sum.inr y)).getD (.int 0)= .int (g.st y)
 es:∃us:List Addr,s.es=us.map V.ref∧us.length=g.es.length∧∀(i:Nat) (u:Addr) (e:List V),us[i]?=some u→g.es[i]?=some e→H u=some (.tup e)
 n1:s.kh.length≤B
 n2:s.kl.length≤B
 n3:s.ks.length≤B
 n4:s.es.length≤B
 b:B≤100000
 fl:∀e∈g.es,e.all flatV=true
section
variable {H H':Hp} {s s':TwS} {g:Gt} {B B':Nat} {hd q:Str→Prop} {z:Str}
theorem TwG.toL(h:TwG H s g B hd):TwL s B hd:=by
 refine ⟨fun y hy=>⟨_,h.h y hy⟩,fun y hy=>h.lh y (by rw [← h.l y];exact hy),fun y v hv=>?_,h.n1,h.n2,h.n3,h.n4,h.b⟩
 have:=h.st y
 rw [hv]at this
 exact ⟨_,this⟩
theorem TwG.keep(h:TwG H s g B hd)(k:∀v e,H v=some (.tup e)→H' v=some (.tup e)):TwG H' s g B hd:=by
 obtain ⟨us,e1,e2,e3⟩:=h.es
 exact ⟨h.h,h.l,h.lh,h.st,⟨us,e1,e2,fun i u e h1 h2=>k _ _ (e3 i u e h1 h2)⟩,h.n1,h.n2,h.n3,h.n4,h.b,h.fl⟩
theorem TwG.same(m:Same H H')(h:TwG H s g B hd):TwG H' s g B hd:=h.keep fun v e hv=>m _ _ hv
theorem keepT{C t:Addr}{x:TwA}(hT:TwAt C H t x s')(o:Off (own t x) H H'):∀v e,H v=some (.tup e)→H' v=some (.tup e):=fun v e hv=>by
 refine o v _ hv fun hm=>?_
 obtain ⟨dx,fs,h1,h2⟩:=hT.o
 have hm':v=t∨v=x.ro∨v=x.he∨v=x.la∨v=x.so∨v=x.en∨v=x.fi:=by simpa [own] using hm
 rcases hm' with e | e | e | e | e | e | e <;> rw [e]at hv
 · rw [h1]at hv;cases hv
 · rw [hT.ro]at hv;cases hv
 · rw [hT.he]at hv;cases hv
 · rw [hT.la]at hv;cases hv
 · rw [hT.so]at hv;cases hv
 · rw [hT.en]at hv;cases hv
 · rw [hT.fi]at hv;cases hv
theorem TwG.off{C t:Addr}{x:TwA}(hT:TwAt C H t x s')(o:Off (own t x) H H')(h:TwG H s g B hd):TwG H' s g B hd:=h.keep (keepT hT o)
theorem TwG.iff(h:TwG H s g B hd)(e:∀u,hd u↔q u)(hB:B≤B')(hb:B'≤100000):TwG H s g B' q:=
 ⟨fun y hy=>h.h y ((e y).mpr hy),h.l,fun y hy=>(e y).mp (h.lh y hy),h.st,h.es,Nat.le_trans h.n1 hB,Nat.le_trans h.n2 hB,Nat.le_trans h.n3 hB,Nat.le_trans h.n4 hB,hb,h.fl⟩
theorem TwG.cast(h:TwG H s g B hd)(e1:s'.kh=s.kh)(e2:s'.kl=s.kl)(e3:s'.ks=s.ks)(e4:s'.es=s.es):TwG H s' g B hd:=
 ⟨by rw [e1];exact h.h,by rw [e2];exact h.l,h.lh,by rw [e3];exact h.st,by rw [e4];exact h.es,by rw [e1];exact h.n1,by rw [e2];exact h.n2,by rw [e3];exact h.n3,by rw [e4];exact h.n4,h.b,h.fl⟩
theorem inr_ne{y z:Str}(e:y≠z):(Sum.inr y:Key)≠Sum.inr z:=fun h=>e (by injection h)
theorem es_snoc{us:List Addr}{ee:List (List V)}{u:Addr}{e:List V}(hl:us.length=ee.length)(k:∀v e,H v=some (.tup e)→H' v=some (.tup e))(h:∀(i:Nat) (u:Addr) (e:List V),us[i]?=some u→ee[i]?=some e→H u=some (.tup e))(hu:H' u=some (.tup e)):
 ∀(i:Nat) (v:Addr) (f:List V),(us++[u])[i]?=some v→(ee++[e])[i]?=some f→H' v=some (.tup f):=by
 intro i v f h1 h2
 by_cases hi:i < us.length
 · rw [List.getElem?_append_left hi]at h1
   rw [List.getElem?_append_left (by omega)]at h2
   exact k _ _ (h i v f h1 h2)
 · have h3:=(List.getElem?_eq_some_iff.mp h1).1
   rw [List.length_append]at h3
   have h4:i=us.length:=by simp at h3;omega
   subst h4
   rw [List.getElem?_append_right (Nat.le_refl _),Nat.sub_self]at h1
   rw [hl,List.getElem?_append_right (Nat.le_refl _),Nat.sub_self]at h2
   cases h1
   cases h2
   exact hu
theorem fl_snoc{ee:List (List V)}{e:List V}(h:∀e∈ee,e.all flatV=true)(he:e.all flatV=true):∀f∈ee++[e],f.all flatV=true:=fun f hf=>by
 rcases List.mem_append.mp hf with h1 | h1
 · exact h f h1
 · rw [List.mem_singleton.mp h1];exact he
theorem TwG.wrote(h:TwG H s g B hd)(hz:hd z)(k:∀v e,H v=some (.tup e)→H' v=some (.tup e)){u:Addr}(hu:H' u=some (.tup (wrT z (g.h z))))(hB:B+1≤100000):TwG H' {s with ks:=putK s.ks (Sum.inr z) (.int (g.h z)),es:=s.es++[.ref u]} (g.write z) (B+1) hd:=by
 obtain ⟨us,e1,e2,e3⟩:=h.es
 have h5:=length_putK s.ks (Sum.inr z:Key) (V.int (g.h z))
 refine ⟨h.h,h.l,h.lh,fun y=>?_,⟨us++[u],by rw [List.map_append,e1];rfl,by show _=(g.es++[_]).length;rw [List.length_append,List.length_append,e2];rfl,es_snoc e2 k e3 hu⟩,Nat.le_succ_of_le h.n1,Nat.le_succ_of_le h.n2,by have:=h.n3;show (putK _ _ _).length≤_;omega,by have:=h.n4;show (s.es++[_]).length≤_;rw [List.length_append];show s.es.length+1≤_;omega,hB,fl_snoc h.fl rfl⟩
 show (valV (putK s.ks (Sum.inr z) (.int (g.h z))) (Sum.inr y)).getD (.int 0)= .int (setF g.st z (g.h z) y)
 rw [valV_put]
 by_cases e:y=z
 · subst e;rw [if_pos rfl,setF_same];rfl
 · rw [if_neg (inr_ne e),setF_ne e];exact h.st y
theorem TwG.noted(h:TwG H s g B hd)(k:∀v e,H v=some (.tup e)→H' v=some (.tup e)){u:Addr}{e:List V}(hu:H' u=some (.tup e))(he:e.all flatV=true)(hB:B+1≤100000){pd:Int}:TwG H' {s with pd:=pd,es:=s.es++[.ref u]} {g with es:=g.es++[e]} (B+1) hd:=by
 obtain ⟨us,e1,e2,e3⟩:=h.es
 exact ⟨h.h,h.l,h.lh,h.st,⟨us++[u],by rw [List.map_append,e1];rfl,by show _=(g.es++[_]).length;rw [List.length_append,List.length_append,e2];rfl,es_snoc e2 k e3 hu⟩,Nat.le_succ_of_le h.n1,Nat.le_succ_of_le h.n2,Nat.le_succ_of_le h.n3,by have:=h.n4;show (s.es++[_]).length≤_;rw [List.length_append];show s.es.length+1≤_;omega,hB,fl_snoc h.fl he⟩
theorem TwG.fetched(h:TwG H s g B hd)(k:∀v e,H v=some (.tup e)→H' v=some (.tup e)){u:Addr}{w:Str}(hu:H' u=some (.tup [.str w,.str z]))(hB:B+1≤100000){pd:Int}:TwG H' {s with pd:=pd,es:=s.es++[.ref u],kh:=putK s.kh (Sum.inr z) (.int (g.st z))} (fetchG w z g) (B+1) (fun y=>hd y∨y=z):=by
 obtain ⟨us,e1,e2,e3⟩:=h.es
 have h5:=length_putK s.kh (Sum.inr z:Key) (V.int (g.st z))
 refine ⟨fun y hy=>?_,h.l,fun y hy=> .inl (h.lh y hy),h.st,⟨us++[u],by rw [List.map_append,e1];rfl,by show _=(g.es++[_]).length;rw [List.length_append,List.length_append,e2];rfl,es_snoc e2 k e3 hu⟩,by have:=h.n1;show (putK _ _ _).length≤_;omega,Nat.le_succ_of_le h.n2,Nat.le_succ_of_le h.n3,by have:=h.n4;show (s.es++[_]).length≤_;rw [List.length_append];show s.es.length+1≤_;omega,hB,fl_snoc h.fl rfl⟩
 show valV (putK s.kh (Sum.inr z) (.int (g.st z))) (Sum.inr y)=some (.int (setF g.h z (g.st z) y))
 rw [valV_put]
 by_cases e:y=z
 · subst e;rw [if_pos rfl,setF_same]
 · rw [if_neg (inr_ne e),setF_ne e];exact h.h y (hy.resolve_right e)
theorem TwG.kept(h:TwG H s g B hd)(v:Int)(hB:B+1≤100000):TwG H {s with kh:=putK s.kh (Sum.inr z) (.int v)} (g.hold z v) (B+1) (fun y=>hd y∨y=z):=by
 have h5:=length_putK s.kh (Sum.inr z:Key) (V.int v)
 refine ⟨fun y hy=>?_,h.l,fun y hy=> .inl (h.lh y hy),h.st,h.es,by have:=h.n1;show (putK _ _ _).length≤_;omega,Nat.le_succ_of_le h.n2,Nat.le_succ_of_le h.n3,Nat.le_succ_of_le h.n4,hB,h.fl⟩
 show valV (putK s.kh (Sum.inr z) (.int v)) (Sum.inr y)=some (.int (setF g.h z v y))
 rw [valV_put]
 by_cases e:y=z
 · subst e;rw [if_pos rfl,setF_same]
 · rw [if_neg (inr_ne e),setF_ne e];exact h.h y (hy.resolve_right e)
theorem TwG.lateOn(h:TwG H s g B hd)(hz:hd z)(hB:B+1≤100000):TwG H {s with kl:=putK s.kl (Sum.inr z) (.bl true)} (g.late z true) (B+1) hd:=by
 have h5:=length_putK s.kl (Sum.inr z:Key) (V.bl true)
 refine ⟨h.h,fun y=>?_,fun y hy=>?_,h.st,h.es,Nat.le_succ_of_le h.n1,by have:=h.n2;show (putK _ _ _).length≤_;omega,Nat.le_succ_of_le h.n3,Nat.le_succ_of_le h.n4,hB,h.fl⟩
 · show (valV (putK s.kl (Sum.inr z) (.bl true)) (Sum.inr y)).isSome=setF g.l z true y
   rw [valV_put]
   by_cases e:y=z
   · subst e;rw [if_pos rfl,setF_same];rfl
   · rw [if_neg (inr_ne e),setF_ne e];exact h.l y
 · by_cases e:y=z
   · rw [e];exact hz
   · have hy2:setF g.l z true y=true:=hy
     rw [setF_ne e]at hy2
     exact h.lh y hy2
theorem TwG.lateOff(h:TwG H s g B hd):TwG H {s with kl:=dropK s.kl (Sum.inr z)} (g.late z false) B hd:=by
 have h5:=dropK_ls s.kl (Sum.inr z:Key)
 refine ⟨h.h,fun y=>?_,fun y hy=>?_,h.st,h.es,h.n1,by have:=h.n2;show (dropK _ _).length≤_;omega,h.n3,h.n4,h.b,h.fl⟩
 · show (valV (dropK s.kl (Sum.inr z)) (Sum.inr y)).isSome=setF g.l z false y
   by_cases e:y=z
   · subst e;rw [valV_drop_same,setF_same];rfl
   · rw [valV_dropK (inr_ne e),setF_ne e];exact h.l y
 · have hy2:setF g.l z false y=true:=hy
   by_cases e:y=z
   · rw [e,setF_same]at hy2;cases hy2
   · rw [setF_ne e]at hy2;exact h.lh y hy2
theorem TwG.popped(h:TwG H s g B hd)(hz:g.l z=false):TwG H {s with kh:=dropK s.kh (Sum.inr z)} g B (fun y=>hd y∧y≠z):=by
 have h5:=dropK_ls s.kh (Sum.inr z:Key)
 refine ⟨fun y hy=>?_,h.l,fun y hy=>⟨h.lh y hy,fun e=>by rw [e,hz]at hy;cases hy⟩,h.st,h.es,by have:=h.n1;show (dropK _ _).length≤_;omega,h.n2,h.n3,h.n4,h.b,h.fl⟩
 show valV (dropK s.kh (Sum.inr z)) (Sum.inr y)=_
 rw [valV_dropK (inr_ne hy.2)];exact h.h y hy.1
theorem TwG.noLate(h:TwG H s g B hd):TwG H {s with kl:=[]} {g with l:=fun _=>false} B hd:=
 ⟨h.h,(fun y=>rfl),(fun y hy=>by cases hy),h.st,h.es,h.n1,Nat.zero_le _,h.n3,h.n4,h.b,h.fl⟩
end
structure TowG(K:PySem.W.Frag)(C S:Addr)(H:Hp)(t:Addr)(x:TwA)(s:TwS)(g:Gt)(ts:List Th)(B:Nat):Prop where
 to:Tow K C S H t x s ts B
 g:TwG H s g B (fun y=>y∈s.R)
theorem TowG.same{K:PySem.W.Frag}{C S:Addr}{H H':Hp}{t:Addr}{x:TwA}{s:TwS}{g:Gt}{ts:List Th}{B:Nat}(m:Same H H')(h:TowG K C S H t x s g ts B):TowG K C S H' t x s g ts B:=⟨h.to.same m,h.g.same m⟩
noncomputable def costOf(ts:List Th)(z:Str):Int:=((ts.find? fun t=>t.1=z).map fun t=>t.2.1).getD 0
theorem costOf_at{ts:List Th}{z:Str}{i:Nat}{t:Th}(nd:(ts.map (·.1)).Nodup)(h:ts[i]?=some t)(e:t.1=z):costOf ts z=t.2.1:=by
 unfold costOf
 cases hf:ts.find? (fun t=>t.1=z) with
 | none=>
  rw [List.find?_eq_none]at hf
  exact absurd (by simpa using e) (hf t (List.mem_of_getElem? h))
 | some t'=>
  have h1:=List.mem_of_find?_eq_some hf
  have h2:t'.1=z:=by simpa using List.find?_some hf
  obtain ⟨j,hj⟩:=List.mem_iff_getElem?.mp h1
  have ij:i=j:=by
   have hi:=(List.getElem?_eq_some_iff.mp h).1
   have hj':=(List.getElem?_eq_some_iff.mp hj).1
   refine (List.getElem_inj (h₀:=show i < (ts.map fun t:Th=>t.1).length by simpa using hi) (h₁:=show j < (ts.map fun t:Th=>t.1).length by simpa using hj') nd).mp ?_
   have a1:ts[i]=t:=(List.getElem?_eq_some_iff.mp h).2
   have a2:ts[j]=t':=(List.getElem?_eq_some_iff.mp hj).2
   rw [List.getElem_map,List.getElem_map,a1,a2,e,h2]
  subst ij
  rw [hj]at h
  cases h
  rfl
noncomputable def sp74_write(C:Addr):Sp:=fun vs H Q _=>∃(t:Addr) (x:TwA) (s:TwS) (g:Gt) (z:Str) (B:Nat) (hd:Str→Prop),vs=[.ref t,.str z]∧TwAt C H t x s∧TwG H s g B hd∧B≤90000∧hd z∧
 ∀(s':TwS) (H':Hp),Off (own t x) H H'→TwAt C H' t x s'→s'.R=s.R→s'.zs=s.zs→s'.ff=s.ff→s'.pd=s.pd→s'.kl=s.kl→TwG H' s' (g.write z) (B+1) hd→Q .non H'
noncomputable def sp74_settle(C:Addr)(pr:Bool):Sp:=fun vs H Q _=>∃(t:Addr) (x:TwA) (s:TwS) (g:Gt) (z:Str) (B:Nat) (hd:Str→Prop),vs=[.ref t,.str z]∧TwAt C H t x s∧TwG H s g B hd∧B≤90000∧hd z∧
 ∀(s':TwS) (H':Hp),Off (own t x) H H'→TwAt C H' t x s'→s'.R=s.R→s'.zs=s.zs→s'.ff=s.ff→s'.pd=s.pd→TwG H' s' (settleG pr z g) (B+1) hd→Q .non H'
noncomputable def sp74_fall(C:Addr):Sp:=fun vs H Q _=>∃(t:Addr) (x:TwA) (s:TwS) (g:Gt) (z:Str) (B:Nat) (hd:Str→Prop),vs=[.ref t,.str z]∧TwAt C H t x s∧TwG H s g B hd∧B≤90000∧hd z∧
 ∀(s':TwS) (H':Hp),Off (own t x) H H'→TwAt C H' t x s'→s'.R=s.R→s'.zs=s.zs→s'.ff=s.ff→s'.pd=s.pd→TwG H' s' (fallG z g) (B+1) (fun y=>hd y∧y≠z)→Q .non H'
noncomputable def sp74_come(C:Addr):Sp:=fun vs H Q _=>∃(t:Addr) (x:TwA) (s:TwS) (g:Gt) (z:Str) (B:Nat),vs=[.ref t,.str z]∧TwAt C H t x s∧TwG H s g B (fun y=>y∈s.R∨y=z)∧B≤90000∧s.R.Nodup∧s.R.length≤60∧(s.R.length:Int)≤s.zs.sum∧1≤s.zs.sum∧
 ∀(s':TwS) (H':Hp),Off (own t x) H H'→TwAt C H' t x s'→s'.R=(z::s.R.erase z).take s.zs.sum.toNat→s'.zs=s.zs→s'.ff=s.ff→s'.pd=s.pd→TwG H' s' (comeG s.zs.sum s.R z g) (B+1) (fun y=>y∈s'.R)→Q .non H'
noncomputable def sp74_stored(K:PySem.W.Frag)(C S:Addr):Sp:=fun vs H Q _=>∃(t:Addr) (x:TwA) (s:TwS) (g:Gt) (z:Str) (ts:List Th) (B:Nat) (hd:Str→Prop),vs=[.ref t,.str z]∧TwAt C H t x s∧StockT K S H x.st ts (own t x)∧(ts.map (·.1)).Nodup∧z∈ts.map (·.1)∧TwG H s g B hd∧Q (.int (g.st z)) H
noncomputable def sp74_fetch(K:PySem.W.Frag)(C S:Addr):Sp:=fun vs H Q _=>∃(t:Addr) (x:TwA) (s:TwS) (g:Gt) (w z:Str) (ts:List Th) (B:Nat) (p:Str→Prop),vs=[.ref t,.str w,.str z]∧TwAt C H t x s∧StockT K S H x.st ts (own t x)∧(ts.map (·.1)).Nodup∧z∈ts.map (·.1)∧TwG H s g B p∧B≤90000∧
 ∀(s':TwS) (H':Hp),Off (own t x) H H'→TwAt C H' t x s'→s'.R=s.R→s'.zs=s.zs→s'.ff=s.ff→s'.pd=s.pd+costOf ts z→TwG H' s' (fetchG w z g) (B+1) (fun y=>p y∨y=z)→Q .non H'
noncomputable def sp74_diary(C:Addr):Sp:=fun vs H Q _=>∃(t:Addr) (x:TwA) (s:TwS),vs=[.ref t]∧TwAt C H t x s∧s.es.length≤100000∧∀(p:Addr) (H':Hp),H p=none→Same H H'→H' p=some (.lst s.es)→Q (.ref p) H'
noncomputable def g0:Gt:=⟨fun _=>0,fun _=>false,fun _=>0,[]⟩
structure V74(pr:Bool)(g:Gt)(vs:Str→List Int)(kv:Str→Int):Prop where
 last:∀y,∃pre,vs y=pre++[kv y]
 a:∀y,g.l y=true→g.h y=kv y
 b:∀y,g.l y=false→g.st y=kv y
 c:∀y,g.st y∈vs y
 p:pr=true→∀y,g.l y=false
section
variable {pr:Bool} {g:Gt} {vs:Str→List Int} {kv:Str→Int}
theorem V74.kin(h:V74 pr g vs kv)(y:Str):kv y∈vs y:=by
 obtain ⟨pre,e⟩:=h.last y
 rw [e];simp
end
theorem writesG_st(ys:List Str)(g:Gt)(y:Str):(writesG ys g).st y=if y∈ys then g.h y else g.st y:=by
 unfold writesG
 induction ys generalizing g with
 | nil=>rfl
 | cons x r ih=>
  rw [List.foldl_cons,ih]
  show (if y∈r then g.h y else setF g.st x (g.h x) y)=_
  by_cases h1:y∈r
  · rw [if_pos h1,if_pos (List.mem_cons_of_mem _ h1)]
  · rw [if_neg h1]
    by_cases e:y=x
    · subst e;rw [setF_same,if_pos List.mem_cons_self]
    · rw [setF_ne e,if_neg (fun h=>(List.mem_cons.mp h).elim e h1)]
theorem V74.rest{pr:Bool}{g:Gt}{vs:Str→List Int}{kv:Str→Int}(h:V74 pr g vs kv){R:List Str}(hR:∀y,g.l y=true→y∈R):V74 pr (restG R g) vs kv∧∀y,(restG R g).st y=kv y:=by
 have hst:∀y,(restG R g).st y=kv y:=fun y=>by
  show (writesG (R.filter g.l) g).st y=kv y
  rw [writesG_st]
  by_cases e:g.l y=true
  · rw [if_pos (List.mem_filter.mpr ⟨hR y e,e⟩)];exact h.a y e
  · rw [if_neg (fun z=>e (List.mem_filter.mp z).2)];exact h.b y (by simpa using e)
 exact ⟨⟨h.last,(fun y hy=>by cases hy),fun y _=>hst y,fun y=>by rw [hst y];exact h.kin y,fun _ y=>rfl⟩,hst⟩
noncomputable def kvsOf(ys:List Str)(la:Str→Addr):List (Key×V):=ys.map fun y=>(Sum.inr y,V.ref (la y))
theorem DGet.rd{H:Hp}{a:Addr}{kvs:List (Key×V)}{k:Key}(e:Rd H a (.dK kvs)):DGet H a (kV k) (valV kvs k):= .inl ⟨kvs,k,e,rfl,rfl⟩
structure VAt(H:Hp)(t:Addr)(x:TwA)(d0:Addr)(ys:List Str)(la:Str→Addr)(vs:Str→List Int):Prop where
 d:Rd H d0 (.dK (kvsOf ys la))
 l:∀y∈ys,H (la y)=some (.lst ((vs y).map V.int))
 nd:d0∉own t x
 n:∀y∈ys,la y∉x.si::own t x
end N74
namespace N74
open L2 N1 N5 N4 N6 N12 N71
theorem TwG.es_le{H:Hp}{s:TwS}{g:Gt}{B:Nat}{hd:Str→Prop}(h:TwG H s g B hd):s.es.length≤100000:=Nat.le_trans h.n4 h.b
theorem TowG.up{K:PySem.W.Frag}{C S:Addr}{H:Hp}{t:Addr}{x:TwA}{s:TwS}{g:Gt}{ts:List Th}{B B':Nat}(h:TowG K C S H t x s g ts B)(hB:B≤B')(hb:B'≤100000):TowG K C S H t x s g ts B':=⟨h.to.up hB hb,h.g.iff (fun _=>Iff.rfl) hB hb⟩
end N74
namespace N76
open L2 N1 N5 N4 N6 N12 N71 N74
structure StA where
 li:Addr
 ne:Addr
 la:Addr
 fa:Addr
 no:Addr
noncomputable def stKv(a:StA):List (Key×V):=[(Sum.inr (Str.ofString "line"),.ref a.li),(Sum.inr (Str.ofString "near"),.ref a.ne),(Sum.inr (Str.ofString "late"),.ref a.la),(Sum.inr (Str.ofString "far"),.ref a.fa),(Sum.inr (Str.ofString "notes"),.ref a.no)]
structure StAt(H:Hp)(t:Addr)(a:StA)(s:TwS):Prop where
 d:H t=some (.dK (stKv a))
 li:H a.li=some (.lst (s.R.map V.str))
 ne:H a.ne=some (.dK s.kh)
 la:H a.la=some (.dK s.kl)
 fa:H a.fa=some (.dK s.ks)
 no:H a.no=some (.lst s.es)
 c1:t≠a.ne
 c2:t≠a.la
 c3:t≠a.fa
 c4:a.ne≠a.la
 c5:a.ne≠a.fa
 c6:a.la≠a.fa
 c7:a.li≠a.no
noncomputable def stepR(S:Int)(R:List Str)(d:Int)(z:Str):List Str:=if 6 < d then R else if d=6∧z∈R then R else (z::R.erase z).take S.toNat
noncomputable def stepG(pr:Bool)(S:Int)(R:List Str)(d:Int)(z:Str)(v:Int)(g:Gt):Gt:=if 6 < d then restG R g else if d=6 then aheadG S R z g else if d < 3 then readG S R z g else keepG pr S R z v g
theorem settleG_h(pr:Bool)(z:Str)(g:Gt):(settleG pr z g).h=g.h:=by unfold settleG;split <;> rfl
noncomputable def s0(zs:List Int):TwS:=⟨zs,[],[],[],[],[],[],0⟩
theorem stock_step{K:PySem.W.Frag}{S:Addr}{H H':Hp}{p:Addr}{ts:List Th}{L L1 M:List Addr}(h:StockT K S H p ts L)(o:Off M H H')(hM:∀b∈M,b∈L)(m:∀b∈L1,b∈L∨H b=none):StockT K S H' p ts L1:=
 ((h.mono (L':=L++L1) (fun b hb=>by
   rcases List.mem_append.mp hb with k | k
   · exact .inl k
   · exact m b k)).off (o.mono fun b hb=>List.mem_append_left _ (hM b hb))).mono fun b hb=> .inl (List.mem_append_right _ hb)
theorem tow_step{K:PySem.W.Frag}{C S:Addr}{H H':Hp}{t:Addr}{x:TwA}{s:TwS}{g:Gt}{ts:List Th}{B:Nat}{M:List Addr}(h:TowG K C S H t x s g ts B)(o:Off M H H')(n:∀b∈x.si::own t x,b∉M)(kt:∀v e,H v=some (.tup e)→H' v=some (.tup e))(sk:StockT K S H' x.st ts (own t x)):TowG K C S H' t x s g ts B:=by
 obtain ⟨dx,fs,h1,h2⟩:=h.to.tw.o
 exact ⟨⟨⟨⟨dx,fs,o _ _ h1 (n _ (by simp [own])),h2⟩,o _ _ h.to.tw.si (n _ (by simp [own])),o _ _ h.to.tw.ro (n _ (by simp [own])),o _ _ h.to.tw.he (n _ (by simp [own])),o _ _ h.to.tw.la (n _ (by simp [own])),o _ _ h.to.tw.so (n _ (by simp [own])),o _ _ h.to.tw.en (n _ (by simp [own])),o _ _ h.to.tw.fi (n _ (by simp [own])),h.to.tw.d1,h.to.tw.d2,h.to.tw.d3,h.to.tw.l1,h.to.tw.l2,h.to.tw.l3,h.to.tw.l4,h.to.tw.l5,h.to.tw.l6⟩,sk,h.to.l,h.to.nd,h.to.rs,h.to.z1,h.to.zl,h.to.zz,h.to.rn,h.to.tn,h.to.tl,h.to.ff⟩,h.g.keep kt⟩
theorem own_some{C:Addr}{H:Hp}{t:Addr}{x:TwA}{s:TwS}(h:TwAt C H t x s):∀b∈x.si::own t x,∃o,H b=some o:=fun b hb=>by
 obtain ⟨dx,fs,h1,h2⟩:=h.o
 have hb':b=x.si∨b=t∨b=x.ro∨b=x.he∨b=x.la∨b=x.so∨b=x.en∨b=x.fi:=by simpa [own] using hb
 rcases hb' with h' | h' | h' | h' | h' | h' | h' | h' <;> rw [h']
 · exact ⟨_,h.si⟩
 · exact ⟨_,h1⟩
 · exact ⟨_,h.ro⟩
 · exact ⟨_,h.he⟩
 · exact ⟨_,h.la⟩
 · exact ⟨_,h.so⟩
 · exact ⟨_,h.en⟩
 · exact ⟨_,h.fi⟩
end N76
namespace N75
open L2 N1 N5 N4 N6 N12 N71 N74 N76
noncomputable def keptB(d:Int):Prop:=3≤d∧d < 6
instance (d:Int):Decidable (keptB d):=inferInstanceAs (Decidable (3≤d∧d < 6))
noncomputable def o1(d:Int)(z:Str)(g:Gt):Str→Bool:=if keptB d then setF g.l z true else g.l
noncomputable def h1(d:Int)(z:Str)(v:Int)(g:Gt):Str→Int:=if keptB d then setF g.h z v else g.h
noncomputable def preW(R:List Str)(d:Int)(z:Str):Option Str:=if z∈R then none else if d < 3 then some (Str.ofString "fetch") else if d=6 then some (Str.ofString "ahead") else none
noncomputable def mixF(c k:Int):Int:=(c % 1000000007+7919 * k+1) * (c % 1000000007+7919 * k+1) % 2147483647 * 48271 % 2147483629
noncomputable def valL(j:Int):Int:=if j=0 then 10 ^ 30 else if j=1 then -10 ^ 30 else 0
noncomputable def valM(v:Int):Int:=if v % 11=5 then valL (v / 11 % 3) else if v % 3=0 then v / 3 % 7 - 3 else v ^ 5 % (2 * 10 ^ 30+1) - 10 ^ 30
noncomputable def sp75_mix:Sp:=fun vs H Q _=>∃c k:Int,vs=[.int c,.int k]∧0≤k∧k≤1000∧(0≤mixF c k→mixF c k < 2147483629→Q (.int (mixF c k)) H)
noncomputable def sp75_value:Sp:=fun vs H Q _=>∃(c:Int) (k:Nat),vs=[.int c,.int k]∧k≤200∧∀(H':Hp),-(10 ^ 30)≤valM (mixF c k)→valM (mixF c k)≤10 ^ 30→Same H H'→Q (.int (valM (mixF c k))) H'
structure Lw(H:Hp)(L:List Addr)(np co fa va ow cp:Addr)(ys:List Str)(oc:Obj)(kc kf kv ko:List (Key×V))(cells:List Int):Prop where
 hnp:H np=some (.lst (ys.map V.str))
 hco:H co=some (.frz oc (.dK kc))
 hfa:H fa=some (.dK kf)
 hva:H va=some (.dK kv)
 how:H ow=some (.dK ko)
 hcp:H cp=some (.lst (cells.map V.int))
 off:∀b∈[np,co,fa,va,ow,cp],b∉L
 d1:va≠ow
 d2:va≠fa
 d3:ow≠fa
noncomputable def EnAt(H:Hp)(as:List Addr)(es:List (List V)):Prop:=as.length=es.length∧∀(i:Nat) (a:Addr) (e:List V),as[i]?=some a→es[i]?=some e→H a=some (.tup e)
theorem EnAt.same{H H':Hp}{as:List Addr}{es:List (List V)}(h:EnAt H as es)(k:∀v e,H v=some (.tup e)→H' v=some (.tup e)):EnAt H' as es:=⟨h.1,fun i a e h1 h2=>k _ _ (h.2 i a e h1 h2)⟩
structure Kn(g:Gt)(o:Str→Bool)(h:Str→Int)(ys:List Str)(kf kv ko:List (Key×V)):Prop where
 ho:∀y,(valV ko (Sum.inr y)).isSome=o y
 hv:∀y,o y=true→valV kv (Sum.inr y)=some (.int (h y))
 hf:∀y∈ys,valV kf (Sum.inr y)=some (.int (g.st y))
noncomputable def sp75_spent(C:Addr):Sp:=fun vs H Q _=>∃(t:Addr) (x:TwA) (s:TwS),vs=[.ref t]∧TwAt C H t x s∧Q (.int s.pd) H
end N75
namespace L2
noncomputable def LikeN(K:PySem.W.Frag):Nat→Hp→V→V→Prop
 | 0,_,x,y=>x=y∧flatV x=true
 | n+1,H,x,y=>LikeN K n H x y∨∃a b xs ys,x= .ref a∧y= .ref b∧((SqL K H a xs∧SqL K H b ys)∨(SqT K H a xs∧SqT K H b ys))∧xs.length=ys.length∧∀(i:Nat) (x' y':V),xs[i]?=some x'→ys[i]?=some y'→LikeN K n H x' y'
noncomputable def LikeR(K:PySem.W.Frag)(n:Nat)(H:Hp)(x y:V):Prop:=∃a b xs ys,x= .ref a∧y= .ref b∧((SqL K H a xs∧SqL K H b ys)∨(SqT K H a xs∧SqT K H b ys))∧xs.length=ys.length∧∀(i:Nat) (x' y':V),xs[i]?=some x'→ys[i]?=some y'→LikeN K n H x' y'
theorem LikeN.up{K:PySem.W.Frag}{H:Hp}{n:Nat}{x y:V}(h:LikeN K n H x y):LikeN K (n+1) H x y:=by unfold LikeN;exact .inl h
theorem LikeN.of{K:PySem.W.Frag}{H:Hp}{n:Nat}{x y:V}(h:LikeR K n H x y):LikeN K (n+1) H x y:=by unfold LikeN;exact .inr h
theorem LikeN.flat{K:PySem.W.Frag}{H:Hp}{x:V}(h:flatV x=true):∀{n:Nat},LikeN K n H x x:=by
 intro n
 induction n with
 | zero=>unfold LikeN;exact ⟨rfl,h⟩
 | succ n ih=>exact ih.up
section
variable {X:Cx} {pins:List (Addr×Obj)} {σ:St} {H:Hp} {s:Shared}
theorem items_of{xs ys:List V}{us ws:List Value}{P:V→V→Prop}{R:Value→Value→Prop}(rx:Vals xs us)(ry:Vals ys ws)(hl:xs.length=ys.length)(h:∀(i:Nat) (x y:V),xs[i]?=some x→ys[i]?=some y→P x y)(k:∀x y u w,RelV x u→RelV y w→P x y→R u w):
 ∀j (h1:j < us.toArray.size) (h2:j < ws.toArray.size),R us.toArray[j] ws.toArray[j]:=by
 intro j h1 h2
 have lx:=rx.length
 have ly:=ry.length
 rw [List.size_toArray]at h1 h2
 have hx:j < xs.length:=by omega
 have hy:j < ys.length:=by omega
 obtain ⟨u,hu,ru⟩:=rx.get (i:=j) (x:=xs[j]) (by simp [hx])
 obtain ⟨w,hw,rw'⟩:=ry.get (i:=j) (x:=ys[j]) (by simp [hy])
 have eu:us.toArray[j]=u:=by
  have:=List.getElem?_eq_getElem h1
  rw [this]at hu
  simpa using hu
 have ew:ws.toArray[j]=w:=by
  have:=List.getElem?_eq_getElem h2
  rw [this]at hw
  simpa using hw
 rw [eu,ew]
 exact k _ _ _ _ ru rw' (h j _ _ (List.getElem?_eq_getElem hx) (List.getElem?_eq_getElem hy))
theorem all_true{n:Nat}:((List.range n).all fun _=>true)=true:=by rw [List.all_eq_true];intros;rfl
theorem likeR_rc{n:Nat}{x y:V}{u w:Value}{A:Around}(I:Inv X pins σ H s)(rx:RelV x u)(ry:RelV y w)(h:LikeR X.K n H x y)(hu:A.units < cLine)
 (k:∀x y u w,RelV x u→RelV y w→LikeN X.K n H x y→SeqAt.EqAt A.in1 s u w true):SeqAt.RcAt A s u w true∧SeqAt.RcNeAt A s u w false:=by
 obtain ⟨a,b,xs,ys,rfl,rfl,hq,hl,hall⟩:=h
 cases rx
 cases ry
 rcases hq with ⟨h1,h2⟩ | ⟨h1,h2⟩
 · obtain ⟨us,r1,p1,z1⟩:=I.list h1
   obtain ⟨ws,r2,p2,z2⟩:=I.list h2
   have lx:=r1.length
   have ly:=r2.length
   have he:=items_of r1 r2 hl hall k
   have c1:=SeqAt.RcAt.lists (e:=fun _=>true) p1.isList p2.isList (by simp;omega) hu he
   have c2:=SeqAt.RcNeAt.lists (e:=fun _=>true) p1.isList p2.isList (by simp;omega) hu he
   rw [all_true]at c1 c2
   exact ⟨c1,c2⟩
 · obtain ⟨us,r1,p1,z1⟩:=I.tuple h1
   obtain ⟨ws,r2,p2,z2⟩:=I.tuple h2
   have lx:=r1.length
   have ly:=r2.length
   have he:=items_of r1 r2 hl hall k
   have hsz:us.toArray.size=ws.toArray.size:=by simp;omega
   have c1:=SeqAt.RcAt.tuples (e:=fun _=>true) (show s.heap.IsTuple a us.toArray from p1) (show s.heap.IsTuple b ws.toArray from p2) hu he
   have c2:=SeqAt.RcNeAt.tuples (e:=fun _=>true) (show s.heap.IsTuple a us.toArray from p1) (show s.heap.IsTuple b ws.toArray from p2) hu he
   rw [all_true,hsz,beq_self_eq_true,Bool.and_true]at c1 c2
   exact ⟨c1,c2⟩
theorem likeN_at(I:Inv X pins σ H s):∀(n:Nat) (x y:V) (u w:Value) (A:Around),RelV x u→RelV y w→LikeN X.K n H x y→A.units+n < cLine→SeqAt.EqAt A s u w true:=by
 intro n
 induction n with
 | zero=>
  intro x y u w A rx ry h hu
  unfold LikeN at h
  obtain ⟨rfl,f⟩:=h
  have:=eqAt_V (A:=A) (s:=s) rx ry f f
  rw [show eqV x x=true from eqV_self f]at this
  exact this
 | succ n ih=>
  intro x y u w A rx ry h hu
  unfold LikeN at h
  rcases h with h | h
  · exact ih x y u w A rx ry h (by omega)
  · have c:=likeR_rc I rx ry h (by omega) (fun x y u w r1 r2 k=>ih x y u w A.in1 r1 r2 k (by show A.units+1+n < cLine;omega))
    obtain ⟨a,b,xs,ys,rfl,rfl,_⟩:=h
    cases rx
    cases ry
    by_cases e:a=b
    · subst e;exact SeqAt.EqAt.same _
    · exact SeqAt.EqAt.of_refs e c.1
noncomputable def rEqN(K:PySem.W.Frag)(n:Nat):R2:=fun x y H Q=>LikeR K n H x y∧Q (.bl true) H
noncomputable def rNeN(K:PySem.W.Frag)(n:Nat):R2:=fun x y H Q=>LikeR K n H x y∧Q (.bl false) H
theorem op_eqN{k:Nat}(n:Nat)(hr:Room k X.A)(hn:n≤100:=by decide):OpR X (compareOp .Eq) (rEqN X.K n):=by
 intro pins s σ H x y v u Q I rx ry h
 have hu:X.A.units < cLine:=Nat.lt_of_le_of_lt (by omega) hr.un
 exact (likeR_rc I rx ry h.1 hu (fun x y u w r1 r2 k=>likeN_at I n x y u w X.A.in1 r1 r2 k (by have:=hr.un;show X.A.units+1+n < cLine;omega))).1 X.prog X.w X.xe _ ⟨.bl true,H,I,rfl,h.2⟩
theorem op_neN{k:Nat}(n:Nat)(hr:Room k X.A)(hn:n≤100:=by decide):OpR X (compareOp .NotEq) (rNeN X.K n):=by
 intro pins s σ H x y v u Q I rx ry h
 have hu:X.A.units < cLine:=Nat.lt_of_le_of_lt (by omega) hr.un
 exact (likeR_rc I rx ry h.1 hu (fun x y u w r1 r2 k=>likeN_at I n x y u w X.A.in1 r1 r2 k (by have:=hr.un;show X.A.units+1+n < cLine;omega))).2 X.prog X.w X.xe _ ⟨.bl false,H,I,rfl,h.2⟩
theorem rd_eqN{K:PySem.W.Frag}{H:Hp}{Q:VK}{x y:V}{n:Nat}:rEqN K n x y H Q=(LikeR K n H x y∧Q (.bl true) H):=rfl
theorem rd_neN{K:PySem.W.Frag}{H:Hp}{Q:VK}{x y:V}{n:Nat}:rNeN K n x y H Q=(LikeR K n H x y∧Q (.bl false) H):=rfl
end
end L2
namespace L2
open PySem.W
structure ClsA(K:PySem.W.Frag)(C:Addr):Prop where
 ca:PySem.W.findIn K (.ref C) "__class__"=some (some (.builtin "object.__class__"))
 gs:PySem.W.specialIn K (.builtin "object.__class__") "__get__"=some (some (.builtin "getset_descriptor.__get__"))
 tk:PySem.W.takesIn K (.builtin "object.__class__")=some true
 mo:PySem.W.mroIn K C (.type "object")=some true
end L2
namespace N79
open L2 N1 N5 N4 N6 N12 N71 N74 N76 N75
noncomputable def shx(zs:List Int)(R:List Str)(z:Str):Nat:=((List.range zs.length).find? fun i=>decide (z∈lvl zs R i)).getD zs.length
theorem shx_at{zs:List Int}{R:List Str}{z:Str}{i:Nat}(hi:i < zs.length)(h:z∈lvl zs R i)(n:∀j,j < i→z∉lvl zs R j):shx zs R z=i:=by
 have e:(List.range zs.length).find? (fun i=>decide (z∈lvl zs R i))=some i:=List.find?_range_eq_some.mpr ⟨decide_eq_true h,List.mem_range.mpr hi,fun j hj=>by simp [n j hj]⟩
 unfold shx
 rw [e];rfl
theorem shx_no{zs:List Int}{R:List Str}{z:Str}(n:∀j,j < zs.length→z∉lvl zs R j):shx zs R z=zs.length:=by
 have e:(List.range zs.length).find? (fun i=>decide (z∈lvl zs R i))=none:=List.find?_eq_none.mpr fun j hj=>by simp [n j (List.mem_range.mp hj)]
 unfold shx
 rw [e];rfl
noncomputable def bump(ff:List Int)(k:Nat):List Int:=ff.set k (ff.getD k 0+1)
noncomputable def stepF(ff zs:List Int)(R:List Str)(d:Int)(z:Str):List Int:=if d < 6 then bump ff (shx zs R z) else ff
noncomputable def sp79_shelf(K:PySem.W.Frag)(C S:Addr):Sp:=fun vs H Q _=>∃(t:Addr) (x:TwA) (s:TwS) (z:Str) (ts:List Th),vs=[.ref t,.str z]∧TwAt C H t x s∧StockT K S H x.st ts (own t x)∧(ts.map (·.1)).Nodup∧z∈ts.map (·.1)∧s.zs.length≤6∧(∀z∈s.zs,1≤z∧z≤1000000)∧(s.R.length:Int)≤s.zs.sum∧
 ∀(k:Nat) (H':Hp),Same H H'→k≤s.zs.length→(k < s.zs.length↔z∈s.R)→shx s.zs s.R z≤k→k≤shx s.zs s.R z→Q (.int k) H'
noncomputable def sp79_rest(K:PySem.W.Frag)(C S:Addr):Sp:=fun vs H Q _=>∃(t:Addr) (x:TwA) (s:TwS) (g:Gt) (ts:List Th) (B:Nat),vs=[.ref t]∧TowG K C S H t x s g ts B∧B≤80000∧
 ∀(x':TwA) (s':TwS) (H':Hp),Off (own t x) H H'→(∀b∈own t x',b∈own t x∨H b=none)→TowG K C S H' t x' s' (restG s.R g) ts (B+100)→s'.R=s.R→s'.zs=s.zs→s'.pd=s.pd→s'.ff=s.ff→x'.st=x.st→x'.si=x.si→Q (.int ((s.R.filter g.l).length:Nat)) H'
noncomputable def sp79_found(C:Addr):Sp:=fun vs H Q _=>∃(t:Addr) (x:TwA) (s:TwS),vs=[.ref t]∧TwAt C H t x s∧∀(p:Addr) (H':Hp),H p=none→Same H H'→H' p=some (.lst (s.ff.map V.int))→Q (.ref p) H'
structure Told3(H:Hp)(p:Addr)(zs:List Int)(R:List Str)(ff:List Int)(pd:Int)(lv fo:Addr)(as:List Addr):Prop where
 o:H p=some (.lst [.ref lv,.ref fo,.int pd])
 l:H lv=some (.lst (as.map V.ref))
 a:LvAt H as zs R zs.length
 f:H fo=some (.lst (ff.map V.int))
theorem strs_alike{K:PySem.W.Frag}{H:Hp}{a b:Addr}{xs:List V}(hf:xs.all flatV=true)(h1:H a=some (.lst xs))(h2:H b=some (.lst xs)){n:Nat}:LikeN K (n+1) H (.ref a) (.ref b):=LikeN.of ⟨a,b,xs,xs,rfl,rfl,.inl ⟨SqL.of h1,SqL.of h2⟩,rfl,fun i x y e1 e2=>by
 rw [e1]at e2
 cases e2
 exact LikeN.flat (List.all_eq_true.mp hf _ (List.mem_of_getElem? e1))⟩
theorem flat_strs(xs:List Str):(xs.map V.str).all flatV=true:=by rw [List.all_eq_true];intro x hx;obtain ⟨i,_,rfl⟩:=List.mem_map.mp hx;rfl
theorem lv_like{K:PySem.W.Frag}{H:Hp}{a b:Addr}{as bs:List Addr}{zs:List Int}{R:List Str}(h1:H a=some (.lst (as.map V.ref)))(l1:LvAt H as zs R zs.length)(h2:H b=some (.lst (bs.map V.ref)))(l2:LvAt H bs zs R zs.length){n:Nat}:LikeR K (n+1) H (.ref a) (.ref b):=⟨a,b,_,_,rfl,rfl,.inl ⟨SqL.of h1,SqL.of h2⟩,by rw [List.length_map,List.length_map,l1.1,l2.1],fun i x y e1 e2=>by
 rw [List.getElem?_map]at e1 e2
 cases a1:as[i]? with
 | none=>rw [a1]at e1;cases e1
 | some p=>
 cases a2:bs[i]? with
 | none=>rw [a2]at e2;cases e2
 | some q=>
 rw [a1]at e1
 rw [a2]at e2
 cases e1
 cases e2
 exact strs_alike (flat_strs _) (l1.2 i p a1) (l2.2 i q a2)⟩
open Classical in
noncomputable def Rst(L:List Addr)(H:Hp):Hp:=fun b=>if b∈L then none else H b
theorem Rst.get{L:List Addr}{H:Hp}{b:Addr}{o:HO}(n:b∉L)(h:H b=some o):Rst L H b=some o:=by unfold Rst;rw [if_neg n];exact h
theorem Rst.at{L:List Addr}{H:Hp}{b:Addr}{o:HO}(h:Rst L H b=some o):b∉L∧H b=some o:=by
 unfold Rst at h
 split at h
 · cases h
 · rename_i n;exact ⟨n,h⟩
theorem Rst.step{L L':List Addr}{H H':Hp}(o:Off L H H')(m:∀b∈L',b∈L∨H b=none):Same (Rst L H) (Rst L' H'):=fun b u h=>by
 obtain ⟨n,e⟩:=Rst.at h
 exact Rst.get (own_off m e n) (o _ _ e n)
theorem Rst.mono{L:List Addr}{H H':Hp}(s:Same H H'):Same (Rst L H) (Rst L H'):=Rst.step (.of s) fun b hb=> .inl hb
structure Tw where
 C:Addr
 t:Addr
 x:TwA
 s:TwS
 g:Gt
noncomputable def Tw.ow(w:Tw):List Addr:=w.x.si::own w.t w.x
noncomputable def Lall(ks:List Addr)(ws:List Tw):List Addr:=ks++ws.flatMap Tw.ow
structure Tws(K:PySem.W.Frag)(S st:Addr)(ts:List Th)(B:Nat)(H:Hp)(ks:List Addr)(ws:List Tw):Prop where
 ok:∀w∈ws,TowG K w.C S H w.t w.x w.s w.g ts B
 ap:ws.Pairwise fun a b=>∀c∈a.ow,c∉b.ow
 sk:StockT K S H st ts (Lall ks ws)
 es:∀w∈ws,w.x.st=st
 kk:∀c∈ks,∀w∈ws,c∉w.ow
 kl:∀c∈ks,∃o,H c=some o∧∀e,o≠ .tup e
section
variable {K:PySem.W.Frag} {S st:Addr} {ts:List Th} {B B':Nat} {H H':Hp} {ks:List Addr} {ws l1 l2:List Tw} {w w':Tw}
theorem mem_Lall{c:Addr}:c∈Lall ks ws↔c∈ks∨∃w∈ws,c∈w.ow:=by unfold Lall;rw [List.mem_append,List.mem_flatMap]
theorem own_notup{C:Addr}{H:Hp}{t:Addr}{x:TwA}{s:TwS}(h:TwAt C H t x s):∀b∈x.si::own t x,∀e,H b≠some (.tup e):=fun b hb e z=>by
 obtain ⟨dx,fs,ho,_⟩:=h.o
 have hb':b=x.si∨b=t∨b=x.ro∨b=x.he∨b=x.la∨b=x.so∨b=x.en∨b=x.fi:=by simpa [own] using hb
 rcases hb' with k | k | k | k | k | k | k | k <;> rw [k]at z
 · rw [h.si]at z;cases z
 · rw [ho]at z;cases z
 · rw [h.ro]at z;cases z
 · rw [h.he]at z;cases z
 · rw [h.la]at z;cases z
 · rw [h.so]at z;cases z
 · rw [h.en]at z;cases z
 · rw [h.fi]at z;cases z
end
noncomputable def wrB(e:List V):Bool:=decide (e[0]?=some (.str (Str.ofString "write")))
noncomputable def wzB(y:Str)(e:List V):Bool:=wrB e && decide (e[1]?=some (.str y))
noncomputable def cameE(es:List (List V)):List (List V):=es.filter fun e=>!wrB e
noncomputable def cw(y:Str)(es:List (List V)):Nat:=(es.filter (wzB y)).length
noncomputable def FmE(es:List (List V)):Prop:=∀e∈es,∃w z tl,e= .str w:: .str z::tl
structure RelG(hd:Str→Prop)(g1 g2:Gt)(cv:Str→Int)(kp:Str→Nat):Prop where
 a1:∀y,hd y→g1.h y=cv y
 a2:∀y,hd y→g2.h y=cv y
 b1:∀y,g1.l y=false→g1.st y=cv y
 b2:∀y,g2.st y=cv y
 p:∀y,g2.l y=false
 lh:∀y,g1.l y=true→hd y
 ca:cameE g1.es=cameE g2.es
 n2:∀y,cw y g2.es=kp y
 n1:∀y,cw y g1.es+(if g1.l y=true then 1 else 0)≤kp y
 n3:∀y,0 < kp y→g1.l y=true∨0 < cw y g1.es
 f1:FmE g1.es
 f2:FmE g2.es
section
variable {hd q:Str→Prop} {g1 g2:Gt} {cv:Str→Int} {kp:Str→Nat} {z w:Str} {v S d:Int} {R:List Str}
theorem come_h(g:Gt):(comeG S R z g).h=g.h:=by
 unfold comeG
 split
 · unfold fallG;split <;> rfl
 · rfl
end
theorem rows_like{K:PySem.W.Frag}{H:Hp}{a b:Addr}{as bs:List Addr}{es:List (List V)}(ha:H a=some (.lst (as.map V.ref)))(hb:H b=some (.lst (bs.map V.ref)))(h1:EnAt H as es)(h2:EnAt H bs es)(fl:∀e∈es,e.all flatV=true){n:Nat}:LikeR K (n+1) H (.ref a) (.ref b):=⟨a,b,_,_,rfl,rfl,.inl ⟨SqL.of ha,SqL.of hb⟩,by rw [List.length_map,List.length_map,h1.1,h2.1],fun i x y e1 e2=>by
 rw [List.getElem?_map]at e1 e2
 cases a1:as[i]? with
 | none=>rw [a1]at e1;cases e1
 | some p=>
 cases a2:bs[i]? with
 | none=>rw [a2]at e2;cases e2
 | some q=>
 rw [a1]at e1
 rw [a2]at e2
 cases e1
 cases e2
 have hi:i < es.length:=by rw [← h1.1];exact (List.getElem?_eq_some_iff.mp a1).1
 have he:=List.getElem?_eq_getElem hi
 exact LikeN.of ⟨p,q,_,_,rfl,rfl,.inr ⟨SqT.of (h1.2 i p _ a1 he),SqT.of (h2.2 i q _ a2 he)⟩,rfl,fun j x y f1 f2=>by
  rw [f1]at f2
  cases f2
  exact LikeN.flat (List.all_eq_true.mp (fl _ (List.mem_of_getElem? he)) _ (List.mem_of_getElem? f1))⟩⟩
noncomputable def Kp4(K:PySem.W.Frag)(H:Hp)(a:Addr):Prop:=∃l r e s,H a=some (.tup [.ref l,.ref r,.ref e,.ref s])∧LikeR K 3 H (.ref l) (.ref r)∧LikeR K 3 H (.ref e) (.ref s)
theorem en_of{K:PySem.W.Frag}{C S:Addr}{H:Hp}{t:Addr}{x:TwA}{s:TwS}{g:Gt}{ts:List Th}{B:Nat}(h:TowG K C S H t x s g ts B):∃us:List Addr,s.es=us.map V.ref∧EnAt H us g.es:=by
 obtain ⟨us,u1,u2,u3⟩:=h.g.es
 exact ⟨us,u1,u2,u3⟩
structure KK(kk:List (Key×V))(ys:List Str)(kp:Str→Nat)(n:Nat):Prop where
 k:∀p∈kk,∃y,p.1=Sum.inr y∧y∈ys
 v:∀y∈ys,valV kk (Sum.inr y)=some (.int (kp y:Nat))
 n:kk.length≤n
structure Iv(K:PySem.W.Frag)(S st:Addr)(ts:List Th)(B:Nat)(H:Hp)(kd kl np cp la:Addr)(kk:List (Key×V))(ks:List Addr)(ys:List Str)(cells:List Int)(last:List Str)(ws:List Tw):Prop where
 tws:Tws K S st ts B H [kl,kd] ws
 hkd:H kd=some (.dK kk)
 hkl:H kl=some (.lst (ks.map V.ref))
 kq:∀a∈ks,Kp4 K (Rst (Lall [kl,kd] ws) H) a
 rnp:Rst (Lall [kl,kd] ws) H np=some (.lst (ys.map V.str))
 rcp:Rst (Lall [kl,kd] ws) H cp=some (.lst (cells.map V.int))
 rla:Rst (Lall [kl,kd] ws) H la=some (.lst (last.map V.str))
end N79
namespace N53
open L2 N1 N5
noncomputable def NumV(K:PySem.W.Frag)(H:Hp)(v:V):Prop:=∃b c,Isi K H v "int" b∧(b=true→Isi K H v "bool" c)∧((b && !c)=true→∃i,v= .int i)∧((b && !c)=false→∀i,v≠ .int i)
theorem NumV.flat{K:PySem.W.Frag}{H:Hp}{v:V}(h:flatV v=true):NumV K H v:=num_isi h
theorem NumV.lst{K:PySem.W.Frag}{H:Hp}{a:Addr}{xs:List V}(h:H a=some (.lst xs)):NumV K H (.ref a):=⟨false,false,isi_lsti h,fun h=>by (cases h),fun h=>by (cases h),fun _ i h=>by cases h⟩
theorem NumV.tup{K:PySem.W.Frag}{H:Hp}{a:Addr}{xs:List V}(h:H a=some (.tup xs)):NumV K H (.ref a):=⟨false,false,isi_tupi h,fun h=>by (cases h),fun h=>by (cases h),fun _ i h=>by cases h⟩
theorem NumV.same{K:PySem.W.Frag}{H H':Hp}{v:V}(s:Same H H')(h:NumV K H v):NumV K H' v:=let ⟨b,c,h1,h2,h3,h4⟩:=h;⟨b,c,h1.same s,fun e=>(h2 e).same s,h3,h4⟩
noncomputable def sp53_within(K:PySem.W.Frag):Sp:=fun vs H Q _=>∃(v:V) (lo hi:Int),vs=[v,.int lo,.int hi]∧NumV K H v∧Q (.bl (wIn lo hi v)) H
end N53
namespace N53
open L2 N1 N5
theorem none_of{H H':Hp}{D:Addr}(s:Same H H')(h:H' D=none):H D=none:=by
 cases e:H D with
 | none=>rfl
 | some o=>rw [s _ _ e]at h;cases h
end N53
namespace N13
open L2 N1 N5 N4 N6 N12
open N53 (NumV)
noncomputable def bad(ts:List Th)(n:Int):List Str→Nat→Option (Bool×Str×Nat)
 | [],_=>none
 | y::ys,i=>if y∈ts.map (·.1) then (if n < rmOf ts y then some (false,y,i) else bad ts n ys (i+1)) else some (true,y,i)
noncomputable def sp13_check(K:PySem.W.Frag)(x:Addr):Sp:=fun vs H Q E=>∃(v:V),vs=[v]∧NumV K H v∧(wIn 1 1000000 v=true→Q .non H)∧(wIn 1 1000000 v=false→∀H' y,Same H H'→H y=none→Err0 x H' y→E (.ref x) (some y) H')
end N13
namespace L2
theorem HOk.thaw{P:Program}{w:World}{H:Hp}{h:Heap}{d:Addr}{o:Obj}{u:HO}(ok:HOk P w H h)(e:H d=some (.frz o u)):HOk P w (upd H d u) h:=fun b v q=>by
 have own:∀c y,H c=some (.own y)→upd H d u c=some (.own y):=fun c y r=>by rw [upd_ne (fun z=>by rw [z,e]at r;cases r)];exact r
 have tup:∀c xs,H c=some (.tup xs)→upd H d u c=some (.tup xs):=fun c xs r=>by rw [upd_ne (fun z=>by rw [z,e]at r;cases r)];exact r
 by_cases hb:b=d
 · rw [hb,upd_same]at q
   cases q
   rw [hb]
   exact (ok d _ e).2.stay (fun c v _ r=>r) (fun c r=>own c _ r) (fun c xs r=>tup c xs r)
 · rw [upd_ne hb]at q
   exact (ok b v q).stay (fun c v _ r=>r) (fun c r=>own c _ r) (fun c xs r=>tup c xs r)
section
variable {X:Cx} {pins:List (Addr×Obj)} {σ:St} {H:Hp} {s:Shared}
theorem Inv.thaw{d:Addr}{o:Obj}{u:HO}(I:Inv X pins σ H s)(e:H d=some (.frz o u))(n:∀o' u',X.H₀ d≠some (.frz o' u')):Inv X pins σ (upd H d u) s:=by
 have hne:∀b,H b=none→b≠d:=fun b hb z=>by rw [z,e]at hb;cases hb
 refine ⟨I.ok,I.os,I.bare,⟨I.base.keep,I.base.slot,fun b ob q k hx=>?_,I.base.there,fun b xs q=>?_,fun b ob v q=>?_,fun b ps q=>?_⟩,I.loc,I.cell,by rw [upd_ne (hne _ I.free)];exact I.free,fun x c hc=>by rw [upd_ne (hne _ (I.freeC x c hc))];exact I.freeC x c hc,fun p hp=>?_,I.hok.thaw e,I.len⟩
 · have:=I.base.free b ob q k hx
   rw [upd_ne (hne b this)];exact this
 · have:=I.base.tups b xs q
   rw [upd_ne (fun z=>by rw [z,e]at this;cases this)];exact this
 · have:=I.base.frzs b ob v q
   rw [upd_ne (fun z=>n ob v (by rw [← z];exact q))];exact this
 · obtain ⟨more,this⟩:=I.base.tbls b ps q
   exact ⟨more,by rw [upd_ne (fun z=>by rw [z,e]at this;cases this)];exact this⟩
 · obtain ⟨k1,k2,k3⟩:=I.pin p hp
   exact ⟨k1,by rw [upd_ne (hne _ k2)];exact k2,k3⟩
noncomputable def Thw(H0:Hp)(R:Hp→Prop)(H:Hp):Prop:=R H∨∃d o u,H d=some (.frz o u)∧(∀o' u',H0 d≠some (.frz o' u'))∧R (upd H d u)
noncomputable def tThaw(H0:Hp)(t:TS):TS:=fun D σ H=>t {D with nx:=fun σ H=>Thw H0 (D.nx σ) H,rt:=fun v H=>Thw H0 (D.rt v) H} σ H
theorem ps_thaw{st:Stmt}{t:TS}(h:PS X st t):PS X st (tThaw X.H₀ t):=by
 intro pins s σ H D I ht
 refine thn (h pins s σ H _ I ht) fun f s' hf=>?_
 cases f with
 | next=>
  obtain ⟨σ',H',I',hn | ⟨d,o,u,e,n,hn⟩⟩:=hf
  · exact ⟨σ',H',I',hn⟩
  · exact ⟨σ',_,I'.thaw e n,hn⟩
 | brk=>exact hf
 | cont=>exact hf
 | ret v=>
  obtain ⟨v,σ',H',I',r,hn | ⟨d,o,u,e,n,hn⟩⟩:=hf
  · exact ⟨v,σ',H',I',r,hn⟩
  · exact ⟨v,σ',_,I'.thaw e n,r,hn⟩
end
theorem rd_thaw{H0:Hp}{t:TS}{D:Ends}{σ:St}{H:Hp}:tThaw H0 t D σ H=t {D with nx:=fun σ H=>Thw H0 (D.nx σ) H,rt:=fun v H=>Thw H0 (D.rt v) H} σ H:=rfl
end L2
namespace L2
section
variable {P:Program} {w:World} {K:PySem.W.Frag} {mg:Str→Option Value} {base:Heap} {CX:CXT} {k:Nat} {C:Addr} {m:Str} {ps:List Str} {sp sp':Sp}
theorem DefM.weak(D:DefM P w K mg base CX k C m ps sp)(h:∀vs H Q E,sp' vs H Q E→sp vs H Q E):DefM P w K mg base CX k C m ps sp':=by
 obtain ⟨f,fd,F,a,b⟩:=D.ex
 exact ⟨f,fd,F.imp h,a,b⟩
end
end L2
namespace N78
open L2 N1 N5 N4 N6 N12 N53 N13 N71 N74 N76 N75 N79
noncomputable def RefU(U:Addr)(H:Hp)(z:Str)(E:XK):Prop:=∀H' e,Same H H'→H e=none→ErrU U H' e (.str z) (.int (-1))→E (.ref U) (some e) H'
noncomputable def RefN(C:Addr)(H:Hp)(E:XK):Prop:=∀H' e,Same H H'→H e=none→Err0 C H' e→E (.ref C) (some e) H'
noncomputable def sp78_shelf(K:PySem.W.Frag)(C S U:Addr):Sp:=fun vs H Q E=>∃(t:Addr) (x:TwA) (s:TwS) (z:Str) (ts:List Th),vs=[.ref t,.str z]∧TwAt C H t x s∧StockT K S H x.st ts (own t x)∧(ts.map (·.1)).Nodup∧
 ((z∈ts.map (·.1)∧s.zs.length≤6∧(∀z∈s.zs,1≤z∧z≤1000000)∧(s.R.length:Int)≤s.zs.sum∧∀(k:Nat) (H':Hp),Same H H'→k≤s.zs.length→(k < s.zs.length↔z∈s.R)→shx s.zs s.R z≤k→k≤shx s.zs s.R z→Q (.int k) H')∨(z∉ts.map (·.1)∧RefU U H z E))
noncomputable def sp78_stored(K:PySem.W.Frag)(C S U:Addr):Sp:=fun vs H Q E=>∃(t:Addr) (x:TwA) (s:TwS) (g:Gt) (z:Str) (ts:List Th) (B:Nat) (hd:Str→Prop),vs=[.ref t,.str z]∧TwAt C H t x s∧StockT K S H x.st ts (own t x)∧(ts.map (·.1)).Nodup∧
 ((z∈ts.map (·.1)∧TwG H s g B hd∧Q (.int (g.st z)) H)∨(z∉ts.map (·.1)∧RefU U H z E))
noncomputable def sp78_read(K:PySem.W.Frag)(C S U:Addr):Sp:=fun vs H Q E=>∃(t:Addr) (x:TwA) (s:TwS) (g:Gt) (z:Str) (ts:List Th) (B:Nat),vs=[.ref t,.str z]∧TowG K C S H t x s g ts B∧
 ((z∈ts.map (·.1)∧B≤80000∧∀(s':TwS) (H':Hp),Off (own t x) H H'→TowG K C S H' t x s' (readG s.zs.sum s.R z g) ts (B+2)→s'.R=cameR z s→s'.zs=s.zs→s'.pd=s.pd+(if z∈s.R then 0 else costOf ts z)→s'.ff=bump s.ff (shx s.zs s.R z)→Q (.int ((readG s.zs.sum s.R z g).h z)) H')∨(z∉ts.map (·.1)∧RefU U H z E))
noncomputable def sp78_keep(K:PySem.W.Frag)(C S U N:Addr)(pr:Bool):Sp:=fun vs H Q E=>∃(t:Addr) (x:TwA) (s:TwS) (g:Gt) (z:Str) (vv:V) (ts:List Th) (B:Nat),vs=[.ref t,.str z,vv]∧TowG K C S H t x s g ts B∧
 ((∃v:Int,vv= .int v∧-(10 ^ 30)≤v∧v≤10 ^ 30∧z∈ts.map (·.1)∧B≤80000∧∀(s':TwS) (H':Hp),Off (own t x) H H'→TowG K C S H' t x s' (keepG pr s.zs.sum s.R z v g) ts (B+3)→s'.R=cameR z s→s'.zs=s.zs→s'.pd=s.pd→s'.ff=bump s.ff (shx s.zs s.R z)→Q .non H')∨
  (z∉ts.map (·.1)∧RefU U H z E)∨(z∈ts.map (·.1)∧NumV K H vv∧wIn (-(10 ^ 30)) (10 ^ 30) vv=false∧RefN N H E))
noncomputable def sp78_ahead(K:PySem.W.Frag)(C S U:Addr):Sp:=fun vs H Q E=>∃(t:Addr) (x:TwA) (s:TwS) (g:Gt) (z:Str) (ts:List Th) (B:Nat),vs=[.ref t,.str z]∧TowG K C S H t x s g ts B∧
 ((z∈ts.map (·.1)∧B≤80000∧∀(s':TwS) (H':Hp),Off (own t x) H H'→TowG K C S H' t x s' (aheadG s.zs.sum s.R z g) ts (B+2)→s'.R=(if z∈s.R then s.R else cameR z s)→s'.zs=s.zs→s'.pd=s.pd+(if z∈s.R then 0 else costOf ts z)→s'.ff=s.ff→Q (.bl (decide (z∉s.R))) H')∨(z∉ts.map (·.1)∧RefU U H z E))
noncomputable def SzOk(xs:List V):Prop:=1≤xs.length∧xs.length≤6∧∀v∈xs,wIn 1 1000000 v=true
noncomputable def sp78_sizes(K:PySem.W.Frag)(N:Addr):Sp:=fun vs H Q E=>∃(a:Addr) (xs:List V),vs=[.ref a]∧SqL K H a xs∧xs.length≤60∧(∀v∈xs,NumV K H v)∧((SzOk xs∧Q .non H)∨(¬SzOk xs∧RefN N H E))
noncomputable def sp78_rooms(K:PySem.W.Frag)(S U:Addr):Sp:=fun vs H Q E=>∃(p a:Addr) (ts:List Th) (ys:List Str),vs=[.ref p,.ref a]∧StockAt K S H p ts∧(ts.map (·.1)).Nodup∧SqL K H a (ys.map V.str)∧(∀y∈ys,y∈ts.map (·.1))∧ys.length≤60∧(∀y∈ys,y.length≤100)∧(((∀t∈ts,t.2.2=1)∧Q .non H)∨((∃y∈ys,∀t∈ts,t.1=y→t.2.2≠1)∧RefN U H E))
noncomputable def sp78_init(K:PySem.W.Frag)(C S N U:Addr):Sp:=fun vs H Q E=>∃(t dx p a:Addr) (ts:List Th) (xs:List V),vs=[.ref t,.ref p,.ref a]∧H t=some (.ins C dx [])∧StockAt K S H p ts∧(ts.map (·.1)).Nodup∧ts.length≤59∧SqL K H a xs∧xs.length≤60∧(∀v∈xs,NumV K H v)∧(∀y∈ts.map (·.1),y.length≤100)∧
 ((∃zs:List Int,xs=zs.map V.int∧(∀t∈ts,t.2.2=1)∧1≤zs.length∧zs.length≤6∧(∀z∈zs,1≤z∧z≤1000000)∧∀(x:TwA) (s:TwS) (H':Hp),SameBut t H H'→TowG K C S H' t x s g0 ts 1→s.R=[]→s.zs=zs→s.pd=0→s.ff=List.replicate (zs.length+1) 0→x.st=p→(∀b∈x.si::own t x,b=t∨H b=none)→Q .non H')∨
  (¬SzOk xs∧RefN N H E)∨(SzOk xs∧(∃t∈ts,t.2.2≠1)∧RefN U H E))
section
variable {K:PySem.W.Frag} {C S U N:Addr} {vs:List V} {H:Hp} {Q:VK} {E:XK}
theorem im_stored:sp74_stored K C S vs H Q E→sp78_stored K C S U vs H Q E:=fun ⟨t,x,s,g,z,ts,B,hd,e,h1,h2,h3,h4,h5⟩=>⟨t,x,s,g,z,ts,B,hd,e,h1,h2,h3,.inl ⟨h4,h5⟩⟩
theorem im_tell{n:Nat}:sp71_tell n K S vs H Q E→sp_tell n K S U vs H Q E:=fun ⟨p,ts,z,e,h1,h2,h3,h4⟩=>⟨p,ts,z,e,h1,h2,h4,fun h=>absurd h3 h⟩
end
theorem szok_of{zs:List Int}(h1:1≤zs.length)(h6:zs.length≤6)(hz:∀z∈zs,1≤z∧z≤1000000):SzOk (zs.map V.int):=by
 refine ⟨by rw [List.length_map];exact h1,by rw [List.length_map];exact h6,fun v hv=>?_⟩
 obtain ⟨z,hzz,rfl⟩:=List.mem_map.mp hv
 have:=hz z hzz
 simp [wIn];omega
theorem th_uniq{ts:List Th}(nd:(ts.map (·.1)).Nodup){t u:Th}(ht:t∈ts)(hu:u∈ts)(e:t.1=u.1):t=u:=by
 induction ts with
 | nil=>cases ht
 | cons a r ih=>
  rw [List.map_cons,List.nodup_cons]at nd
  rcases List.mem_cons.mp ht with h1 | h1
  · rcases List.mem_cons.mp hu with h2 | h2
    · rw [h1,h2]
    · exact absurd (List.mem_map.mpr ⟨u,h2,by rw [← e,h1]⟩) nd.1
  · rcases List.mem_cons.mp hu with h2 | h2
    · exact absurd (List.mem_map.mpr ⟨t,h1,by rw [e,h2]⟩) nd.1
    · exact ih nd.2 h1 h2
noncomputable def sp78_stock(K:PySem.W.Frag)(C:Addr):Sp:=fun vs H Q _=>∃(p dx ra:Addr) (rs:List Rw),vs=[.ref p,.ref ra]∧H p=some (.ins C dx [])∧SqL K H ra (rs.map fun t=>V.ref t.1)∧(∀t∈rs,SqT K H t.1 [t.2.1,t.2.2.1,t.2.2.2])∧initR rs=none∧
 ∀H' d,SameBut p H H'→StockAt K C H' p (rs.map thOf)→H' p=some (.ins C dx (flds d))→H d=none→Q .non H'
structure MkP(K:PySem.W.Frag)(S:Addr)(H:Hp)(p a:Addr)(ts:List Th)(xs:List V):Prop where
 s:StockAt K S H p ts
 nd:(ts.map (·.1)).Nodup
 tl:ts.length≤59
 a:SqL K H a xs
 xl:xs.length≤60
 xn:∀v∈xs,NumV K H v
 nl:∀y∈ts.map (·.1),y.length≤100
noncomputable def MkOk(xs:List V)(ts:List Th)(zs:List Int):Prop:=xs=zs.map V.int∧(∀t∈ts,t.2.2=1)∧1≤zs.length∧zs.length≤6∧∀z∈zs,1≤z∧z≤1000000
structure New78(K:PySem.W.Frag)(S C1 C2:Addr)(H H':Hp)(p:Addr)(i:Int)(ts:List Th)(zs:List Int)(C t:Addr)(x:TwA)(s:TwS):Prop where
 c:i=1∧C=C2∨i≠1∧C=C1
 w:TowG K C S H' t x s g0 ts 1
 r:s.R=[]
 z:s.zs=zs
 pd:s.pd=0
 ff:s.ff=List.replicate (zs.length+1) 0
 st:x.st=p
 n:∀b∈x.si::own t x,H b=none
theorem New78.same{K:PySem.W.Frag}{S C1 C2:Addr}{H H' H1:Hp}{p:Addr}{i:Int}{ts:List Th}{zs:List Int}{C t:Addr}{x:TwA}{s:TwS}(h:New78 K S C1 C2 H H' p i ts zs C t x s)(m:Same H' H1):New78 K S C1 C2 H H1 p i ts zs C t x s:=⟨h.c,h.w.same m,h.r,h.z,h.pd,h.ff,h.st,h.n⟩
theorem RefN.same{C:Addr}{H H':Hp}{E:XK}(h:RefN C H E)(m:Same H H'):RefN C H' E:=fun H1 e sm he er=>h H1 e (m.trans sm) (N53.none_of m he) er
theorem RefU.same{C:Addr}{H H':Hp}{z:Str}{E:XK}(h:RefU C H z E)(m:Same H H'):RefU C H' z E:=fun H1 e sm he er=>h H1 e (m.trans sm) (N53.none_of m he) er
noncomputable def sp78_ltower(K:PySem.W.Frag)(C1 C2 S N U:Addr):Sp:=fun vs H Q E=>∃(p a:Addr) (i:Int) (ts:List Th) (xs:List V),vs=[.ref p,.ref a,.int i]∧MkP K S H p a ts xs∧
 ((∃zs,MkOk xs ts zs∧∀(C t:Addr) (x:TwA) (s:TwS) (H':Hp),Same H H'→New78 K S C1 C2 H H' p i ts zs C t x s→Q (.ref t) H')∨(¬SzOk xs∧RefN N H E)∨(SzOk xs∧(∃t∈ts,t.2.2≠1)∧RefN U H E))
noncomputable def sp78_made(K:PySem.W.Frag)(C1 C2 S:Addr):Sp:=fun vs H Q _=>∃(p a:Addr) (i:Int) (ts:List Th) (xs:List V),vs=[.ref p,.ref a,.int i]∧MkP K S H p a ts xs∧
 ((∃zs,MkOk xs ts zs∧∀(C t tp:Addr) (x:TwA) (s:TwS) (H':Hp),Same H H'→New78 K S C1 C2 H H' p i ts zs C t x s→H' tp=some (.tup [.str "made",.ref t])→Q (.ref tp) H')∨
  (¬SzOk xs∧∀(tp:Addr) (H':Hp),Same H H'→H' tp=some (.tup [.str "number",.non])→Q (.ref tp) H')∨(SzOk xs∧(∃t∈ts,t.2.2≠1)∧∀(tp:Addr) (H':Hp),Same H H'→H' tp=some (.tup [.str "unlike",.non])→Q (.ref tp) H'))
noncomputable def sp78_noval(K:PySem.W.Frag):Sp:=fun vs H Q _=>∃c:Int,vs=[.int c]∧∀(v:V) (H':Hp),Same H H'→NumV K H' v→wIn (-(10 ^ 30)) (10 ^ 30) v=false→Q v H'
noncomputable def sp78_sizesD(K:PySem.W.Frag):Sp:=fun vs H Q _=>∃c:Int,vs=[.int c]∧∀(p:Addr) (xs:List V) (H':Hp),H p=none→Same H H'→H' p=some (.lst xs)→xs.length≤60→(∀v∈xs,NumV K H' v)→(c % 4=1∨c % 4=2→¬SzOk xs)→(¬(c % 4=1∨c % 4=2)→∃zs:List Int,xs=zs.map V.int∧1≤zs.length∧zs.length≤6∧∀z∈zs,1≤z∧z≤1000000)→Q (.ref p) H'
noncomputable def Tr78(H:Hp)(tp:Addr)(w:Str)(u:Option Str):Prop:=∃v,H tp=some (.tup [.str w,v])∧match u with
 | none=>v= .non
 | some z=>∃tq,v= .ref tq∧H tq=some (.tup [.str z,.int (-1)])
noncomputable def sp78_expected:Sp:=fun vs H Q _=>∃(z y:Str) (b:Bool) (d:Int),vs=[.str z,.str y,.bl b,.int d]∧∀(tp:Addr) (H':Hp),Same H H'→(if z=y then Tr78 H' tp "unknown" (some z) else if b=false∧0 < d∧d < 3 then Tr78 H' tp "number" none else Tr78 H' tp "done" none)→Q (.ref tp) H'
theorem ints78{A:Int→Prop}:∀yl:List V,(∀(i:Nat) y,yl[i]?=some y→∃z:Int,y= .int z∧A z)→∃zs:List Int,yl=zs.map V.int∧∀z∈zs,A z
 | [],_=>⟨[],rfl,fun z hz=>by cases hz⟩
 | y::r,h=>by
  obtain ⟨z,rfl,hz⟩:=h 0 y rfl
  obtain ⟨zs,e,hzs⟩:=ints78 r fun i y' e=>h (i+1) y' e
  refine ⟨z::zs,by rw [e];rfl,fun u hu=>?_⟩
  rcases List.mem_cons.mp hu with k | k
  · rw [k];exact hz
  · exact hzs u k
theorem ones_mem{k:Nat}{v:V}(h:v∈(List.replicate k [V.int 1]).flatten):v=V.int 1:=by
 obtain ⟨l,hl,hv⟩:=List.mem_flatten.mp h
 rw [(List.mem_replicate.mp hl).2]at hv
 exact List.mem_singleton.mp hv
theorem ones_len(k:Nat):((List.replicate k [V.int 1]).flatten).length=k:=by rw [len_rep];simp
theorem int_num{K:PySem.W.Frag}{H:Hp}{zs:List Int}{v:V}(h:v∈zs.map V.int):NumV K H v:=by
 obtain ⟨z,_,rfl⟩:=List.mem_map.mp h
 exact NumV.flat rfl
theorem cut78(ns:List Int)(lo hi:Option Int):∃cs:List Int,cutV (ns.map V.int) lo hi=cs.map V.int∧cs.length≤ns.length:=by
 unfold cutV
 rw [← List.map_drop,← List.map_take]
 refine ⟨_,rfl,?_⟩
 rw [List.length_take,List.length_drop]
 omega
noncomputable def dk(d:Int):Int:=if d=0 then 0 else if d < 3 then 3 else 6
noncomputable def rN(S:Int)(R:List Str)(d:Int)(z:Str):List Str:=if d=4 then R else stepR S R (dk d) z
noncomputable def gN(pr:Bool)(S:Int)(R:List Str)(d:Int)(z:Str)(v:Int)(g:Gt):Gt:=if d=4 then g else stepG pr S R (dk d) z v g
noncomputable def pN(R:List Str)(d:Int)(z:Str)(ts:List Th):Int:=if d=4 then 0 else if (preW R (dk d) z).isSome then costOf ts z else 0
noncomputable def fN(ff zs:List Int)(R:List Str)(d:Int)(z:Str):List Int:=if d=4 then ff else stepF ff zs R (dk d) z
structure Stp(pr:Bool)(d:Int)(z:Str)(v:Int)(ts:List Th)(s:TwS)(g:Gt)(s':TwS)(g':Gt):Prop where
 zs:s'.zs=s.zs
 r:s'.R=rN s.zs.sum s.R d z
 pd:s'.pd=s.pd+pN s.R d z ts
 ff:s'.ff=fN s.ff s.zs s.R d z
 g:g'=gN pr s.zs.sum s.R d z v g
section
variable {pr:Bool} {d:Int} {z:Str} {v:Int} {ts:List Th} {s s':TwS} {g:Gt}
theorem stp_read(h:d=0)(e1:s'.R=cameR z s)(e2:s'.zs=s.zs)(e3:s'.pd=s.pd+(if z∈s.R then 0 else costOf ts z))(e4:s'.ff=bump s.ff (shx s.zs s.R z)):Stp pr d z v ts s g s' (readG s.zs.sum s.R z g):=by
 subst h
 refine ⟨e2,e1,?_,e4,rfl⟩
 rw [e3]
 show _=s.pd+(if (preW s.R 0 z).isSome then costOf ts z else 0)
 unfold preW
 by_cases k:z∈s.R
 · rw [if_pos k,if_pos k];rfl
 · rw [if_neg k,if_neg k,if_pos (show (0:Int) < 3 by omega)];rfl
theorem dk_keep(h0:0 < d)(h3:d < 3):dk d=3:=by unfold dk;rw [if_neg (show ¬d=0 by omega),if_pos h3]
theorem stp_keep(h0:0 < d)(h3:d < 3)(e1:s'.R=cameR z s)(e2:s'.zs=s.zs)(e3:s'.pd=s.pd)(e4:s'.ff=bump s.ff (shx s.zs s.R z)):Stp pr d z v ts s g s' (keepG pr s.zs.sum s.R z v g):=by
 have h4:¬d=4:=by omega
 refine ⟨e2,?_,?_,?_,?_⟩
 · unfold rN;rw [if_neg h4,dk_keep h0 h3];exact e1
 · unfold pN;rw [if_neg h4,dk_keep h0 h3,e3,show preW s.R 3 z=none by unfold preW;rw [if_neg (show ¬(3:Int) < 3 by omega),if_neg (show ¬(3:Int)=6 by omega)];split <;> rfl]
   exact (Int.add_zero _).symm
 · unfold fN;rw [if_neg h4,dk_keep h0 h3];exact e4
 · unfold gN;rw [if_neg h4,dk_keep h0 h3];rfl
theorem stp_ahead(h:d=3)(e1:s'.R=(if z∈s.R then s.R else cameR z s))(e2:s'.zs=s.zs)(e3:s'.pd=s.pd+(if z∈s.R then 0 else costOf ts z))(e4:s'.ff=s.ff):Stp pr d z v ts s g s' (aheadG s.zs.sum s.R z g):=by
 subst h
 refine ⟨e2,?_,?_,e4,rfl⟩
 · rw [e1]
   show _=stepR s.zs.sum s.R 6 z
   unfold stepR
   rw [if_neg (show ¬(6:Int) < 6 by omega)]
   by_cases k:z∈s.R
   · rw [if_pos k,if_pos ⟨rfl,k⟩]
   · rw [if_neg k,if_neg (fun e=>k e.2)];rfl
 · rw [e3]
   show _=s.pd+(if (preW s.R 6 z).isSome then costOf ts z else 0)
   unfold preW
   by_cases k:z∈s.R
   · rw [if_pos k,if_pos k];rfl
   · rw [if_neg k,if_neg k,if_neg (show ¬(6:Int) < 3 by omega),if_pos rfl];rfl
theorem stp_stored(h:d=4):Stp pr d z v ts s g s g:=by
 refine ⟨rfl,?_,?_,?_,?_⟩
 · unfold rN;rw [if_pos h]
 · unfold pN;rw [if_pos h];exact (Int.add_zero _).symm
 · unfold fN;rw [if_pos h]
 · unfold gN;rw [if_pos h]
end
noncomputable def sp78_tried(K:PySem.W.Frag)(C1 C2 S:Addr):Sp:=fun vs H Q _=>∃(C t:Addr) (z:Str) (d:Int) (vv:V) (pr:Bool) (x:TwA) (s:TwS) (g:Gt) (ts:List Th) (B:Nat),vs=[.ref t,.str z,.int d,vv]∧(pr=true∧C=C2∨pr=false∧C=C1)∧TowG K C S H t x s g ts B∧B≤80000∧0≤d∧d < 5∧
 ((z∉ts.map (·.1)∧∀(tp:Addr) (H':Hp),Same H H'→Tr78 H' tp "unknown" (some z)→Q (.ref tp) H')∨
  (z∈ts.map (·.1)∧0 < d∧d < 3∧NumV K H vv∧wIn (-(10 ^ 30)) (10 ^ 30) vv=false∧∀(tp:Addr) (H':Hp),Same H H'→Tr78 H' tp "number" none→Q (.ref tp) H')∨
  (z∈ts.map (·.1)∧∃v:Int,(0 < d→d < 3→vv= .int v∧-(10 ^ 30)≤v∧v≤10 ^ 30)∧∀(s':TwS) (g':Gt) (tp:Addr) (H':Hp),Off (own t x) H H'→TowG K C S H' t x s' g' ts (B+3)→Stp pr d z v ts s g s' g'→Tr78 H' tp "done" none→Q (.ref tp) H'))
structure St78(H:Hp)(p:Addr)(zs:List Int)(R:List Str)(g:Gt)(ff:List Int)(pd:Int)(ys:List Str)(lv di fo so:Addr)(as us:List Addr):Prop where
 p:H p=some (.lst [.ref lv,.ref di,.ref fo,.int pd,.ref so])
 l:H lv=some (.lst (as.map V.ref))
 la:LvAt H as zs R zs.length
 d:H di=some (.lst (us.map V.ref))
 da:EnAt H us g.es
 f:H fo=some (.lst (ff.map V.int))
 s:H so=some (.lst ((ys.map g.st).map V.int))
noncomputable def sp78_state(K:PySem.W.Frag)(C1 C2 S:Addr):Sp:=fun vs H Q _=>∃(C t a:Addr) (x:TwA) (s:TwS) (g:Gt) (ts:List Th) (B:Nat) (ys:List Str),vs=[.ref t,.ref a]∧(C=C2∨C=C1)∧TowG K C S H t x s g ts B∧SqL K H a (ys.map V.str)∧ys.length≤60∧(∀y∈ys,y∈ts.map (·.1))∧
 ∀(p lv di fo so:Addr) (as us:List Addr) (H':Hp),Same H H'→St78 H' p s.zs s.R g s.ff s.pd ys lv di fo so as us→Q (.ref p) H'
noncomputable def W78(K:PySem.W.Frag)(Q:VK)(U N t:Addr)(z:Str)(d:Int)(vv:V):XK:=fun cls ox H'=>∃x,ox=some x∧∃b,PySem.W.exmOne K cls (.ref U)=some b∧if b=true then
 tSeq (tAsg (tC (V.str "unknown")) (gName 4)) (tAsg (tTup (tCons (tFldX K (tVar 6) "name") (tCons (tFldX K (tVar 6) "place") tNil))) (gName 5)) {nx:=fun σ H=>∃v,(List.set σ 6 none)[4]?=some (some v)∧∃v_1,(List.set σ 6 none)[5]?=some (some v_1)∧2≤sizeLine∧∀p,H p=none→Q (.ref p) (upd H p (.tup [v,v_1])),rt:=Q} [some (V.ref t),some (V.str z),some (V.int d),some vv,some (V.str "done"),some V.non,some (V.ref x)] H'
 else ∃b,PySem.W.exmOne K cls (.ref N)=some b∧if b=true then 2≤sizeLine∧∀p,H' p=none→Q (.ref p) (upd H' p (.tup [V.str "number",V.non])) else False
structure Twz(K:PySem.W.Frag)(S:Addr)(sts:List Addr)(ts:List Th)(B:Nat)(H:Hp)(ks:List Addr)(ws:List Tw):Prop where
 ok:∀w∈ws,TowG K w.C S H w.t w.x w.s w.g ts B
 ap:ws.Pairwise fun a b=>∀c∈a.ow,c∉b.ow
 sk:∀st∈sts,StockT K S H st ts (Lall ks ws)
 es:∀w∈ws,w.x.st∈sts
 kk:∀c∈ks,∀w∈ws,c∉w.ow
 kl:∀c∈ks,∃o,H c=some o∧∀e,o≠ .tup e
section
variable {K:PySem.W.Frag} {S:Addr} {sts:List Addr} {ts:List Th} {B B':Nat} {H H':Hp} {ks:List Addr} {ws l1 l2:List Tw} {w w':Tw}
theorem Twz.live(h:Twz K S sts ts B H ks ws):∀b∈Lall ks ws,∃o,H b=some o:=fun b hb=>by
 rcases mem_Lall.mp hb with hb | ⟨w,hw,hb⟩
 · obtain ⟨o,e,_⟩:=h.kl b hb;exact ⟨o,e⟩
 · exact own_some (h.ok w hw).to.tw b hb
theorem Twz.notup(h:Twz K S sts ts B H ks ws):∀b∈Lall ks ws,∀e,H b≠some (.tup e):=fun b hb e z=>by
 rcases mem_Lall.mp hb with hb | ⟨w,hw,hb⟩
 · obtain ⟨o,k1,k2⟩:=h.kl b hb;rw [k1]at z;cases z;exact k2 _ rfl
 · exact own_notup (h.ok w hw).to.tw b hb e z
theorem Twz.same(m:Same H H')(h:Twz K S sts ts B H ks ws):Twz K S sts ts B H' ks ws:=⟨fun w hw=>(h.ok w hw).same m,h.ap,fun st hs=>(h.sk st hs).off (.of m),h.es,h.kk,fun c hc=>by obtain ⟨o,e,n⟩:=h.kl c hc;exact ⟨o,m _ _ e,n⟩⟩
theorem Twz.up(h:Twz K S sts ts B H ks ws)(hB:B≤B')(hb:B'≤100000):Twz K S sts ts B' H ks ws:=⟨fun w hw=>(h.ok w hw).up hB hb,h.ap,h.sk,h.es,h.kk,h.kl⟩
theorem Twz.n{p:Addr}(h:Twz K S sts ts B H ks ws)(hp:H p=none):p∉Lall ks ws:=fun hb=>by obtain ⟨o,e⟩:=h.live p hb;rw [hp]at e;cases e
theorem Twz.deed(h:Twz K S sts ts B H ks (l1++w::l2))(o:Off (own w.t w.x) H H')(m:∀b∈own w'.t w'.x,b∈own w.t w.x∨H b=none)(tw:TowG K w'.C S H' w'.t w'.x w'.s w'.g ts B')(hB:B≤B')(est:w'.x.st=w.x.st)(esi:w'.x.si=w.x.si):
 Twz K S sts ts B' H' ks (l1++w'::l2)∧Same (Rst (Lall ks (l1++w::l2)) H) (Rst (Lall ks (l1++w'::l2)) H')∧∀c∈ks,∀o,H c=some o→H' c=some o:=by
 have hw:=h.ok w (by simp)
 have hb:B'≤100000:=tw.g.b
 have kt:=keepT hw.to.tw o
 have m2:∀b∈w'.ow,b∈w.ow∨H b=none:=fun b hb=>by
  rcases List.mem_cons.mp hb with e | e
  · exact .inl (by rw [e,esi];exact List.mem_cons_self)
  · exact (m b e).imp (List.mem_cons_of_mem _) id
 have mL:∀b∈Lall ks (l1++w'::l2),b∈Lall ks (l1++w::l2)∨H b=none:=fun b hb=>by
  rcases mem_Lall.mp hb with hb | ⟨v,hv,hb⟩
  · exact .inl (mem_Lall.mpr (.inl hb))
  · rcases List.mem_append.mp hv with hv | hv
    · exact .inl (mem_Lall.mpr (.inr ⟨v,List.mem_append_left _ hv,hb⟩))
    · rcases List.mem_cons.mp hv with e | hv
      · rw [e]at hb;exact (m2 b hb).imp (fun k=>mem_Lall.mpr (.inr ⟨w,by simp,k⟩)) id
      · exact .inl (mem_Lall.mpr (.inr ⟨v,List.mem_append_right _ (List.mem_cons_of_mem _ hv),hb⟩))
 have oL:Off (Lall ks (l1++w::l2)) H H':=o.mono fun b hb=>mem_Lall.mpr (.inr ⟨w,by simp,List.mem_cons_of_mem _ hb⟩)
 have hap:=List.pairwise_append.mp h.ap
 have hap2:=List.pairwise_cons.mp hap.2.1
 have far:∀v∈l1++l2,(∀c∈v.ow,c∉w.ow)∧∀c∈w.ow,c∉v.ow:=fun v hv=>by
  rcases List.mem_append.mp hv with hv | hv
  · exact ⟨hap.2.2 v hv w List.mem_cons_self,fun c h1 h2=>hap.2.2 v hv w List.mem_cons_self c h2 h1⟩
  · exact ⟨fun c h1 h2=>hap2.1 v hv c h2 h1,hap2.1 v hv⟩
 have lv:∀v∈l1++l2,v∈l1++w::l2:=fun v hv=>by
  rcases List.mem_append.mp hv with hv | hv
  · exact List.mem_append_left _ hv
  · exact List.mem_append_right _ (List.mem_cons_of_mem _ hv)
 have sk:∀st∈sts,StockT K S H' st ts (Lall ks (l1++w'::l2)):=fun st hs=>stock_step (h.sk st hs) oL (fun b hb=>hb) mL
 have far2:∀v∈l1++l2,(∀c∈v.ow,c∉w'.ow):=fun v hv c h1 h2=>by
  rcases m2 c h2 with k | k
  · exact (far v hv).1 c h1 k
  · obtain ⟨u,e⟩:=own_some (h.ok v (lv v hv)).to.tw c h1;rw [k]at e;cases e
 have okv:∀v∈l1++l2,TowG K v.C S H' v.t v.x v.s v.g ts B':=fun v hv=>
  (tow_step (h.ok v (lv v hv)) (M:=own w.t w.x) o (fun b h1 h2=>(far v hv).1 b h1 (List.mem_cons_of_mem _ h2)) kt (by
   exact (sk _ (h.es v (lv v hv))).mono fun b hb=> .inl (mem_Lall.mpr (.inr ⟨v,by
    rcases List.mem_append.mp hv with hv | hv
    · exact List.mem_append_left _ hv
    · exact List.mem_append_right _ (List.mem_cons_of_mem _ hv),List.mem_cons_of_mem _ hb⟩)))).up hB hb
 have all:∀v∈l1++w'::l2,v=w'∨v∈l1++l2:=fun v hv=>by
  rcases List.mem_append.mp hv with hv | hv
  · exact .inr (List.mem_append_left _ hv)
  · rcases List.mem_cons.mp hv with e | hv
    · exact .inl e
    · exact .inr (List.mem_append_right _ hv)
 have kw:∀c∈ks,c∉w.ow:=fun c hc=>h.kk c hc w (by simp)
 refine ⟨⟨fun v hv=>(all v hv).elim (fun e=>by rw [e];exact tw) (okv v),?_,sk,fun v hv=>(all v hv).elim (fun e=>by rw [e,est];exact h.es w (by simp)) (fun k=>h.es v (lv v k)),fun c hc v hv=>(all v hv).elim (fun e=>?_) (fun k=>h.kk c hc v (lv v k)),fun c hc=>?_⟩,Rst.step oL mL,fun c hc u e=>o _ _ e fun k=>kw c hc (List.mem_cons_of_mem _ k)⟩
 · refine List.pairwise_append.mpr ⟨hap.1,List.pairwise_cons.mpr ⟨fun v hv c h1 h2=>far2 v (List.mem_append_right _ hv) c h2 h1,hap2.2⟩,fun a ha b hb=>?_⟩
   rcases List.mem_cons.mp hb with e | hb
   · rw [e];exact far2 a (List.mem_append_left _ ha)
   · exact hap.2.2 a ha b (List.mem_cons_of_mem _ hb)
 · rw [e]
   obtain ⟨u,k,_⟩:=h.kl c hc
   exact own_off m2 k (kw c hc)
 · obtain ⟨u,k1,k2⟩:=h.kl c hc
   exact ⟨u,o _ _ k1 fun k=>kw c hc (List.mem_cons_of_mem _ k),k2⟩
theorem Twz.put{c:Addr}{u:HO}(h:Twz K S sts ts B H ks ws)(hc:c∈ks)(hu:∀e,u≠ .tup e)(sb:SameBut c H H')(hc':H' c=some u):
 Twz K S sts ts B H' ks ws∧Same (Rst (Lall ks ws) H) (Rst (Lall ks ws) H'):=by
 have o:Off [c] H H':=fun b v e n=>sb b v e fun z=>n (by rw [z];simp)
 have oL:Off (Lall ks ws) H H':=o.mono fun b hb=>by rw [List.mem_singleton.mp hb];exact mem_Lall.mpr (.inl hc)
 obtain ⟨u0,k1,k2⟩:=h.kl c hc
 have kt:∀v e,H v=some (.tup e)→H' v=some (.tup e):=fun v e hv=>sb _ _ hv fun z=>by rw [z,k1]at hv;cases hv;exact k2 _ rfl
 have sk:∀st∈sts,StockT K S H' st ts (Lall ks ws):=fun st hs=>stock_step (h.sk st hs) oL (fun b hb=>hb) (fun b hb=> .inl hb)
 refine ⟨⟨fun v hv=>tow_step (h.ok v hv) (M:=[c]) o (fun b h1 h2=>h.kk c hc v hv (by rw [← List.mem_singleton.mp h2];exact h1)) kt (by
  exact (sk _ (h.es v hv)).mono fun b hb=> .inl (mem_Lall.mpr (.inr ⟨v,hv,List.mem_cons_of_mem _ hb⟩))),h.ap,sk,h.es,h.kk,fun d hd=>?_⟩,Rst.step oL fun b hb=> .inl hb⟩
 by_cases e:d=c
 · rw [e];exact ⟨u,hc',hu⟩
 · obtain ⟨v,p1,p2⟩:=h.kl d hd;exact ⟨v,sb _ _ p1 e,p2⟩
theorem Twz.zero:Twz K S [] ts B H [] []:=⟨(fun w hw=>by cases hw),List.Pairwise.nil,(fun st hs=>by cases hs),(fun w hw=>by cases hw),(fun c hc=>by cases hc),(fun c hc=>by cases hc)⟩
theorem Twz.add(h:Twz K S sts ts B H ks ws)(m:Same H H')(tw:TowG K w.C S H' w.t w.x w.s w.g ts B)(n:∀b∈w.ow,H b=none)(e:w.x.st∈sts):Twz K S sts ts B H' ks (ws++[w]):=by
 have far:∀b o,H b=some o→b∉w.ow:=fun b o k hb=>by rw [n b hb]at k;cases k
 refine ⟨fun v hv=>?_,List.pairwise_append.mpr ⟨h.ap,List.pairwise_singleton _ _,fun a ha b hb c hc=>?_⟩,(fun st hs=>((h.sk st hs).mono fun b hb=>?_).off (.of m)),fun v hv=>?_,fun c hc v hv=>?_,fun c hc=>?_⟩
 · rcases List.mem_append.mp hv with hv | hv
   · exact (h.ok v hv).same m
   · rw [List.mem_singleton.mp hv];exact tw
 · rw [List.mem_singleton.mp hb]
   obtain ⟨o,k⟩:=own_some (h.ok a ha).to.tw c hc
   exact far c o k
 · rcases mem_Lall.mp hb with hb | ⟨v,hv,hb⟩
   · exact .inl (mem_Lall.mpr (.inl hb))
   · rcases List.mem_append.mp hv with hv | hv
     · exact .inl (mem_Lall.mpr (.inr ⟨v,hv,hb⟩))
     · rw [List.mem_singleton.mp hv]at hb;exact .inr (n b hb)
 · rcases List.mem_append.mp hv with hv | hv
   · exact h.es v hv
   · rw [List.mem_singleton.mp hv];exact e
 · obtain ⟨o,k,_⟩:=h.kl c hc
   rcases List.mem_append.mp hv with hv | hv
   · exact h.kk c hc v hv
   · rw [List.mem_singleton.mp hv];exact far c o k
 · obtain ⟨o,k,k2⟩:=h.kl c hc
   exact ⟨o,m _ _ k,k2⟩
theorem Twz.addK{c:Addr}{o:HO}(h:Twz K S sts ts B H ks ws)(m:Same H H')(hc:H c=none)(hc':H' c=some o)(ho:∀e,o≠ .tup e):Twz K S sts ts B H' (c::ks) ws:=by
 refine ⟨fun v hv=>(h.ok v hv).same m,h.ap,(fun st hs=>((h.sk st hs).mono fun b hb=>?_).off (.of m)),h.es,fun d hd v hv=>?_,fun d hd=>?_⟩
 · rcases mem_Lall.mp hb with hb | hb
   · rcases List.mem_cons.mp hb with e | hb
     · rw [e];exact .inr hc
     · exact .inl (mem_Lall.mpr (.inl hb))
   · exact .inl (mem_Lall.mpr (.inr hb))
 · rcases List.mem_cons.mp hd with e | hd
   · rw [e]
     intro k
     obtain ⟨u,k2⟩:=own_some (h.ok v hv).to.tw c k
     rw [hc]at k2;cases k2
   · exact h.kk d hd v hv
 · rcases List.mem_cons.mp hd with e | hd
   · rw [e];exact ⟨o,hc',ho⟩
   · obtain ⟨u,k1,k2⟩:=h.kl d hd;exact ⟨u,m _ _ k1,k2⟩
theorem stock_new{p dx d:Addr}{L:List Addr}(h:StockAt K S H p ts)(hp:H p=some (.ins S dx (flds d)))(n1:p∉L)(n2:d∉L)(n3:∀b∈L,∀e,H b≠some (.tup e))(n4:∀b∈L,∀o e,H b≠some (.frz o (.tup e))):StockT K S H p ts L:=by
 obtain ⟨dx',d',kvs,h1,h2,_,_,h5,h6⟩:=(StockT.of h).ex
 rw [hp]at h1
 injection h1 with h1
 injection h1 with _ _ h1
 have e:d=d':=by
  unfold flds at h1
  injection h1 with h1
  injection h1 with _ h1
  injection h1
 rw [← e]at h2
 refine ⟨dx,d,kvs,hp,h2,n1,n2,h5,fun i t ht=>?_⟩
 obtain ⟨a,k1,k2⟩:=h6 i t ht
 refine ⟨a,k1,k2.imp (fun h=>⟨h.1,fun hb=>?_⟩) id⟩
 rcases h.1 with e | ⟨o,e⟩
 · exact n3 a hb _ e
 · exact n4 a hb o _ e
theorem own_nofrz{C:Addr}{t:Addr}{x:TwA}{s:TwS}(h:TwAt C H t x s):∀b∈x.si::own t x,∀o e,H b≠some (.frz o e):=fun b hb o e z=>by
 obtain ⟨dx,fs,ho,_⟩:=h.o
 have hb':b=x.si∨b=t∨b=x.ro∨b=x.he∨b=x.la∨b=x.so∨b=x.en∨b=x.fi:=by simpa [own] using hb
 rcases hb' with k | k | k | k | k | k | k | k <;> rw [k]at z
 · rw [h.si]at z;cases z
 · rw [ho]at z;cases z
 · rw [h.ro]at z;cases z
 · rw [h.he]at z;cases z
 · rw [h.la]at z;cases z
 · rw [h.so]at z;cases z
 · rw [h.en]at z;cases z
 · rw [h.fi]at z;cases z
theorem Twz.stock{p dx d:Addr}(h:Twz K S sts ts B H [] [w])(m:Same H H')(hs:StockAt K S H' p ts)(hp:H' p=some (.ins S dx (flds d)))(n1:H p=none)(n2:H d=none):Twz K S (p::sts) ts B H' [] [w]:=by
 have hw:=(h.ok w (by simp))
 have live:∀b∈Lall [] [w],∃o,H b=some o:=h.live
 have far:∀b,H b=none→b∉Lall [] [w]:=fun b e hb=>by obtain ⟨o,k⟩:=live b hb;rw [e]at k;cases k
 have hl:∀b∈Lall [] [w],b∈w.ow:=fun b hb=>by
  rcases mem_Lall.mp hb with k | ⟨v,hv,k⟩
  · cases k
  · rw [List.mem_singleton.mp hv]at k;exact k
 have hw':=hw.same m
 refine ⟨fun v hv=>(h.ok v hv).same m,h.ap,fun st hst=>?_,fun v hv=>List.mem_cons_of_mem _ (h.es v hv),h.kk,fun c hc=>by cases hc⟩
 rcases List.mem_cons.mp hst with e | e
 · rw [e];exact stock_new hs hp (far p n1) (far d n2) (fun b hb e=>own_notup hw'.to.tw b (hl b hb) e) (fun b hb o e=>own_nofrz hw'.to.tw b (hl b hb) o _)
 · exact (h.sk st e).off (.of m)
end
structure Cur(R:List Str)(g:Gt)(cv:Str→Int):Prop where
 a:∀y∈R,g.h y=cv y
 b:∀y,g.l y=false→g.st y=cv y
section
variable {R:List Str} {g:Gt} {cv:Str→Int} {S d v:Int} {z:Str} {pr:Bool}
theorem last_in(z:Str)(R:List Str):lastS (z::R.erase z)∈R∨lastS (z::R.erase z)=z:=by
 have:lastS (z::R.erase z)∈z::R.erase z:=by
  unfold lastS
  rw [List.getElem?_eq_getElem (show (z::R.erase z).length - 1 < (z::R.erase z).length by simp)]
  exact List.getElem_mem _
 rcases List.mem_cons.mp this with e | e
 · exact .inr e
 · exact .inl (List.mem_of_mem_erase e)
theorem cur_come(h:∀y,y∈R∨y=z→g.h y=cv y)(hb:∀y,g.l y=false→g.st y=cv y):Cur ((z::R.erase z).take S.toNat) (comeG S R z g) cv:=by
 refine ⟨fun y hy=>?_,fun y hy=>?_⟩
 · rw [come_h]
   refine h y ?_
   rcases List.mem_cons.mp (List.mem_of_mem_take hy) with e | e
   · exact .inr e
   · exact .inl (List.mem_of_mem_erase e)
 · have hl:=h _ (last_in z R)
   revert hy
   unfold comeG
   split
   · generalize lastS (z::R.erase z)=u at hl
     unfold fallG
     split
     · intro hy
       show setF g.st u (g.h u) y=cv y
       by_cases e:y=u
       · rw [e,setF_same];exact hl
       · rw [setF_ne e]
         have hy':setF g.l u false y=false:=hy
         rw [setF_ne e]at hy'
         exact hb y hy'
     · exact hb y
   · exact hb y
theorem cur_fetch(h:Cur R g cv)(lh:∀y,g.l y=true→y∈R){w:Str}(hz:z∉R):(∀y,y∈R∨y=z→(fetchG w z g).h y=cv y)∧∀y,(fetchG w z g).l y=false→(fetchG w z g).st y=cv y:=by
 refine ⟨fun y hy=>?_,h.b⟩
 show setF g.h z (g.st z) y=cv y
 by_cases e:y=z
 · rw [e,setF_same]
   refine h.b z ?_
   cases k:g.l z with
   | false=>rfl
   | true=>exact absurd (lh z k) hz
 · rw [setF_ne e]
   exact h.a y (hy.elim id fun k=>absurd k e)
theorem cur_read(h:Cur R g cv)(lh:∀y,g.l y=true→y∈R):Cur ((z::R.erase z).take S.toNat) (readG S R z g) cv∧(readG S R z g).h z=cv z:=by
 unfold readG
 by_cases hz:z∈R
 · rw [if_pos hz]
   exact ⟨cur_come (fun y hy=>hy.elim (h.a y) fun e=>e▸h.a z hz) h.b,by rw [come_h];exact h.a z hz⟩
 · rw [if_neg hz]
   have k:=cur_fetch h lh (w:=Str.ofString "fetch") hz
   exact ⟨cur_come k.1 k.2,by rw [come_h];exact k.1 z (.inr rfl)⟩
theorem cur_keep(h:Cur R g cv):Cur ((z::R.erase z).take S.toNat) (keepG pr S R z v g) (setF cv z v):=by
 unfold keepG
 have hh:∀y,y∈R∨y=z→setF g.h z v y=setF cv z v y:=fun y hy=>by
  by_cases e:y=z
  · rw [e,setF_same,setF_same]
  · rw [setF_ne e,setF_ne e];exact h.a y (hy.elim id fun k=>absurd k e)
 refine cur_come (fun y hy=>?_) (fun y hy=>?_)
 · rw [settleG_h];exact hh y hy
 · revert hy
   unfold settleG
   split
   · intro hy
     show setF g.st z (setF g.h z v z) y=_
     by_cases e:y=z
     · rw [e,setF_same,setF_same,setF_same]
     · rw [setF_ne e,setF_ne e];exact h.b y hy
   · intro hy
     have hy':setF g.l z true y=false:=hy
     by_cases e:y=z
     · rw [e,setF_same]at hy';cases hy'
     · rw [setF_ne e]at hy'
       show g.st y=_
       rw [setF_ne e];exact h.b y hy'
theorem cur_ahead(h:Cur R g cv)(lh:∀y,g.l y=true→y∈R):Cur (if z∈R then R else (z::R.erase z).take S.toNat) (aheadG S R z g) cv:=by
 unfold aheadG
 by_cases hz:z∈R
 · rw [if_pos hz,if_pos hz];exact h
 · rw [if_neg hz,if_neg hz]
   have k:=cur_fetch h lh (w:=Str.ofString "ahead") hz
   exact cur_come k.1 k.2
theorem cur_rest(h:Cur R g cv)(lh:∀y,g.l y=true→y∈R)(y:Str):(restG R g).st y=cv y:=
 (V74.rest (pr:=false) (vs:=fun y=>[g.st y,cv y]) ⟨fun y=>⟨[g.st y],rfl⟩,fun y hy=>h.a y (lh y hy),h.b,fun y=>by simp,fun e=>by cases e⟩ lh).2 y
theorem cur_gN(h:Cur R g cv)(lh:∀y,g.l y=true→y∈R)(h0:0≤d)(h5:d < 5):Cur (rN S R d z) (gN pr S R d z v g) (if 0 < d∧d < 3 then setF cv z v else cv):=by
 unfold rN gN
 by_cases c4:d=4
 · rw [if_pos c4,if_pos c4,if_neg (by omega)];exact h
 · rw [if_neg c4,if_neg c4]
   by_cases c0:d=0
   · subst c0
     rw [if_neg (by omega)]
     exact (cur_read (S:=S) (z:=z) h lh).1
   · by_cases c3:d < 3
     · rw [dk_keep (by omega) c3,if_pos ⟨by omega,c3⟩]
       exact cur_keep h
     · have e:d=3:=by omega
       subst e
       rw [if_neg (by omega)]
       have k:=cur_ahead (S:=S) (z:=z) h lh
       show Cur (stepR S R 6 z) (aheadG S R z g) cv
       unfold stepR
       rw [if_neg (show ¬(6:Int) < 6 by omega)]
       by_cases hz:z∈R
       · rw [if_pos hz]at k;rw [if_pos ⟨rfl,hz⟩];exact k
       · rw [if_neg hz]at k;rw [if_neg (fun e=>hz e.2)];exact k
theorem cur_zero:Cur [] g0 fun _=>0:=⟨(fun y hy=>by cases hy),fun y _=>rfl⟩
end
noncomputable def kv78(ys:List Str)(cv:Str→Int):List (Key×V):=ys.map fun y=>(Sum.inr y,V.int (cv y))
noncomputable def sp78_nothing:Sp:=fun vs H Q _=>∃i:Int,vs=[.int i]∧∀H',Same H H'→Q (.bl true) H'
structure Alike(w1 w2:Tw):Prop where
 c:w2.C=w1.C
 z:w2.s.zs=w1.s.zs
 r:w2.s.R=w1.s.R
 pd:w2.s.pd=w1.s.pd
 ff:w2.s.ff=w1.s.ff
 g:w2.g=w1.g
noncomputable def sp78_last(K:PySem.W.Frag)(C1 C2 S:Addr):Sp:=fun vs H Q _=>∃(w1 w2:Tw) (vd:Addr) (sts:List Addr) (ts:List Th) (B:Nat) (ys:List Str) (cv:Str→Int),vs=[.ref w1.t,.ref w2.t,.ref vd]∧(w1.C=C2∨w1.C=C1)∧Twz K S sts ts B H [vd] [w1,w2]∧Alike w1 w2∧B≤50000∧Cur w1.s.R w1.g cv∧
 H vd=some (.dK (kv78 ys cv))∧ys.length≤60∧(∀y∈ys,y∈ts.map (·.1))∧ys.Nodup∧∀H',Q (.bl true) H'
theorem tr_like{K:PySem.W.Frag}{H:Hp}{a b:Addr}{w:Str}{u:Option Str}{n:Nat}(h1:Tr78 H a w u)(h2:Tr78 H b w u):LikeR K (n+1) H (.ref a) (.ref b):=by
 obtain ⟨v1,e1,k1⟩:=h1
 obtain ⟨v2,e2,k2⟩:=h2
 refine ⟨a,b,_,_,rfl,rfl,.inr ⟨SqT.of e1,SqT.of e2⟩,rfl,fun i x y hx hy=>?_⟩
 cases i with
 | zero=>cases hx;cases hy;exact LikeN.flat rfl
 | succ i=>
  cases i with
  | succ i=>cases hx
  | zero=>
   cases hx;cases hy
   cases u with
   | none=>rw [show v1=V.non from k1,show v2=V.non from k2];exact LikeN.flat rfl
   | some z=>
    obtain ⟨p,rfl,hp⟩:=k1
    obtain ⟨q,rfl,hq⟩:=k2
    refine LikeN.of ⟨p,q,_,_,rfl,rfl,.inr ⟨SqT.of hp,SqT.of hq⟩,rfl,fun i x y hx hy=>?_⟩
    rw [hx]at hy
    cases hy
    have:=List.mem_of_getElem? hx
    simp only [List.mem_cons,List.not_mem_nil,or_false]at this
    rcases this with e | e <;> rw [e] <;> exact LikeN.flat rfl
theorem Tr78.same{H H':Hp}{a:Addr}{w:Str}{u:Option Str}(m:Same H H')(h:Tr78 H a w u):Tr78 H' a w u:=by
 obtain ⟨v,e,k⟩:=h
 refine ⟨v,m _ _ e,?_⟩
 cases u with
 | none=>exact k
 | some z=>obtain ⟨q,e2,k2⟩:=k;exact ⟨q,e2,m _ _ k2⟩
theorem five_like{K:PySem.W.Frag}{H:Hp}{p q a1 a2 b1 b2 c1 c2:Addr}{n:Nat}{i j:Int}(hp:H p=some (.lst [.ref a1,.ref b1,.int i,.int j,.ref c1]))(hq:H q=some (.lst [.ref a2,.ref b2,.int i,.int j,.ref c2]))(h1:LikeR K n H (.ref a1) (.ref a2))(h2:LikeR K n H (.ref b1) (.ref b2))(h3:LikeR K n H (.ref c1) (.ref c2)):LikeR K (n+1) H (.ref p) (.ref q):=by
 refine ⟨p,q,_,_,rfl,rfl,.inl ⟨SqL.of hp,SqL.of hq⟩,rfl,fun k x y hx hy=>?_⟩
 match k,hx,hy with
 | 0,hx,hy=>cases hx;cases hy;exact LikeN.of h1
 | 1,hx,hy=>cases hx;cases hy;exact LikeN.of h2
 | 2,hx,hy=>cases hx;cases hy;exact LikeN.flat rfl
 | 3,hx,hy=>cases hx;cases hy;exact LikeN.flat rfl
 | 4,hx,hy=>cases hx;cases hy;exact LikeN.of h3
 | k+5,hx,hy=>cases hx
theorem list_like{K:PySem.W.Frag}{H:Hp}{a b:Addr}{xs:List V}{n:Nat}(ha:H a=some (.lst xs))(hb:H b=some (.lst xs))(hf:∀v∈xs,flatV v=true):LikeR K n H (.ref a) (.ref b):=
 ⟨a,b,_,_,rfl,rfl,.inl ⟨SqL.of ha,SqL.of hb⟩,rfl,fun k x y hx hy=>by rw [hx]at hy;cases hy;exact LikeN.flat (hf x (List.mem_of_getElem? hx))⟩
theorem state_like{K:PySem.W.Frag}{H:Hp}{p q lv di fo so lw dj fp sp:Addr}{as us bs ws:List Addr}{zs ff:List Int}{R ys:List Str}{g:Gt}{pd:Int}(h:St78 H p zs R g ff pd ys lv di fo so as us)(k:St78 H q zs R g ff pd ys lw dj fp sp bs ws)(fl:∀e∈g.es,e.all flatV=true):LikeR K 3 H (.ref p) (.ref q):=by
 refine ⟨p,q,_,_,rfl,rfl,.inl ⟨SqL.of h.p,SqL.of k.p⟩,rfl,fun i x y hx hy=>?_⟩
 match i,hx,hy with
 | 0,hx,hy=>cases hx;cases hy;exact LikeN.of (lv_like h.l h.la k.l k.la)
 | 1,hx,hy=>cases hx;cases hy;exact LikeN.of (rows_like h.d k.d h.da k.da fl)
 | 2,hx,hy=>cases hx;cases hy;exact LikeN.of (list_like h.f k.f (fun v hv=>by obtain ⟨z,_,rfl⟩:=List.mem_map.mp hv;rfl))
 | 3,hx,hy=>cases hx;cases hy;exact LikeN.flat rfl
 | 4,hx,hy=>cases hx;cases hy;exact LikeN.of (list_like h.s k.s (fun v hv=>by obtain ⟨z,_,rfl⟩:=List.mem_map.mp hv;rfl))
 | i+5,hx,hy=>cases hx
noncomputable def Eq5(s s':TwS):Prop:=s'.zs=s.zs∧s'.R=s.R∧s'.pd=s.pd∧s'.ff=s.ff
theorem kv78_val{ys:List Str}{f:Str→Int}{y:Str}(h:y∈ys):valV (kv78 ys f) (Sum.inr y)=some (.int (f y)):=by
 unfold kv78
 induction ys with
 | nil=>cases h
 | cons x r ih=>
  rw [List.map_cons]
  by_cases e:x=y
  · subst e;rw [valV_pos rfl]
  · rw [valV_neg (fun z=>e (by injection z))]
    rcases List.mem_cons.mp h with k | k
    · exact absurd k.symm e
    · exact ih k
theorem kv78_len{ys:List Str}{f:Str→Int}:(kv78 ys f).length=ys.length:=by unfold kv78;rw [List.length_map]
theorem kv78_get{H:Hp}{vd:Addr}{o:Obj}{ys:List Str}{f:Str→Int}{y:Str}(h:y∈ys)(e:H vd=some (.frz o (.dK (kv78 ys f)))):DGet H vd (V.str y) (some (.int (f y))):=by
 have:=DGet.rd (k:=Sum.inr y) (show Rd H vd (.dK (kv78 ys f)) from .inr ⟨o,e⟩)
 rw [kv78_val h]at this
 exact this
theorem St78.same{H H':Hp}{p lv di fo so:Addr}{zs ff:List Int}{R ys:List Str}{g:Gt}{pd:Int}{as us:List Addr}(h:St78 H p zs R g ff pd ys lv di fo so as us)(m:Same H H'):St78 H' p zs R g ff pd ys lv di fo so as us:=⟨m _ _ h.p,m _ _ h.l,h.la.same m,m _ _ h.d,h.da.same (fun v e k=>m _ _ k),m _ _ h.f,m _ _ h.s⟩
noncomputable def tsR(zs:List Str)(R:Nat→Int):List Th:=(List.range zs.length).map fun i:Nat=>(zs.getD i Str.empty,2,R i)
theorem tsR_len(zs:List Str)(R:Nat→Int):(tsR zs R).length=zs.length:=by unfold tsR;rw [List.length_map,List.length_range]
theorem tsR_at{zs:List Str}{R:Nat→Int}{i:Nat}(h:i < zs.length):(tsR zs R)[i]?=some (zs.getD i Str.empty,2,R i):=by
 unfold tsR;rw [List.getElem?_map,List.getElem?_range h];rfl
theorem tsR_names(zs:List Str)(R:Nat→Int):(tsR zs R).map (·.1)=zs:=by
 refine List.ext_getElem? fun i=>?_
 rw [List.getElem?_map]
 by_cases h:i < zs.length
 · rw [tsR_at h,getD_str h];rfl
 · rw [List.getElem?_eq_none (by rw [tsR_len];omega),List.getElem?_eq_none (by omega)];rfl
theorem tsR_rooms{zs:List Str}{R:Nat→Int}{t:Th}(h:t∈tsR zs R):∃i,i < zs.length∧t.2.2=R i:=by
 obtain ⟨i,hi,rfl⟩:=List.mem_map.mp h
 exact ⟨i,List.mem_range.mp hi,rfl⟩
theorem rowsR{K:PySem.W.Frag}{H:Hp}{D:Addr}{as:List Addr}{zs:List Str}{R:Nat→Int}(hD:H D=some (.lst (as.map V.ref)))(hl:as.length=zs.length)(hm:zs.length≤60)(nd:zs.Nodup)(hn:∀y∈zs,nameB y.cps.toList=true)(hr:∀i,i < zs.length→1≤R i∧R i≤1000)
 (hall:∀(i:Nat) (a:Addr),as[i]?=some a→SqT K H a [.str (zs.getD i Str.empty),.int 2,.int (R i)]):RowsAt K H D as (tsR zs R):=by
 refine ⟨SqL.of hD,by rw [hl,tsR_len],by rw [tsR_len];exact hm,fun i a t h1 h2=>?_,fun t ht=>?_,by rw [tsR_names];exact nd⟩
 · have hi:i < zs.length:=by rw [← tsR_len zs R];exact (List.getElem?_eq_some_iff.mp h2).1
   rw [tsR_at hi]at h2
   cases h2
   exact hall i a h1
 · obtain ⟨i,hi⟩:=List.mem_iff_getElem?.mp ht
   have hil:i < zs.length:=by rw [← tsR_len zs R];exact (List.getElem?_eq_some_iff.mp hi).1
   rw [tsR_at hil]at hi
   cases hi
   exact ⟨hn _ (List.mem_of_getElem? (getD_str hil)),(show (0:Int)≤2 by decide),(show (2:Int)≤10 ^ 30 by decide),hr i hil⟩
theorem rows_same{K:PySem.W.Frag}{H H':Hp}{r:Addr}{as:List Addr}{ts:List Th}(m:Same H H')(h:RowsAt K H r as ts):RowsAt K H' r as ts:=⟨m.seq h.l,h.n,h.m,fun i a t h1 h2=>m.tup (h.at_ i a t h1 h2),h.ok,h.nd⟩
theorem name_short{y:Str}(h:nameB y.cps.toList=true):y.length≤100:=by
 have:=name_len h
 omega
theorem kv78_new{ys:List Str}{f:Str→Int}{z:Str}(h:z∉ys):putK (kv78 ys f) (Sum.inr z) (V.int (f z))=kv78 (ys++[z]) f:=by
 unfold putK
 rw [if_neg]
 · unfold kv78;rw [List.map_append];rfl
 · intro k
   obtain ⟨p,hp,e⟩:=List.any_eq_true.mp k
   obtain ⟨y,hy,rfl⟩:=List.mem_map.mp hp
   have e':(Sum.inr y:Key)=Sum.inr z:=of_decide_eq_true e
   injection e' with e'
   exact h (e'▸hy)
theorem kv78_old{ys:List Str}{f:Str→Int}{z:Str}{v:Int}(h:z∈ys):putK (kv78 ys f) (Sum.inr z) (V.int v)=kv78 ys (setF f z v):=by
 unfold putK
 rw [if_pos]
 · unfold kv78
   rw [List.map_map]
   refine List.map_congr_left fun y _=>?_
   show (if (Sum.inr y:Key)=Sum.inr z then ((Sum.inr y:Key),V.int v) else (Sum.inr y,V.int (f y)))=(Sum.inr y,V.int (setF f z v y))
   by_cases e:y=z
   · rw [if_pos (by rw [e]),e,setF_same]
   · rw [if_neg (fun k=>e (by injection k)),setF_ne e]
 · exact List.any_eq_true.mpr ⟨(Sum.inr z,V.int (f z)),List.mem_map.mpr ⟨z,h,rfl⟩,decide_eq_true rfl⟩
end N78
namespace K78
open L2 N1 N5 N4 N6 N12 N53 N13 N71 N74 N76 N75 N79 N78
local macro_rules | `(tactic| walk_at "rd") => `(tactic| simp only [rd_asg, rd_var, rd_c, rd_op, rd_I0, rd_I, rd_U, rd_name, rd_ifS, rd_test, rd_b, rd_ret, rd_retN, rd_next, rd_break, rd_cont, rd_cb, rd_cons, rd_nil, rd_call, rd_not, rd_or, rd_and, rd_andV, rd_orV, rd_notV, rd_if, rd_un, rd_eq, rd_ne, rd_par, rd_tup, rd_lst, rd_never, rd_drop, rd_gcons, rd_gnil, rd_gsub, rd_chain, rd_rng1, rd_rng2, rd_ilist, rd_itup, rd_for', sc_nn, sc_ni, sc_in, sc_nb, sc_bn, sc_ns, sc_sn, sc_ii, sc_bb, sc_ss, sc_is, sc_si, sc_bs, sc_sb, rd_comp, rd_istr, rd_sl, rd_noPart, rd_part, rd_slS, rd_slL, rd_bm, rd_bm0, tyV_str, rd_join, rd_find, rd_split, rd_all, rd_mulS, rd_jnil, rd_jcons, rd_fstr, rd_fmt, rd_fmtR, rd_dnewK, true_implies, false_implies, Bool.false_and, Bool.true_and, Bool.and_true, Bool.and_false, Bool.false_or, Bool.true_or, Bool.or_true, Bool.or_false, rd_eqQ, rd_neQ, rd_methE, rd_makeE, rd_fld, rd_sfld, rd_din, rd_dnotin, rd_dget, rd_dput, rd_gtup, rd_inS, rd_notinS, hasS_one, blk_K, Int.zero_add, Int.toNat_natCast, upd_upd, List.map_cons, List.map_nil, List.getD_cons_zero, List.getD_cons_succ, cxOf_K, List.length_cons, List.length_nil, List.getElem?_cons_zero, List.getElem?_cons_succ, List.set_cons_zero, List.set_cons_succ, Option.some.injEq, V.int.injEq, V.bl.injEq, V.str.injEq, V.ref.injEq, V.ty.injEq, exists_eq_left', exists_eq_left, exists_and_left, exists_eq, exists_eq', List.cons.injEq, and_true, true_and, decide_eq_true_eq, Bool.not_eq_true', decide_eq_false_iff_not, reduceCtorEq, exists_const, Bool.true_eq_false, Bool.false_eq_true, if_true, if_false, ite_true, ite_false, Bool.not_true, Bool.not_false, decide_true, decide_false, Bool.not_not, false_and, and_false, exists_false, false_or, or_false, true_or, or_true, and_assoc, not_true_eq_false, not_false_eq_true, Int.reduceToNat, Nat.reduceAdd, rd_raiseF, rd_raiseI, rd_hasF, rd_fldX, rd_sfldX, rd_methX, rd_exc, rd_excI, rd_listD, rd_values, rd_sumV, rd_remove, rd_isB, rd_isnB, rd_dpop1, rd_dget2, rd_popAt, rd_glst, rd_tryV, rd_hclsV, rd_hasV, tryX_K, sui_K, rd_raise, rd_callE, rd_hnil, rd_ends, rd_isiE, exists_eq_right, sp_cell, sp_made, sp_is_name, sp_law, sp_is_whole, sp_checkG, sp_initG, sp_roomG, rd_listD, rd_values, rd_sumV, rd_remove, rd_dpop1, rd_dget2, rd_insert, rd_pop, rd_fldaug, rd_aug, rd_sumL, rd_ienum, rd_compI, sp_nms, sp12_names, sp71_levels, sp71_tell, rd_or2, rd_neLL, rd_setL, rd_augS, rd_ipI, sp74_write, sp74_settle, sp74_fall, sp74_come, sp74_stored, sp74_fetch, sp74_diary, rd_dget, sp75_mix, sp75_value, sp75_spent, sp79_shelf, sp79_rest, sp79_found, rd_eqN, rd_neN, rd_idict, sp_unk, sp_thing, sp_tell, N53.sp53_within, sp13_check, sp78_shelf, sp78_stored, sp78_read, sp78_keep, sp78_ahead, sp78_sizes, sp78_rooms, sp78_init, sp78_ltower, sp78_made, sp78_noval, sp78_sizesD, sp78_expected, sp78_tried, sp78_state, sp78_nothing, sp78_last, sp78_stock, rd_thaw])
local macro_rules | `(tactic| walk_at "hp") => `(tactic| first | with_reducible assumption | exact upd_same | (rw [upd_ne (by first | with_reducible assumption | exact ne_of_none (by with_reducible assumption) (by with_reducible assumption))]; first | with_reducible assumption | exact upd_same))
local macro_rules | `(tactic| walk_at "sq") => `(tactic| (repeat' first | with_reducible assumption | exact SqT.of upd_same | exact SqL.of upd_same | refine' Same.tup (Same.new (by with_reducible assumption)) ?_ | refine' Same.seq (Same.new (by with_reducible assumption)) ?_))
local macro_rules | `(tactic| walk_at "isi") => `(tactic| first | exact isi_ii | exact isi_ib | exact isi_bb | exact isi_is | exact isi_ss | exact isi_si | exact isi_sb | exact isi_bi | exact isi_bs | exact isi_ni | exact isi_ns | exact isi_tupt (by walk_at "hp") | exact isi_lstl (by walk_at "hp") | exact isi_tupl (by walk_at "hp") | exact isi_lstt (by walk_at "hp") | exact isi_tups (by walk_at "hp") | exact isi_lsts (by walk_at "hp") | exact isi_tupi (by walk_at "hp") | exact isi_lsti (by walk_at "hp"))
local macro_rules | `(tactic| walk_at "slen") => `(tactic| first | omega | decide +kernel | (refine le_app ?_ ?_ <;> walk_at "slen"))
local macro_rules | `(tactic| walk_at "side") => `(tactic| first | with_reducible assumption | with_reducible exact cdiv_of (by omega) (by omega) | with_reducible exact cpow_of (by decide) (by decide) (by decide) | with_reducible exact cmul_l (by omega) (by omega) | with_reducible exact cmul_r (by omega) (by omega) | omega | decide | decide +kernel | (have := line_val; omega) | (simp only [len_app, len_one, line_val]; omega) | (rw [line_val]; walk_at "slen"; done))
local macro_rules | `(tactic| walk_at "go1") => `(tactic| first | walk_at "rd" | ((with_reducible refine And.intro ?_ ?_); (focus (walk_at "side"; done))) | ((with_reducible apply isi_go); (focus (walk_at "isi"; done))) | ((with_reducible apply ixT_of); (focus (walk_at "sq"; done)); (focus rfl)) | ((with_reducible apply ixL_of); (focus (walk_at "sq"; done)); (focus rfl)) | ((with_reducible apply len_goT); (focus (walk_at "sq"; done))) | ((with_reducible apply len_goL); (focus (walk_at "sq"; done))) | ((with_reducible apply script_go); (focus (walk_at "sq"; done)); (focus (assumption; done))) | ((with_reducible apply cell_go); (focus (walk_at "sq"; done)); (focus (decide; done)); (focus (assumption; done))) | (intro (_ : List (Addr × PySem.Obj)) (_ : PySem.Value → PySem.Shared → Prop)) | with_reducible refine seq_go fun _ _ => ?_ | (refine leaf_go (by with_reducible assumption) ?_; subst_vars))
local macro_rules | `(tactic| walk_at "go") => `(tactic| repeat walk_at "go1")
noncomputable def top(i:Nat):Stmt:=PySem.Challenge.pw_castoff_k78_towers_refused.main.body.getD i (.Pass ⟨0,0,0,0⟩)
structure Txt(K:W.Frag)(mg:Str→Option Value)(Z5 Z3 Z4 Z7 Z2 Z1 Z0:Addr):Prop where
 Z93:mg "Stock"=some (.ref Z2)
 Zf:Cls K Z2
 Zd:NoAttr K Z2 "things"
 Z94:mg "Tower"=some (.ref Z1)
 Z8:Cls K Z1
 Zq:NoAttr K Z1 "stock"
 Zr:NoAttr K Z1 "sizes"
 Zs:NoAttr K Z1 "row"
 Zo:NoAttr K Z1 "held"
 Zx:NoAttr K Z1 "late"
 Z0i:NoAttr K Z1 "store"
 Zv:NoAttr K Z1 "entries"
 Z06:NoAttr K Z1 "finds"
 Z13:NoAttr K Z1 "paid"
 Z92:mg "Prompt"=some (.ref Z0)
 Z6:Cls K Z0
 Zk:NoAttr K Z0 "stock"
 Zl:NoAttr K Z0 "sizes"
 Zi:NoAttr K Z0 "row"
 Zj:NoAttr K Z0 "held"
 Zz:NoAttr K Z0 "late"
 Z07:NoAttr K Z0 "store"
 Zp:NoAttr K Z0 "entries"
 Z01:NoAttr K Z0 "finds"
 Z0j:NoAttr K Z0 "paid"
 Z91:mg "CastError"=some (.ref Z5)
 Z8d:mg "Unknown"=some (.ref Z3)
 Z2h:mg "NoNumber"=some (.ref Z4)
 Z3g:ExcC K Z4
 k_NoNumber:W.keepIn K (.ref Z4)=true
 Z6w:mg "Unlike"=some (.ref Z7)
 Z8x:ExcC K Z7
 k_Unlike:W.keepIn K (.ref Z7)=true
 Z2o:ExcQ K Z3 Z5
 Z0m:W.findIn K (.ref Z3) "name"=some none
 Z0b:W.findIn K (.ref Z3) "place"=some none
 Z52:W.exmOne K (.ref Z3) (.ref Z3)=some true
 Z4d:W.exmOne K (.ref Z4) (.ref Z3)=some false
 Z32:W.exmOne K (.ref Z4) (.ref Z4)=some true
 Z53:W.exmOne K (.ref Z7) (.ref Z4)=some false
 Z5o:W.exmOne K (.ref Z7) (.ref Z7)=some true
 Zw:mg "len"=none
 Z14:mg "isinstance"=none
 Z42:mg "int"=none
 Z4e:mg "bool"=none
 Z5p:mg "str"=none
 Z1y:mg "list"=none
 Z5q:mg "all"=none
 Z2p:mg "range"=none
 Z4y:mg "sum"=none
 Z1x:mg "enumerate"=none
 Z6v:mg "abs"=none
 Z4z:mg "tuple"=none
 Z2q:∃t,mg "LETTERS"=some (.str "abcdefghijklmnopqrstuvwxyz" t)
 Z3b:∃t,mg "FIGURES"=some (.str "0123456789" t)
 Z2e:∃t,mg "MOST_SIGNS"=some (.int 8 t)
 Z28:∃t,mg "MOST_THINGS"=some (.int 60 t)
 Z2m:∃t,mg "MOST_ROOM"=some (.int 1000 t)
 Z18:∃t,mg "MOST_PLACES"=some (.int 1000000 t)
 Z0n:∃t,mg "MOST_SHELVES"=some (.int 6 t)
section
variable {P:Program} {w:World} {K:W.Frag} {mg:Str→Option Value} {base:Heap} {Z5 Z3 Z4 Z7 Z2 Z1 Z0:Addr}
noncomputable abbrev Z2r:Stmt:=top 20
noncomputable abbrev Z2s:Stmt:=top 21
noncomputable abbrev Z2i:Stmt:=top 9
noncomputable abbrev Z29:Stmt:=top 10
noncomputable abbrev Z19:Stmt:=top 22
noncomputable abbrev Z1z:Stmt:=inClass (top 23) 0
noncomputable abbrev Z1a:Stmt:=inClass (top 23) 1
noncomputable abbrev Z0o:Stmt:=inClass (top 6) 0
noncomputable abbrev Z0p:Stmt:=top 13
noncomputable abbrev Z08:Stmt:=inClass (top 23) 3
noncomputable abbrev Z03:Stmt:=inClass (top 23) 4
noncomputable abbrev Z0c:Stmt:=inClass (top 23) 5
noncomputable abbrev Z0d:Stmt:=inClass (top 23) 6
noncomputable abbrev Z1b:Stmt:=top 28
noncomputable abbrev Z1c:Stmt:=top 25
noncomputable abbrev Z1d:Stmt:=inClass (top 29) 10
noncomputable abbrev Z0q:Stmt:=inClass (top 29) 11
noncomputable abbrev Z09:Stmt:=inClass (top 29) 9
noncomputable abbrev Z20:Stmt:=inClass (top 29) 8
noncomputable abbrev Z0r:Stmt:=inClass (top 29) 1
noncomputable abbrev Z0a:Stmt:=inClass (top 29) 6
noncomputable abbrev Z0s:Stmt:=inClass (top 29) 2
noncomputable abbrev Z1e:Stmt:=inClass (top 29) 7
noncomputable abbrev Z21:Stmt:=inClass (top 29) 12
noncomputable abbrev Z22:Stmt:=inClass (top 29) 13
noncomputable abbrev Z1f:Stmt:=inClass (top 29) 15
noncomputable abbrev Z23:Stmt:=inClass (top 29) 14
noncomputable abbrev Z1g:Stmt:=inClass (top 29) 3
noncomputable abbrev Z1h:Stmt:=inClass (top 29) 4
noncomputable abbrev Z1i:Stmt:=inClass (top 29) 5
noncomputable abbrev Z24:Stmt:=inClass (top 29) 0
noncomputable abbrev Z0t:Stmt:=inClass (top 29) 10
noncomputable abbrev Z0e:Stmt:=inClass (top 30) 0
noncomputable abbrev Z04:Stmt:=inClass (top 29) 9
noncomputable abbrev Z1j:Stmt:=inClass (top 29) 8
noncomputable abbrev Z0f:Stmt:=inClass (top 29) 1
noncomputable abbrev Z05:Stmt:=inClass (top 29) 6
noncomputable abbrev Z0g:Stmt:=inClass (top 29) 2
noncomputable abbrev Z0u:Stmt:=inClass (top 29) 7
noncomputable abbrev Z1k:Stmt:=inClass (top 29) 12
noncomputable abbrev Z1l:Stmt:=inClass (top 29) 13
noncomputable abbrev Z0v:Stmt:=inClass (top 29) 15
noncomputable abbrev Z1m:Stmt:=inClass (top 29) 14
noncomputable abbrev Z0w:Stmt:=inClass (top 29) 3
noncomputable abbrev Z0x:Stmt:=inClass (top 29) 4
noncomputable abbrev Z0y:Stmt:=inClass (top 29) 5
noncomputable abbrev Z1n:Stmt:=inClass (top 29) 0
noncomputable abbrev Z2a:Stmt:=top 32
noncomputable abbrev Z3m:Stmt:=top 33
noncomputable abbrev Z2t:Stmt:=top 34
noncomputable abbrev Z2u:Stmt:=top 35
noncomputable abbrev Z2v:Stmt:=top 36
noncomputable abbrev Z0h:Stmt:=top 37
noncomputable abbrev Z33:Stmt:=top 38
noncomputable abbrev Z25:Stmt:=top 39
noncomputable abbrev Z26:Stmt:=top 42
noncomputable abbrev Z2w:Stmt:=top 40
noncomputable abbrev Z2x:Stmt:=top 41
noncomputable abbrev Z2b:Stmt:=top 44
noncomputable abbrev Z2c:Stmt:=top 43
noncomputable abbrev Z3h:Stmt:=top 45
theorem Z7m{f:Addr}{fd:FuncData}(F:Fun K "made_of" "made_of" Z2r f fd)(T:Txt K mg Z5 Z3 Z4 Z7 Z2 Z1 Z0):FnOk P w K mg base (CXF P w) 1 f fd ["text","signs"] (sp_made):=by
 have sc:FnScope ["text","signs"] ["text","signs"] (defScope Z2r):=⟨rfl,rfl,rfl,by decide+kernel,rfl,by decide+kernel,by decide+kernel⟩
 refine F.okF sc (fun vs H Q E h=>?_) (fun cdv A outer s H vs Q E hr h=>?_)
 · obtain ⟨z,w,rfl,hz,q⟩:=h;rfl
 obtain ⟨z,w,rfl,hz,q⟩:=h
 refine ⟨_,(@pss_one _ _ _ (@ps_ret _ _ _ _ (pe_callB (call_all rfl) rfl T.Z5q (by first | rfl | decide+kernel) (pa_cons (pe_comp1 "sign" [1] rfl rfl (pi_str (pv 0)) (fun b=>(pe_cmpR op_inS (pv 0) (pv 1) (by with_unfolding_all rfl)))) pa_nil)))),?_⟩
 rw [show start ["text","signs"] [V.str z,V.str w]=[some (V.str z),some (V.str w)] from rfl]
 walk_at "go"
 refine compS_pure (fun c=>V.bl (decide (c∈w.cps.toList))) hz (fun b c H' Q' hc sm q'=>?_) fun D hD=>?_
 · walk_at "go"
   exact q'
 · refine ⟨_,rfl,z.cps.toList.map fun c=>decide (c∈w.cps.toList),?_,?_⟩
   · rw [List.map_map];exact SqL.of upd_same
   · rw [List.all_map];exact q _ (Same.new hD)
theorem Z7n{f:Addr}{fd:FuncData}(F:Fun K "is_name" "is_name" Z2s f fd)(T:Txt K mg Z5 Z3 Z4 Z7 Z2 Z1 Z0)(Z4f:Def P w K mg base (CXF P w) 1 "made_of" ["text","signs"] (sp_made)):FnOk P w K mg base (CXF P w) 2 f fd ["thing"] (sp_is_name K):=by
 have sc:FnScope ["thing"] ["thing"] (defScope Z2s):=⟨rfl,rfl,rfl,by decide+kernel,rfl,by decide+kernel,by decide+kernel⟩
 refine F.okF sc (fun vs H Q E h=>?_) (fun cdv A outer s H vs Q E hr h=>?_)
 · obtain ⟨x,rfl,hx⟩:=h;rfl
 obtain ⟨x,rfl,hx⟩:=h
 refine ⟨_,(@pss_cons _ _ _ _ _ (ps_if (pt_not (pt_val (pe_callB call_isinst rfl T.Z14 (by first | rfl | decide+kernel) (pa_cons (pv 0) (pa_cons (pe_bltn (v:= .ty "str") rfl T.Z5p (by first | rfl | decide+kernel) rfl) pa_nil)))))
  (@pss_one _ _ _ (@ps_ret _ _ _ _ pe_bl))
  pss_nil)
  (@pss_cons _ _ _ _ _ (ps_if (PW.pt (pw_or (pt_cmpR op_lt (pe_callB call_len_str rfl T.Zw PySem.boot_len (pa_cons (pv 0) pa_nil)) pe_int (nomark _)) (pw_or1 (pt_cmpR op_gt (pe_callB call_len_str rfl T.Zw PySem.boot_len (pa_cons (pv 0) pa_nil)) (pe_gint rfl T.Z2e) (nomark _)))))
   (@pss_one _ _ _ (@ps_ret _ _ _ _ pe_bl))
   pss_nil)
  (@pss_one _ _ _ (@ps_ret _ _ _ _ (pe_and (pe_cmpR op_inS (@pe_ix _ _ _ _ _ _ _ ix_str (pv 0) pe_int (fun _ _=>rfl)) (pe_gstr rfl T.Z2q) (by with_unfolding_all rfl)) (pe_one (pe_callD Z4f hr rfl pass_onF (pa_cons (pv 0) (pa_cons (pe_op op_add_str (pe_gstr rfl T.Z2q) (pe_gstr rfl T.Z3b)) pa_nil))))))))),?_⟩
 rw [show start ["thing"] [x]=[some (x)] from rfl]
 rcases hx with ⟨z,rfl,hz,q⟩ | ⟨hi,q⟩
 · walk_at "go"
   have hl:=str_len (z:=z)
   split
   · rename_i h1
     have e:nameB z.cps.toList=false:=by unfold nameB;rw [decide_eq_false (show ¬1≤z.cps.toList.length by omega)];rfl
     rw [e]at q;exact q _ (Same.refl H)
   · rename_i h1
     refine ⟨hz,?_⟩
     split
     · have e:nameB z.cps.toList=false:=by unfold nameB;rw [decide_eq_false (show ¬z.cps.toList.length≤8 by omega),Bool.and_false];rfl
       rw [e]at q;exact q _ (Same.refl H)
     · rename_i h2
       obtain ⟨c,r,hcr⟩:∃c r,z.cps.toList=c::r:=by
        cases h:z.cps.toList with
        | nil=>rw [h]at hl;simp at hl;omega
        | cons c r=>exact ⟨c,r,rfl⟩
       have hn:nameB z.cps.toList=(decide (c∈letters) && z.cps.toList.all fun c=>decide (c∈letters++figures)):=by
        unfold nameB;rw [decide_eq_true (show 1≤z.cps.toList.length by omega),decide_eq_true (show z.cps.toList.length≤8 by omega)];rw [hcr];rfl
       rw [hn]at q
       walk_at "go"
       refine ixS_of hz (by rw [hcr];exact at_0) ?_
       walk_at "go"
       rw [let_list]
       split
       · rename_i hc
         rw [decide_eq_true hc,Bool.true_and]at q
         walk_at "go"
         rw [app_list,let_list,fig_list]
         exact q
       · rename_i hc
         rw [decide_eq_false hc,Bool.false_and]at q
         exact q _ (Same.refl H)
 · walk_at "go"
   refine ⟨_,hi,?_⟩
   walk_at "go"
   exact q
theorem Z73{f:Addr}{fd:FuncData}(F:Fun K "is_whole" "is_whole" Z2i f fd)(T:Txt K mg Z5 Z3 Z4 Z7 Z2 Z1 Z0):FnOk P w K mg base (CXF P w) 1 f fd ["thing"] (sp_is_whole K):=by
 have sc:FnScope ["thing"] ["thing"] (defScope Z2i):=⟨rfl,rfl,rfl,by decide+kernel,rfl,by decide+kernel,by decide+kernel⟩
 refine F.okF sc (fun vs H Q E h=>?_) (fun cdv A outer s H vs Q E hr h=>?_)
 · obtain ⟨x,b,c,rfl,h1,h2,q⟩:=h;rfl
 obtain ⟨x,b,c,rfl,h1,h2,q⟩:=h
 refine ⟨_,(@pss_one _ _ _ (@ps_ret _ _ _ _ (pe_and (pe_callB call_isinst rfl T.Z14 (by first | rfl | decide+kernel) (pa_cons (pv 0) (pa_cons (pe_bltn (v:= .ty "int") rfl T.Z42 (by first | rfl | decide+kernel) rfl) pa_nil))) (pe_one (pe_not (pe_callB call_isinst rfl T.Z14 (by first | rfl | decide+kernel) (pa_cons (pv 0) (pa_cons (pe_bltn (v:= .ty "bool") rfl T.Z4e (by first | rfl | decide+kernel) rfl) pa_nil)))))))),?_⟩
 rw [show start ["thing"] [x]=[some (x)] from rfl]
 walk_at "go"
 refine ⟨_,h1,?_⟩
 cases b
 · walk_at "go"
   exact q
 · walk_at "go"
   refine ⟨_,h2 rfl,?_⟩
   walk_at "go"
   exact q
theorem Z6x{f:Addr}{fd:FuncData}(F:Fun K "is_within" "is_within" Z29 f fd)(T:Txt K mg Z5 Z3 Z4 Z7 Z2 Z1 Z0)(Z43:Def P w K mg base (CXF P w) 1 "is_whole" ["thing"] (sp_is_whole K)):FnOk P w K mg base (CXF P w) 2 f fd ["thing","least","most"] (N53.sp53_within K):=by
 have sc:FnScope ["thing","least","most"] ["thing","least","most"] (defScope Z29):=⟨rfl,rfl,rfl,by decide+kernel,rfl,by decide+kernel,by decide+kernel⟩
 refine F.okF sc (fun vs H Q E h=>?_) (fun cdv A outer s H vs Q E hr h=>?_)
 · obtain ⟨v,lo,hi,rfl,hv,q⟩:=h;rfl
 obtain ⟨v,lo,hi,rfl,hv,q⟩:=h
 refine ⟨_,(@pss_one _ _ _ (@ps_ret _ _ _ _ (pe_and (pe_callD Z43 hr rfl pass_onF (pa_cons (pv 0) pa_nil)) (pe_one (pe_chain op_le op_le (pv 1) (pv 0) (pv 2)))))),?_⟩
 rw [show start ["thing","least","most"] [v,V.int lo,V.int hi]=[some (v),some (V.int lo),some (V.int hi)] from rfl]
 obtain ⟨b,c,h1,h2,h3,h4⟩:=hv
 walk_at "go"
 refine ⟨b,h1,c,h2,?_⟩
 split
 · rename_i h
   obtain ⟨i,rfl⟩:=h3 h
   simp only [wIn]at q
   walk_at "go"
   split
   · rename_i h'
     rw [decide_eq_true h',Bool.true_and]at q;exact q
   · rename_i h'
     rw [decide_eq_false h',Bool.false_and]at q;exact q
 · rename_i h
   have e:wIn lo hi v=false:=by
    cases v with
    | int i=>exact absurd rfl (h4 (by simpa using h) i)
    | _=>rfl
   rw [e]at q;exact q
theorem Z64{f:Addr}{fd:FuncData}(F:Fun K "check_thing" "check_thing" Z19 f fd)(T:Txt K mg Z5 Z3 Z4 Z7 Z2 Z1 Z0)(Z4g:Def P w K mg base (CXF P w) 2 "is_name" ["thing"] (sp_is_name K))(Zm:Def P w K mg base (CXF P w) 2 "is_within" ["thing","least","most"] (N53.sp53_within K)):FnOk P w K mg base (CXF P w) 3 f fd ["name","cost","room","earlier"] (sp_checkG K):=by
 have sc:FnScope ["name","cost","room","earlier"] ["name","cost","room","earlier"] (defScope Z19):=⟨rfl,rfl,rfl,by decide+kernel,rfl,by decide+kernel,by decide+kernel⟩
 refine F.okF sc (fun vs H Q E h=>?_) (fun cdv A outer s H vs Q E hr h=>?_)
 · obtain ⟨n,co,r,e,kvs,ks,rfl,he,hk,hrow,q⟩:=h;rfl
 obtain ⟨n,co,r,e,kvs,ks,rfl,he,hk,hrow,q⟩:=h
 refine ⟨_,(@pss_cons _ _ _ _ _ (ps_if (pt_not (pt_val (pe_callD Z4g hr rfl pass_onF (pa_cons (pv 0) pa_nil))))
  (@pss_one _ _ _ ps_never)
  pss_nil)
  (@pss_cons _ _ _ _ _ (ps_if (pt_cmp (pc_din (hu_of hr) (pv 0) (pv 3)))
   (@pss_one _ _ _ ps_never)
   pss_nil)
  (@pss_cons _ _ _ _ _ (ps_if (pt_not (pt_val (pe_callD Zm hr rfl pass_onF (pa_cons (pv 1) (pa_cons pe_int (pa_cons (pe_op op_pow pe_int pe_int) pa_nil))))))
   (@pss_one _ _ _ ps_never)
   pss_nil)
  (@pss_one _ _ _ (ps_if (pt_not (pt_val (pe_callD Zm hr rfl pass_onF (pa_cons (pv 2) (pa_cons pe_int (pa_cons (pe_gint rfl T.Z2m) pa_nil))))))
   (@pss_one _ _ _ ps_never)
   pss_nil))))),?_⟩
 rw [show start ["name","cost","room","earlier"] [n,co,r,V.ref e]=[some (n),some (co),some (r),some (V.ref e)] from rfl]
 obtain ⟨z,c,w,rfl,rfl,rfl,nz,hb,h1,h2,h3,h4⟩:=rowR_none hrow
 have line:=line_val
 have hz8:=name_len hb
 walk_at "go"
 intro H1 sm1
 rw [hb]
 have he1:=sm1 _ _ he
 walk_at "go"
 refine ⟨_,DGet.k (k:=Sum.inr z) he1,?_⟩
 rw [key_mem hk,decide_eq_false nz]
 walk_at "go"
 refine ⟨N53.NumV.flat rfl,?_⟩
 split
 · rename_i h
   exact absurd h (by rw [wIn_ok h1 h2];decide)
 · walk_at "go"
   refine ⟨N53.NumV.flat rfl,?_⟩
   split
   · rename_i h
     exact absurd h (by rw [wIn_ok h3 h4];decide)
   · walk_at "go"
     exact q _ sm1
theorem Z6m{f:Addr}{fd:FuncData}(F:Fun K "__init__" "Stock.__init__" Z1z f fd)(T:Txt K mg Z5 Z3 Z4 Z7 Z2 Z1 Z0)(Z3c:Def P w K mg base (CXF P w) 3 "check_thing" ["name","cost","room","earlier"] (sp_checkG K)):FnOk P w K mg base (CXF P w) 4 f fd ["self","rows"] (sp78_stock K Z2):=by
 have sc:FnScope ["self","rows","name","cost","room"] ["self","rows"] (defScope Z1z):=⟨rfl,rfl,rfl,by decide+kernel,rfl,by decide+kernel,by decide+kernel⟩
 refine F.okF sc (fun vs H Q E h=>?_) (fun cdv A outer s H vs Q E hr h=>?_)
 · obtain ⟨p,dx,ra,rs,rfl,hp,hrs,hall,er,q⟩:=h;rfl
 obtain ⟨p,dx,ra,rs,rfl,hp,hrs,hall,er,q⟩:=h
 refine ⟨_,(@pss_cons _ _ _ _ _ (ps_if (pt_cmpR op_gt (pe_callB call_len_seq rfl T.Zw PySem.boot_len (pa_cons (pv 1) pa_nil)) (pe_gint rfl T.Z28) (nomark _))
  (@pss_one _ _ _ ps_never)
  pss_nil)
  (@pss_cons _ _ _ _ _ (ps_fld (pv 0) pe_dnewK rfl)
  (@pss_one _ _ _ (ps_for own_outF rfl (pi_list (pv 1)) (pg_tup rfl (pgs_cons (pg_name (i:=2) sc.nd rfl (Or.inl rfl)) (pgs_cons (pg_name (i:=3) sc.nd rfl (Or.inl rfl)) (pgs_cons (pg_name (i:=4) sc.nd rfl (Or.inl rfl)) pgs_nil))))
   (@pss_cons _ _ _ _ _ (ps_expr (pe_callD Z3c hr rfl pass_onF (pa_cons (pv 2) (pa_cons (pv 3) (pa_cons (pv 4) (pa_cons (pe_fld (pv 0) rfl) pa_nil))))))
   (@pss_one _ _ _ (ps_dput (hu_of hr) (pe_fld (pv 0) rfl) (pv 2) (pe_tup (pa_cons (pe_callB call_lenD rfl T.Zw PySem.boot_len (pa_cons (pe_fld (pv 0) rfl) pa_nil)) (pa_cons (pv 3) (pa_cons (pv 4) pa_nil)))) rfl))))))),?_⟩
 rw [show start ["self","rows","name","cost","room"] [V.ref p,V.ref ra]=[some (V.ref p),some (V.ref ra),none,none,none] from rfl]
 have line:=line_val
 obtain ⟨hl60,hstk⟩:=initR_none er
 walk_at "go"
 rw [List.length_map]
 split
 · rename_i h
   exact absurd h (by omega)
 · rename_i h
   walk_at "go"
   intro d hd
   have npd:p≠d:=ne_of_none hp hd
   walk_at "go"
   refine ⟨Z2,dx,[],by rw [upd_ne npd];exact hp,T.Zf,T.Zd,by decide,?_⟩
   have sb0:SameBut p H (upd (upd H d (.dK [])) p (.ins Z2 dx (flds d))):=fun b o e n=>by rw [upd_ne n,upd_ne (ne_of_none e hd)];exact e
   have hp0:upd (upd H d (.dK [])) p (.ins Z2 dx (flds d)) p=some (.ins Z2 dx (flds d)):=upd_same
   have hd0:upd (upd H d (.dK [])) p (.ins Z2 dx (flds d)) d=some (.dK []):=by rw [upd_ne npd.symm,upd_same]
   unfold flds at sb0 hp0 hd0
   generalize upd (upd H d (HO.dK [])) p (HO.ins Z2 dx (putF (Str.ofString "things") (V.ref d) []))=H0 at sb0 hp0 hd0 ⊢
   walk_at "go"
   refine ⟨⟨_,SqL.but sb0 hp hrs⟩,?_⟩
   refine forL_by (xs:=rs.map fun t=>V.ref t.1) (fun i σ H'=>∃v1 v2 v3,σ=[some (V.ref p),some (V.ref ra),v1,v2,v3]∧SameBut p H H'∧H' p=some (.ins Z2 dx (flds d))∧MidAt K H' d (rs.take i)∧stockR (nmsOf (rs.take i)) (rs.drop i)=none) ⟨none,none,none,rfl,sb0,hp0,⟨[],hd0,rfl,fun j t e=>by simp at e⟩,by rw [List.take_zero,List.drop_zero];exact hstk⟩ (fun i σ H' _ h_=>by obtain ⟨v1,v2,v3,_,sb,_⟩:=h_;exact SqL.but sb hp hrs) ?_ ?_
   · rintro i x σ H' hx ⟨v1,v2,v3,rfl,sb,hp',⟨kvs,hd',hk,hm⟩,hst⟩
     rw [List.getElem?_map]at hx
     cases ht:rs[i]? with
     | none=>rw [ht]at hx;cases hx
     | some t=>
      rw [ht]at hx
      simp only [Option.map_some,Option.some.injEq]at hx
      subst hx
      have hi:i < rs.length:=(List.getElem?_eq_some_iff.mp ht).1
      have r1:=SqT.but sb hp (hall t (List.mem_of_getElem? ht))
      rw [stockR_step ht]at hst
      have hkl:kvs.length=i:=by
       have:=congrArg List.length hk
       simp [nmsOf]at this;omega
      cases hrow:rowR (nmsOf (rs.take i)) t.2.1 t.2.2.1 t.2.2.2 with
      | some e=>rw [hrow]at hst;cases hst
      | none=>
       rw [hrow]at hst
       obtain ⟨z,c,q',e1,e2,e3,nz,hb,_⟩:=rowR_none hrow
       walk_at "go"
       refine ⟨_,r1,rfl,?_⟩
       walk_at "go"
       refine ⟨Z2,dx,flds d,hp',T.Zf,T.Zd,_,flds_things,d,rfl,kvs,hd',_,hk,hrow,fun H1 sm1=>?_⟩
       rw [e1,e2,e3]
       have hp1:=sm1 _ _ hp'
       have hd1:=sm1 _ _ hd'
       walk_at "go"
       refine ⟨Z2,dx,flds d,hp1,T.Zf,T.Zd,_,flds_things,?_⟩
       walk_at "go"
       refine ⟨kvs,hd1,by omega,fun t2 ht2=>?_⟩
       have np2:p≠t2:=ne_of_none hp1 ht2
       have nd2:d≠t2:=ne_of_none hd1 ht2
       have hd2:upd H1 t2 (.tup [.int kvs.length,.int c,.int q']) d=some (.dK kvs):=by rw [upd_ne nd2];exact hd1
       refine ⟨Z2,dx,flds d,by rw [upd_ne np2];exact hp1,T.Zf,T.Zd,_,flds_things,d,rfl,_,DPut.k (k:=Sum.inr z) hd2 (by omega),?_,?_,?_,?_⟩
       · intro b o eb nb
         have h1:=sm1 _ _ (sb b o eb nb)
         rw [upd_ne (ne_of_none eb hd),upd_ne (ne_of_none h1 ht2)]
         exact h1
       · rw [upd_ne npd,upd_ne np2];exact hp1
       · rw [List.take_add_one,ht]
         refine MidAt.snoc hd2 hk (fun j t' e=>?_) e1 e2 e3 nz upd_same
         obtain ⟨a,q1,q2⟩:=hm j t' e
         exact ⟨a,q1,(sm1.trans (Same.new ht2)).tup q2⟩
       · rw [List.take_add_one,ht]
         have e:nmsOf (rs.take kvs.length++(some t).toList)=nmsOf (rs.take kvs.length)++[sOf t.2.1]:=by unfold nmsOf;simp
         rw [e];exact hst
   · rintro σ H' ⟨v1,v2,v3,rfl,sb,hp',⟨kvs,hd',hk,hm⟩,hst⟩
     simp only [List.length_map,List.take_length,List.drop_length]at hk hm hst
     show Q V.non H'
     refine q _ d sb ⟨dx,d,kvs,hp',hd',?_,fun i t ht=>?_⟩ hp' hd
     · rw [hk];unfold nmsOf;rw [List.map_map,List.map_map];rfl
     · rw [List.getElem?_map]at ht
       cases hr:rs[i]? with
       | none=>rw [hr]at ht;cases ht
       | some t'=>
        rw [hr]at ht
        simp only [Option.map_some,Option.some.injEq]at ht
        subst ht
        exact hm i t' hr
theorem Z65{f:Addr}{fd:FuncData}(F:Fun K "names" "Stock.names" Z1a f fd)(T:Txt K mg Z5 Z3 Z4 Z7 Z2 Z1 Z0):FnOk P w K mg base (CXF P w) 1 f fd ["self"] (sp_nms K Z2):=by
 have sc:FnScope ["self"] ["self"] (defScope Z1a):=⟨rfl,rfl,rfl,by decide+kernel,rfl,by decide+kernel,by decide+kernel⟩
 refine F.okF sc (fun vs H Q E h=>?_) (fun cdv A outer s H vs Q E hr h=>?_)
 · obtain ⟨p,ts,rfl,hs,q⟩:=h;rfl
 obtain ⟨p,ts,rfl,hs,q⟩:=h
 refine ⟨_,(@pss_one _ _ _ (@ps_ret _ _ _ _ (pe_callTy (call_listD rfl) rfl T.Z1y (by first | rfl | decide+kernel) (pa_cons (pe_fld (pv 0) rfl) pa_nil)))),?_⟩
 rw [show start ["self"] [V.ref p]=[some (V.ref p)] from rfl]
 obtain ⟨dx,d,kvs,h1,h2,h3,h4,h5⟩:=StockAt.has hs
 walk_at "go"
 refine ⟨Z2,dx,flds d,h1,T.Zf,T.Zd,_,flds_things,?_⟩
 walk_at "go"
 refine ⟨_,h2,fun l hl=>?_⟩
 rw [h3]
 have:=q l hl
 rw [List.map_map]at this
 exact this
theorem Z5r{f:Addr}{fd:FuncData}(F:Fun K "__init__" "Unknown.__init__" Z0o f fd)(T:Txt K mg Z5 Z3 Z4 Z7 Z2 Z1 Z0):FnOk P w K mg base (CXF P w) 1 f fd ["self","name","place"] (sp_unk Z3):=by
 have sc:FnScope ["self","name","place"] ["self","name","place"] (defScope Z0o):=⟨rfl,rfl,rfl,by decide+kernel,rfl,by decide+kernel,by decide+kernel⟩
 refine F.okF sc (fun vs H Q E h=>?_) (fun cdv A outer s H vs Q E hr h=>?_)
 · obtain ⟨x,n,p,nw,rfl,hx,q⟩:=h;rfl
 obtain ⟨x,n,p,nw,rfl,hx,q⟩:=h
 refine ⟨_,(@pss_cons _ _ _ _ _ (ps_fldX rfl (pv 0) (pv 1) rfl)
  (@pss_one _ _ _ (ps_fldX rfl (pv 0) (pv 2) rfl))),?_⟩
 rw [show start ["self","name","place"] [V.ref x,n,p]=[some (V.ref x),some (n),some (p)] from rfl]
 walk_at "go"
 refine ⟨nw,Z3,Z5,T.Z2o,T.Z0m,.inl ⟨hx,fun dx hd=>?_⟩⟩
 have nd:x≠dx:=ne_of_none hx hd
 walk_at "go"
 refine ⟨nw,Z3,Z5,T.Z2o,T.Z0b,.inr ⟨dx,by rw [upd_ne nd,upd_same],_,upd_same,by simp [putF],?_⟩⟩
 walk_at "go"
 exact q dx hd
theorem Z5s{f:Addr}{fd:FuncData}(F:Fun K "check_places" "check_places" Z0p f fd)(T:Txt K mg Z5 Z3 Z4 Z7 Z2 Z1 Z0)(Zm:Def P w K mg base (CXF P w) 2 "is_within" ["thing","least","most"] (N53.sp53_within K)):FnOk P w K mg base (CXF P w) 3 f fd ["places"] (sp13_check K Z4):=by
 have sc:FnScope ["places"] ["places"] (defScope Z0p):=⟨rfl,rfl,rfl,by decide+kernel,rfl,by decide+kernel,by decide+kernel⟩
 refine F.okF sc (fun vs H Q E h=>?_) (fun cdv A outer s H vs Q E hr h=>?_)
 · obtain ⟨v,rfl,hv,q,qe⟩:=h;rfl
 obtain ⟨v,rfl,hv,q,qe⟩:=h
 refine ⟨_,(@pss_one _ _ _ (ps_if (pt_not (pt_val (pe_callD Zm hr rfl pass_onF (pa_cons (pv 0) (pa_cons pe_int (pa_cons (pe_gint rfl T.Z18) pa_nil))))))
  (@pss_one _ _ _ (ps_raiseF T.Z3g rfl T.k_NoNumber rfl rfl T.Z2h raisesF (pa_cons (pe_fstr (pj_cons pe_str (pj_cons (pe_fmt (pe_gint rfl T.Z18)) pj_nil))) pa_nil)))
  pss_nil)),?_⟩
 rw [show start ["places"] [v]=[some (v)] from rfl]
 have line:=line_val
 walk_at "go"
 split
 · rename_i h
   have l1:(Str.ofString "the places of a shelf are not a whole number from 1 to ").length≤100:=by decide+kernel
   have l2:(Str.ofString (toString (1000000:Int))).length≤100:=by decide+kernel
   have l0:=len_empty
   refine ⟨by rw [len_app];omega,by decide,by rw [len_app,len_app];omega,by rw [len_app,len_app];omega,by omega,fun x hx=>⟨hx,qe h _ x (Same.new hx) hx upd_same⟩⟩
 · rename_i h
   exact q (by simpa using h)
theorem Z54{f:Addr}{fd:FuncData}(F:Fun K "thing_of" "Stock.thing_of" Z08 f fd)(T:Txt K mg Z5 Z3 Z4 Z7 Z2 Z1 Z0)(Z34:DefX P w K mg base (CXF P w) 1 "Unknown" Z3 ["self","name","place"] (sp_unk Z3)):FnOk P w K mg base (CXF P w) 3 f fd ["self","name"] (sp_thing K Z2 Z3):=by
 have sc:FnScope ["self","name"] ["self","name"] (defScope Z08):=⟨rfl,rfl,rfl,by decide+kernel,rfl,by decide+kernel,by decide+kernel⟩
 refine F.okF sc (fun vs H Q E h=>?_) (fun cdv A outer s H vs Q E hr h=>?_)
 · obtain ⟨p,ts,z,rfl,hs,nd,q,qe⟩:=h;rfl
 obtain ⟨p,ts,z,rfl,hs,nd,q,qe⟩:=h
 refine ⟨_,(@pss_cons _ _ _ _ _ (ps_if (pt_cmp (pc_dnotin (hu_of hr) (pv 1) (pe_fld (pv 0) rfl)))
  (@pss_one _ _ _ (ps_raiseI Z34 rfl hr rfl rfl (passS pass_onF) raisesF (pa_cons (pv 1) (pa_cons (pe_un un_neg pe_int) pa_nil))))
  pss_nil)
  (@pss_one _ _ _ (@ps_ret _ _ _ _ (pe_dget (hu_of hr) (pe_fld (pv 0) rfl) (pv 1) (fun _ _=>rfl))))),?_⟩
 rw [show start ["self","name"] [V.ref p,V.str z]=[some (V.ref p),some (V.str z)] from rfl]
 obtain ⟨dx,d,kvs,h1,h2,h3,h4,h5⟩:=StockAt.has hs
 have line:=line_val
 walk_at "go"
 refine ⟨Z2,dx,flds d,h1,T.Zf,T.Zd,_,flds_things,d,rfl,_,DGet.k (k:=Sum.inr z) h2,?_⟩
 rw [h4]
 by_cases hz:z∈ts.map (·.1)
 · rw [decide_eq_true hz]
   obtain ⟨i,t,ht,rfl⟩:=mem_nth hz
   obtain ⟨a,e1,e2⟩:=h5 nd i t ht
   walk_at "go"
   refine ⟨Z2,dx,flds d,h1,T.Zf,T.Zd,_,flds_things,?_⟩
   walk_at "go"
   refine ⟨V.ref a,by rw [← e1];exact DGet.k (k:=Sum.inr t.1) h2,?_⟩
   exact q i t ht rfl a e2
 · rw [decide_eq_false hz]
   walk_at "go"
   intro x hx
   refine ⟨true,upd_same,fun dx' hd'=>?_⟩
   have n1:x≠dx':=fun e=>by rw [e,upd_same]at hd';cases hd'
   have hd2:H dx'=none:=by rw [upd_ne n1.symm]at hd';exact hd'
   walk_at "go"
   refine ⟨some dx',by rw [upd_ne n1,upd_same],hx,?_⟩
   refine qe hz _ x (fun b o e=>?_) hx ⟨dx',upd_same,by rw [upd_ne n1.symm,upd_same]⟩
   rw [upd_ne (ne_of_none e hx),upd_ne (ne_of_none e hd2),upd_ne (ne_of_none e hx)]
   exact e
theorem Z4h{f:Addr}{fd:FuncData}(F:Fun K "number_of" "Stock.number_of" Z03 f fd)(T:Txt K mg Z5 Z3 Z4 Z7 Z2 Z1 Z0)(Zg:DefM P w K mg base (CXF P w) 3 Z2 "thing_of" ["self","name"] (sp_thing K Z2 Z3)):FnOk P w K mg base (CXF P w) 4 f fd ["self","name"] (sp_tell 0 K Z2 Z3):=by
 have sc:FnScope ["self","name"] ["self","name"] (defScope Z03):=⟨rfl,rfl,rfl,by decide+kernel,rfl,by decide+kernel,by decide+kernel⟩
 refine F.okF sc (fun vs H Q E h=>?_) (fun cdv A outer s H vs Q E hr h=>?_)
 · obtain ⟨p,ts,z,rfl,hs,nd,q,qe⟩:=h;rfl
 obtain ⟨p,ts,z,rfl,hs,nd,q,qe⟩:=h
 refine ⟨_,(@pss_one _ _ _ (@ps_ret _ _ _ _ (@pe_ix _ _ _ _ _ _ _ ix_tup (pe_methS Zg T.Zf hr (passS pass_onF) (pv 0) (pa_cons (pv 1) pa_nil)) pe_int (fun _ _=>rfl)))),?_⟩
 rw [show start ["self","name"] [V.ref p,V.str z]=[some (V.ref p),some (V.str z)] from rfl]
 obtain ⟨dx,d,kvs,h1,h2,h3,h4,h5⟩:=StockAt.has hs
 walk_at "go"
 refine ⟨dx,flds d,h1,by rfl,?_⟩
 walk_at "go"
 refine ⟨ts,hs,nd,fun i t ht e a ha=>?_,qe⟩
 refine ixT_of ha rfl ?_
 exact q i t ht e
theorem Z57{f:Addr}{fd:FuncData}(F:Fun K "cost_of" "Stock.cost_of" Z0c f fd)(T:Txt K mg Z5 Z3 Z4 Z7 Z2 Z1 Z0)(Zg:DefM P w K mg base (CXF P w) 3 Z2 "thing_of" ["self","name"] (sp_thing K Z2 Z3)):FnOk P w K mg base (CXF P w) 4 f fd ["self","name"] (sp_tell 1 K Z2 Z3):=by
 have sc:FnScope ["self","name"] ["self","name"] (defScope Z0c):=⟨rfl,rfl,rfl,by decide+kernel,rfl,by decide+kernel,by decide+kernel⟩
 refine F.okF sc (fun vs H Q E h=>?_) (fun cdv A outer s H vs Q E hr h=>?_)
 · obtain ⟨p,ts,z,rfl,hs,nd,q,qe⟩:=h;rfl
 obtain ⟨p,ts,z,rfl,hs,nd,q,qe⟩:=h
 refine ⟨_,(@pss_one _ _ _ (@ps_ret _ _ _ _ (@pe_ix _ _ _ _ _ _ _ ix_tup (pe_methS Zg T.Zf hr (passS pass_onF) (pv 0) (pa_cons (pv 1) pa_nil)) pe_int (fun _ _=>rfl)))),?_⟩
 rw [show start ["self","name"] [V.ref p,V.str z]=[some (V.ref p),some (V.str z)] from rfl]
 obtain ⟨dx,d,kvs,h1,h2,h3,h4,h5⟩:=StockAt.has hs
 walk_at "go"
 refine ⟨dx,flds d,h1,by rfl,?_⟩
 walk_at "go"
 refine ⟨ts,hs,nd,fun i t ht e a ha=>?_,qe⟩
 refine ixT_of ha rfl ?_
 exact q i t ht e
theorem Z58{f:Addr}{fd:FuncData}(F:Fun K "room_of" "Stock.room_of" Z0d f fd)(T:Txt K mg Z5 Z3 Z4 Z7 Z2 Z1 Z0)(Zg:DefM P w K mg base (CXF P w) 3 Z2 "thing_of" ["self","name"] (sp_thing K Z2 Z3)):FnOk P w K mg base (CXF P w) 4 f fd ["self","name"] (sp_tell 2 K Z2 Z3):=by
 have sc:FnScope ["self","name"] ["self","name"] (defScope Z0d):=⟨rfl,rfl,rfl,by decide+kernel,rfl,by decide+kernel,by decide+kernel⟩
 refine F.okF sc (fun vs H Q E h=>?_) (fun cdv A outer s H vs Q E hr h=>?_)
 · obtain ⟨p,ts,z,rfl,hs,nd,q,qe⟩:=h;rfl
 obtain ⟨p,ts,z,rfl,hs,nd,q,qe⟩:=h
 refine ⟨_,(@pss_one _ _ _ (@ps_ret _ _ _ _ (@pe_ix _ _ _ _ _ _ _ ix_tup (pe_methS Zg T.Zf hr (passS pass_onF) (pv 0) (pa_cons (pv 1) pa_nil)) pe_int (fun _ _=>rfl)))),?_⟩
 rw [show start ["self","name"] [V.ref p,V.str z]=[some (V.ref p),some (V.str z)] from rfl]
 obtain ⟨dx,d,kvs,h1,h2,h3,h4,h5⟩:=StockAt.has hs
 walk_at "go"
 refine ⟨dx,flds d,h1,by rfl,?_⟩
 walk_at "go"
 refine ⟨ts,hs,nd,fun i t ht e a ha=>?_,qe⟩
 refine ixT_of ha rfl ?_
 exact q i t ht e
theorem Z66{f:Addr}{fd:FuncData}(F:Fun K "check_sizes" "check_sizes" Z1b f fd)(T:Txt K mg Z5 Z3 Z4 Z7 Z2 Z1 Z0)(Z35:Def P w K mg base (CXF P w) 3 "check_places" ["places"] (sp13_check K Z4)):FnOk P w K mg base (CXF P w) 4 f fd ["sizes"] (sp78_sizes K Z4):=by
 have sc:FnScope ["sizes","size"] ["sizes"] (defScope Z1b):=⟨rfl,rfl,rfl,by decide+kernel,rfl,by decide+kernel,by decide+kernel⟩
 refine F.okF sc (fun vs H Q E h=>?_) (fun cdv A outer s H vs Q E hr h=>?_)
 · obtain ⟨a,xs,rfl,hS,hl,hn,hcase⟩:=h;rfl
 obtain ⟨a,xs,rfl,hS,hl,hn,hcase⟩:=h
 refine ⟨_,(@pss_cons _ _ _ _ _ (ps_if (PW.pt (pw_or (pt_cmpR op_lt (pe_callB call_len_seq rfl T.Zw PySem.boot_len (pa_cons (pv 0) pa_nil)) pe_int (nomark _)) (pw_or1 (pt_cmpR op_gt (pe_callB call_len_seq rfl T.Zw PySem.boot_len (pa_cons (pv 0) pa_nil)) (pe_gint rfl T.Z0n) (nomark _)))))
  (@pss_one _ _ _ (ps_raiseF T.Z3g rfl T.k_NoNumber rfl rfl T.Z2h raisesF (pa_cons (pe_fstr (pj_cons pe_str (pj_cons (pe_fmt (pe_gint rfl T.Z0n)) (pj_cons pe_str pj_nil)))) pa_nil)))
  pss_nil)
  (@pss_one _ _ _ (ps_for own_outF rfl (pi_list (pv 0)) (pg_name (i:=1) sc.nd rfl (Or.inl rfl))
   (@pss_one _ _ _ (ps_expr (pe_callD Z35 hr rfl pass_onF (pa_cons (pv 1) pa_nil))))))),?_⟩
 rw [show start ["sizes","size"] [V.ref a]=[some (V.ref a),none] from rfl]
 have line:=line_val
 have l1:(Str.ofString "a tower has from one to ").length≤100:=by decide+kernel
 have l2:(Str.ofString (toString (6:Int))).length≤100:=by decide+kernel
 have l3:(Str.ofString " shelves").length≤100:=by decide+kernel
 have l0:=len_empty
 have hq:SzOk xs→Q .non H:=fun h=>hcase.elim (fun c=>c.2) (fun c=>absurd h c.1)
 have he:¬SzOk xs→RefN Z4 H E:=fun h=>hcase.elim (fun c=>absurd c.1 h) (fun c=>c.2)
 have a1:(Str.empty++Str.ofString "a tower has from one to ").length≤100:=by rw [len_app];omega
 have a2:(Str.empty++Str.ofString "a tower has from one to "++Str.ofString (toString (6:Int))).length≤200:=by rw [len_app];omega
 have a3:(Str.empty++Str.ofString "a tower has from one to "++Str.ofString (toString (6:Int))++Str.ofString " shelves").length≤300:=by rw [len_app];omega
 clear hcase
 walk_at "go"
 by_cases c1:(xs.length:Int) < 1
 · rw [if_pos c1]
   exact ⟨by omega,by decide,by omega,by omega,by omega,by omega,fun x hx=>⟨hx,he (fun h=>by have:=h.1;omega) _ x (Same.new hx) hx upd_same⟩⟩
 rw [if_neg c1]
 refine ⟨_,.inl hS,?_⟩
 by_cases c2:6 < (xs.length:Int)
 · rw [if_pos c2]
   exact ⟨by omega,by decide,by omega,by omega,by omega,by omega,fun x hx=>⟨hx,he (fun h=>by have:=h.2.1;omega) _ x (Same.new hx) hx upd_same⟩⟩
 rw [if_neg c2]
 rename_i rest hrest
 subst hrest
 walk_at "go"
 refine ⟨⟨_,hS⟩,?_⟩
 refine forL_by (xs:=xs) (fun i σ H'=>∃(v1:Option V),σ=[some (V.ref a),v1]∧H'=H∧∀j,j < i→∀v,xs[j]?=some v→wIn 1 1000000 v=true) ⟨none,rfl,rfl,fun j hj=>absurd hj (Nat.not_lt_zero _)⟩ (fun i σ H' _ h_=>by obtain ⟨v1,_,rfl,_⟩:=h_;exact hS) ?_ ?_
 · rintro i v σ H' hv ⟨v1,rfl,rfl,hall⟩
   have hm:=List.mem_of_getElem? hv
   walk_at "go"
   refine ⟨hn v hm,fun h j hj u hu=>?_,fun h H1 y sm hy er=>he (fun hk=>?_) H1 y sm hy er⟩
   · by_cases e:j=i
     · rw [e,hv]at hu;cases hu;exact h
     · exact hall j (by omega) u hu
   · rw [hk.2.2 v hm]at h;cases h
 · rintro σ H' ⟨v1,rfl,rfl,hall⟩
   walk_at "go"
   refine hq ⟨by omega,by omega,fun v hv=>?_⟩
   obtain ⟨j,hj⟩:=List.mem_iff_getElem?.mp hv
   exact hall j (List.getElem?_eq_some_iff.mp hj).1 v hj
theorem Z67{f:Addr}{fd:FuncData}(F:Fun K "check_rooms" "check_rooms" Z1c f fd)(T:Txt K mg Z5 Z3 Z4 Z7 Z2 Z1 Z0)(Z2y:DefM P w K mg base (CXF P w) 4 Z2 "room_of" ["self","name"] (sp_tell 2 K Z2 Z3)):FnOk P w K mg base (CXF P w) 5 f fd ["stock","asks"] (sp78_rooms K Z2 Z7):=by
 have sc:FnScope ["stock","asks","name"] ["stock","asks"] (defScope Z1c):=⟨rfl,rfl,rfl,by decide+kernel,rfl,by decide+kernel,by decide+kernel⟩
 refine F.okF sc (fun vs H Q E h=>?_) (fun cdv A outer s H vs Q E hr h=>?_)
 · obtain ⟨p,a,ts,ys,rfl,hs,nd,hS,hy,hl,hyl,hcase⟩:=h;rfl
 obtain ⟨p,a,ts,ys,rfl,hs,nd,hS,hy,hl,hyl,hcase⟩:=h
 refine ⟨_,(@pss_one _ _ _ (ps_for own_outF rfl (pi_list (pv 1)) (pg_name (i:=2) sc.nd rfl (Or.inl rfl))
  (@pss_one _ _ _ (ps_if (pt_cmpR op_ne (pe_methS Z2y T.Zf hr (passS pass_onF) (pv 0) (pa_cons (pv 2) pa_nil)) pe_int (nomark _))
   (@pss_one _ _ _ (ps_raiseF T.Z8x rfl T.k_Unlike rfl rfl T.Z6w raisesF (pa_cons (pe_fstr (pj_cons (pe_fmt (pv 2)) (pj_cons pe_str pj_nil))) pa_nil)))
   pss_nil)))),?_⟩
 rw [show start ["stock","asks","name"] [V.ref p,V.ref a]=[some (V.ref p),some (V.ref a),none] from rfl]
 have line:=line_val
 obtain ⟨dy,e,kvs,h1,h2,h3,h4,h5⟩:=StockAt.has hs
 have l0:=len_empty
 have l1:(Str.ofString " has another room than 1").length≤100:=by decide+kernel
 walk_at "go"
 refine ⟨⟨_,hS⟩,?_⟩
 refine forL_by (xs:=ys.map V.str) (fun i σ H'=>∃(v2:Option V),σ=[some (V.ref p),some (V.ref a),v2]∧H'=H∧∀j,j < i→∀y,ys[j]?=some y→∃t∈ts,t.1=y∧t.2.2=1) ⟨none,rfl,rfl,fun j hj=>absurd hj (Nat.not_lt_zero _)⟩ (fun i σ H' _ h_=>by obtain ⟨v1,_,rfl,_⟩:=h_;exact hS) ?_ ?_
 · rintro i v σ H' hv ⟨v1,rfl,rfl,hall⟩
   rw [List.getElem?_map]at hv
   cases hyy:ys[i]? with
   | none=>rw [hyy]at hv;cases hv
   | some y=>
   rw [hyy]at hv
   cases hv
   have hym:=List.mem_of_getElem? hyy
   have hyl':=hyl y hym
   walk_at "go"
   refine ⟨dy,flds e,h1,by rfl,ts,hs,nd,fun j t' ht' e'=>?_,fun h=>absurd (hy y hym) h⟩
   by_cases c:pick 2 j t'=1
   · rw [if_neg (fun h=>h c)]
     intro j2 hj2 y2 hy2
     by_cases e2:j2=i
     · rw [e2,hyy]at hy2;cases hy2;exact ⟨t',List.mem_of_getElem? ht',e',c⟩
     · exact hall j2 (by omega) y2 hy2
   · rw [if_pos c]
     rcases hcase with k | ⟨_,qe⟩
     · exact absurd (k.1 t' (List.mem_of_getElem? ht')) c
     · have a1:(Str.empty++y).length≤200:=by rw [len_app];omega
       have a2:(Str.empty++y++Str.ofString " has another room than 1").length≤400:=by rw [len_app];omega
       exact ⟨by omega,by omega,by omega,by omega,by omega,fun x hx=>⟨hx,qe _ x (Same.new hx) hx upd_same⟩⟩
 · rintro σ H' ⟨v1,rfl,rfl,hall⟩
   walk_at "go"
   rcases hcase with c | ⟨⟨y,hym,hb⟩,_⟩
   · exact c.2
   · obtain ⟨j,hj⟩:=List.mem_iff_getElem?.mp hym
     obtain ⟨t,ht,e1,e2⟩:=hall j (by rw [List.length_map];exact (List.getElem?_eq_some_iff.mp hj).1) y hj
     exact absurd e2 (hb t ht e1)
theorem Z68{f:Addr}{fd:FuncData}(F:Fun K "write" "Tower.write" Z1d f fd)(T:Txt K mg Z5 Z3 Z4 Z7 Z2 Z1 Z0):FnOk P w K mg base (CXF P w) 2 f fd ["self","name"] (sp74_write Z1):=by
 have sc:FnScope ["self","name"] ["self","name"] (defScope Z1d):=⟨rfl,rfl,rfl,by decide+kernel,rfl,by decide+kernel,by decide+kernel⟩
 refine F.okF sc (fun vs H Q E h=>?_) (fun cdv A outer s H vs Q E hr h=>?_)
 · obtain ⟨t,x,s,g,z,B,hd,rfl,hT,hL,hB,hz,q⟩:=h;rfl
 obtain ⟨t,x,s,g,z,B,hd,rfl,hT,hL,hB,hz,q⟩:=h
 refine ⟨_,(@pss_cons _ _ _ _ _ (ps_dput (hu_of hr) (pe_fld (pv 0) rfl) (pv 1) (pe_dget (hu_of hr) (pe_fld (pv 0) rfl) (pv 1) (fun _ _=>rfl)) rfl)
  (@pss_one _ _ _ (ps_expr (pe_bm PySem.F.plainAttrs_list PySem.F.slot_list_append PySem.F.type_list_append mt_append (pe_fld (pv 0) rfl) (pa_cons (pe_tup (pa_cons pe_str (pa_cons (pv 1) (pa_cons (pe_dget (hu_of hr) (pe_fld (pv 0) rfl) (pv 1) (fun _ _=>rfl)) pa_nil)))) pa_nil))))),?_⟩
 rw [show start ["self","name"] [V.ref t,V.str z]=[some (V.ref t),some (V.str z)] from rfl]
 have line:=line_val
 obtain ⟨dx,fs,ho,hf⟩:=hT.o
 have hi:=hL.h z hz
 have n3:=hL.n3
 have n4:=hL.n4
 walk_at "go"
 refine ⟨Z1,dx,fs,ho,T.Z8,T.Zo,_,hf.he,x.he,rfl,.int (g.h z),by rw [← hi];exact DGet.k (k:=Sum.inr z) hT.he,Z1,dx,fs,ho,T.Z8,T.Z0i,_,hf.so,x.so,rfl,_,DPut.k (k:=Sum.inr z) hT.so (by omega),?_⟩
 have hT1:=hT.store (putK s.ks (Sum.inr z) (.int (g.h z)))
 have o1:Off (own t x) H (upd H x.so (.dK (putK s.ks (Sum.inr z) (.int (g.h z))))):=Off.put (by simp [own])
 generalize upd H x.so (.dK (putK s.ks (Sum.inr z) (.int (g.h z))))=H1 at hT1 o1 ⊢
 obtain ⟨dx1,fs1,ho1,hf1⟩:=hT1.o
 walk_at "go"
 refine ⟨Z1,dx1,fs1,ho1,T.Z8,T.Zv,_,hf1.en,.inl ⟨rfl,_,SqL.of hT1.en⟩,Z1,dx1,fs1,ho1,T.Z8,T.Zo,_,hf1.he,x.he,rfl,.int (g.h z),by rw [← hi];exact DGet.k (k:=Sum.inr z) hT1.he,by omega,fun u hu=>?_⟩
 have sm2:Same H1 (upd H1 u (.tup (wrT z (g.h z)))):=Same.new hu
 have hT2:=hT1.same sm2
 have hu2:upd H1 u (.tup (wrT z (g.h z))) u=some (.tup (wrT z (g.h z))):=upd_same
 have nue:u≠x.en:=(ne_of_none hT1.en hu).symm
 have o2:Off (own t x) H (upd H1 u (.tup (wrT z (g.h z)))):=o1.trans (.of sm2)
 show rAppend _ _ (upd H1 u (.tup (wrT z (g.h z)))) _
 generalize upd H1 u (.tup (wrT z (g.h z)))=H2 at hT2 o2 hu2 ⊢
 refine ⟨x.en,_,_,rfl,rfl,hT2.en,by show s.es.length < _;omega,?_⟩
 walk_at "go"
 have oF:=o2.trans (Off.put (H:=H2) (b:=x.en) (o:= .lst (s.es++[.ref u])) (by simp [own]))
 exact q {s with ks:=putK s.ks (Sum.inr z) (.int (g.h z)),es:=s.es++[.ref u]} _ oF (hT2.entry (s.es++[.ref u])) rfl rfl rfl rfl rfl (hL.wrote hz (keepT hT oF) (by rw [upd_ne nue];exact hu2) (by omega))
theorem Z5t{f:Addr}{fd:FuncData}(F:Fun K "settle" "Tower.settle" Z0q f fd)(T:Txt K mg Z5 Z3 Z4 Z7 Z2 Z1 Z0):FnOk P w K mg base (CXF P w) 1 f fd ["self","name"] (sp74_settle Z1 false):=by
 have sc:FnScope ["self","name"] ["self","name"] (defScope Z0q):=⟨rfl,rfl,rfl,by decide+kernel,rfl,by decide+kernel,by decide+kernel⟩
 refine F.okF sc (fun vs H Q E h=>?_) (fun cdv A outer s H vs Q E hr h=>?_)
 · obtain ⟨t,x,s,g,z,B,hd,rfl,hT,hL,hB,hz,q⟩:=h;rfl
 obtain ⟨t,x,s,g,z,B,hd,rfl,hT,hL,hB,hz,q⟩:=h
 refine ⟨_,(@pss_one _ _ _ (ps_dput (hu_of hr) (pe_fld (pv 0) rfl) (pv 1) pe_bl rfl)),?_⟩
 rw [show start ["self","name"] [V.ref t,V.str z]=[some (V.ref t),some (V.str z)] from rfl]
 have line:=line_val
 obtain ⟨dx,fs,ho,hf⟩:=hT.o
 walk_at "go"
 have h2:=hL.n2
 refine ⟨Z1,dx,fs,ho,T.Z8,T.Zx,_,hf.la,x.la,rfl,_,DPut.k (k:=Sum.inr z) hT.la (by omega),?_⟩
 have o:Off (own t x) H (upd H x.la (.dK (putK s.kl (Sum.inr z) (.bl true)))):=Off.put (by simp [own])
 exact q _ _ o (hT.late (putK s.kl (Sum.inr z) (.bl true))) rfl rfl rfl rfl ((hL.lateOn hz (by omega)).off hT o)
theorem Z55{f:Addr}{fd:FuncData}(F:Fun K "fall_off" "Tower.fall_off" Z09 f fd)(T:Txt K mg Z5 Z3 Z4 Z7 Z2 Z1 Z0)(Z1o:DefM P w K mg base (CXF P w) 2 Z1 "write" ["self","name"] (sp74_write Z1)):FnOk P w K mg base (CXF P w) 3 f fd ["self","name"] (sp74_fall Z1):=by
 have sc:FnScope ["self","name"] ["self","name"] (defScope Z09):=⟨rfl,rfl,rfl,by decide+kernel,rfl,by decide+kernel,by decide+kernel⟩
 refine F.okF sc (fun vs H Q E h=>?_) (fun cdv A outer s H vs Q E hr h=>?_)
 · obtain ⟨t,x,s,g,z,B,hd,rfl,hT,hL,hB,hz,q⟩:=h;rfl
 obtain ⟨t,x,s,g,z,B,hd,rfl,hT,hL,hB,hz,q⟩:=h
 refine ⟨_,(@pss_cons _ _ _ _ _ (ps_if (pt_cmp (pc_din (hu_of hr) (pv 1) (pe_fld (pv 0) rfl)))
  (@pss_cons _ _ _ _ _ (ps_expr (pe_dpop1 (pe_fld (pv 0) rfl) (pv 1) ⟨rfl,rfl,rfl,rfl⟩))
  (@pss_one _ _ _ (ps_expr (pe_methS Z1o T.Z8 hr (passS pass_onF) (pv 0) (pa_cons (pv 1) pa_nil)))))
  pss_nil)
  (@pss_one _ _ _ (ps_expr (pe_dpop1 (pe_fld (pv 0) rfl) (pv 1) ⟨rfl,rfl,rfl,rfl⟩)))),?_⟩
 rw [show start ["self","name"] [V.ref t,V.str z]=[some (V.ref t),some (V.str z)] from rfl]
 have line:=line_val
 obtain ⟨dx,fs,ho,hf⟩:=hT.o
 walk_at "go"
 refine ⟨Z1,dx,fs,ho,T.Z8,T.Zx,_,hf.la,x.la,rfl,_,DGet.k (k:=Sum.inr z) hT.la,?_⟩
 rename_i rest hrest
 have key:∀(s1:TwS) (H1:Hp),Off (own t x) H H1→TwAt Z1 H1 t x s1→s1.R=s.R→s1.zs=s.zs→s1.ff=s.ff→s1.pd=s.pd→TwG H1 s1 (fallG z g) (B+1) hd→(fallG z g).l z=false→rest [some (V.ref t),some (V.str z)] H1:=by
  intro s1 H1 o1 hT1 e1 e2 e3 e4 hL1 hz1
  obtain ⟨dx1,fs1,ho1,hf1⟩:=hT1.o
  have hi1:=hL1.h z hz
  subst hrest
  walk_at "go"
  refine ⟨Z1,dx1,fs1,ho1,T.Z8,T.Zo,_,hf1.he,x.he,rfl,.inl ⟨_,.inl hT1.he⟩,_,hT1.he,Sum.inr z,rfl,_,hi1,?_⟩
  have oP:Off (own t x) H1 (upd H1 x.he (.dK (dropK s1.kh (Sum.inr z)))):=Off.put (by simp [own])
  exact q _ _ (o1.trans oP) (hT1.held (dropK s1.kh (Sum.inr z))) e1 e2 e3 e4 ((hL1.popped hz1).off hT1 oP)
 clear hrest
 rw [hL.l z]
 by_cases hin:g.l z=true
 · rw [if_pos hin]
   have hsome:(valV s.kl (Sum.inr z)).isSome=true:=by rw [hL.l z];exact hin
   obtain ⟨vl,hvl⟩:=Option.isSome_iff_exists.mp hsome
   walk_at "go"
   refine ⟨Z1,dx,fs,ho,T.Z8,T.Zx,_,hf.la,x.la,rfl,.inl ⟨_,.inl hT.la⟩,_,hT.la,Sum.inr z,rfl,_,hvl,?_⟩
   have hT1:=hT.late (dropK s.kl (Sum.inr z))
   have o1:Off (own t x) H (upd H x.la (.dK (dropK s.kl (Sum.inr z)))):=Off.put (by simp [own])
   have hL1:=(hL.lateOff (z:=z)).off hT o1
   generalize upd H x.la (.dK (dropK s.kl (Sum.inr z)))=H1 at hT1 o1 hL1 ⊢
   obtain ⟨dx1,fs1,ho1,hf1⟩:=hT1.o
   have eG:fallG z g=(g.late z false).write z:=by unfold fallG;rw [if_pos hin]
   walk_at "go"
   refine ⟨dx1,fs1,ho1,hf1.m _ (by simp),x,_,hT1,_,B,hd,hL1,hB,hz,fun s2 H2 o2 hT2 e1 e2 e3 e4 _ hL2=>?_⟩
   exact key s2 H2 (o1.trans o2) hT2 e1 e2 e3 e4 (by rw [eG];exact hL2) (by rw [eG];exact setF_same)
 · rw [if_neg hin]
   have eG:fallG z g=g:=by unfold fallG;rw [if_neg hin]
   exact key s H (fun b o e _=>e) hT rfl rfl rfl rfl (by rw [eG];exact hL.iff (fun _=>Iff.rfl) (by omega) (by omega)) (by rw [eG];simpa using hin)
theorem Z6n{f:Addr}{fd:FuncData}(F:Fun K "come" "Tower.come" Z20 f fd)(T:Txt K mg Z5 Z3 Z4 Z7 Z2 Z1 Z0)(Z2n:DefM P w K mg base (CXF P w) 3 Z1 "fall_off" ["self","name"] (sp74_fall Z1)):FnOk P w K mg base (CXF P w) 4 f fd ["self","name"] (sp74_come Z1):=by
 have sc:FnScope ["self","name"] ["self","name"] (defScope Z20):=⟨rfl,rfl,rfl,by decide+kernel,rfl,by decide+kernel,by decide+kernel⟩
 refine F.okF sc (fun vs H Q E h=>?_) (fun cdv A outer s H vs Q E hr h=>?_)
 · obtain ⟨t,x,s,g,z,B,rfl,hT,hL,hB,nd,hRl,hRs,hS1,q⟩:=h;rfl
 obtain ⟨t,x,s,g,z,B,rfl,hT,hL,hB,nd,hRl,hRs,hS1,q⟩:=h
 refine ⟨_,(@pss_cons _ _ _ _ _ (ps_if (pt_cmpR op_in_seq (pv 1) (pe_fld (pv 0) rfl) (by with_unfolding_all rfl))
  (@pss_one _ _ _ (ps_expr (pe_bm PySem.F.plainAttrs_list PySem.F.slot_list_remove PySem.F.type_list_remove mt_remove (pe_fld (pv 0) rfl) (pa_cons (pv 1) pa_nil))))
  pss_nil)
  (@pss_cons _ _ _ _ _ (ps_expr (pe_bm PySem.F.plainAttrs_list PySem.F.slot_list_insert PySem.F.type_list_insert mt_insert (pe_fld (pv 0) rfl) (pa_cons pe_int (pa_cons (pv 1) pa_nil))))
  (@pss_one _ _ _ (ps_if (pt_cmpR op_gt (pe_callB call_len_seq rfl T.Zw PySem.boot_len (pa_cons (pe_fld (pv 0) rfl) pa_nil)) (pe_callB (call_sumL rfl) rfl T.Z4y (by first | rfl | decide+kernel) (pa_cons (pe_fld (pv 0) rfl) pa_nil)) (nomark _))
   (@pss_one _ _ _ (ps_expr (pe_methS Z2n T.Z8 hr (passS pass_onF) (pv 0) (pa_cons (pe_bm0 PySem.F.plainAttrs_list PySem.F.slot_list_pop PySem.F.type_list_pop mt_pop (pe_fld (pv 0) rfl)) pa_nil))))
   pss_nil)))),?_⟩
 rw [show start ["self","name"] [V.ref t,V.str z]=[some (V.ref t),some (V.str z)] from rfl]
 have line:=line_val
 obtain ⟨dx,fs,ho,hf⟩:=hT.o
 walk_at "go"
 refine ⟨Z1,dx,fs,ho,T.Z8,T.Zs,_,hf.ro,in_go (SqL.of hT.ro) ⟨_,rfl,?_⟩⟩
 rename_i rest hrest
 have key:∀H1:Hp,Off (own t x) H H1→TwAt Z1 H1 t x {s with R:=s.R.erase z}→rest [some (V.ref t),some (V.str z)] H1:=by
  intro H1 o1 hT1
  obtain ⟨dx1,fs1,ho1,hf1⟩:=hT1.o
  have hel:(s.R.erase z).length≤s.R.length:=List.length_erase_le
  subst hrest
  walk_at "go"
  refine ⟨Z1,dx1,fs1,ho1,T.Z8,T.Zs,_,hf1.ro,.inl ⟨rfl,_,SqL.of hT1.ro⟩,x.ro,rfl,_,hT1.ro,by rw [List.length_map];show (s.R.erase z).length < _;omega,?_⟩
  have hT2:TwAt Z1 (upd H1 x.ro (.lst (V.str z::List.map V.str {s with R:=s.R.erase z}.R))) t x {s with R:=z::s.R.erase z}:=hT1.row (z::s.R.erase z)
  have o2:Off (own t x) H (upd H1 x.ro (.lst (V.str z::List.map V.str {s with R:=s.R.erase z}.R))):=o1.trans (Off.put (by simp [own]))
  generalize upd H1 x.ro (.lst (V.str z::List.map V.str {s with R:=s.R.erase z}.R))=H2 at hT2 o2 ⊢
  obtain ⟨dx2,fs2,ho2,hf2⟩:=hT2.o
  walk_at "go"
  refine ⟨Z1,dx2,fs2,ho2,T.Z8,T.Zs,_,hf2.ro,x.ro,rfl,_,.inl (SqL.of hT2.ro),Z1,dx2,fs2,ho2,T.Z8,T.Zr,_,hf2.si,x.si,rfl,_,SqL.of hT2.si,?_⟩
  rw [List.length_map]
  have hl1:(z::s.R.erase z).length=(s.R.erase z).length+1:=rfl
  have ndc:=nd_come (z:=z) nd
  by_cases hov:s.zs.sum < ((z::s.R.erase z).length:Int)
  · rw [if_pos hov]
    obtain ⟨y,hy,edl,hyin,hiff⟩:=drop_last (S:=s.zs.sum.toNat) ndc (by omega)
    have eG:comeG s.zs.sum s.R z g=fallG y g:=by unfold comeG lastS;rw [if_pos hov,hy];rfl
    refine ⟨dx2,fs2,ho2,hf2.m _ (by simp),Z1,dx2,fs2,ho2,T.Z8,T.Zs,_,hf2.ro,.inl ⟨rfl,_,SqL.of hT2.ro⟩,x.ro,rfl,_,hT2.ro,V.str y,by rw [List.length_map,List.getElem?_map,hy];rfl,?_⟩
    have hT3:TwAt Z1 (upd H2 x.ro (.lst ((z::s.R.erase z).map V.str).dropLast)) t x {s with R:=(z::s.R.erase z).dropLast}:=by
     rw [← List.map_dropLast];exact hT2.row ((z::s.R.erase z).dropLast)
    have o3:Off (own t x) H (upd H2 x.ro (.lst ((z::s.R.erase z).map V.str).dropLast)):=o2.trans (Off.put (by simp [own]))
    have hL3:=hL.off hT o3
    walk_at "go"
    refine ⟨x,_,hT3,g,B,_,hL3.cast rfl rfl rfl rfl,hB,mem_come.mp hyin,fun s' H' o hT' e1 e2 e3 e4 hL'=>?_⟩
    have e1':s'.R=(z::s.R.erase z).dropLast:=e1
    exact q s' H' (o3.trans o) hT' (by rw [e1',edl]) e2 e3 e4 (by rw [eG];exact hL'.iff (fun u=>by rw [e1',hiff u,mem_come]) (Nat.le_refl _) (by omega))
  · rw [if_neg hov]
    have eG:comeG s.zs.sum s.R z g=g:=by unfold comeG;rw [if_neg hov]
    exact q _ H2 o2 hT2 (by rw [List.take_of_length_le (by omega)]) rfl rfl rfl (by rw [eG];exact ((hL.off hT o2).iff (fun u=>(mem_come (R:=s.R) (z:=z) (u:=u)).symm) (by omega) (by omega)).cast rfl rfl rfl rfl)
 clear hrest
 by_cases hin:z∈s.R
 · rw [if_pos (by simpa using hin)]
   refine ⟨Z1,dx,fs,ho,T.Z8,T.Zs,_,hf.ro,.inl ⟨rfl,_,SqL.of hT.ro⟩,x.ro,rfl,s.R,hT.ro,hin,?_⟩
   exact key _ (Off.put (by simp [own])) (hT.row (s.R.erase z))
 · rw [if_neg (by simpa using hin)]
   have:=key H (fun b o e _=>e) (by rw [List.erase_of_not_mem hin];exact hT)
   exact this
theorem Z5u{f:Addr}{fd:FuncData}(F:Fun K "levels" "Tower.levels" Z0r f fd)(T:Txt K mg Z5 Z3 Z4 Z7 Z2 Z1 Z0):FnOk P w K mg base (CXF P w) 1 f fd ["self"] (sp71_levels Z1):=by
 have sc:FnScope ["self","told","start","size"] ["self"] (defScope Z0r):=⟨rfl,rfl,rfl,by decide+kernel,rfl,by decide+kernel,by decide+kernel⟩
 refine F.okF sc (fun vs H Q E h=>?_) (fun cdv A outer s H vs Q E hr h=>?_)
 · obtain ⟨t,x,s,rfl,hT,hzl,hz,q⟩:=h;rfl
 obtain ⟨t,x,s,rfl,hT,hzl,hz,q⟩:=h
 refine ⟨_,(@pss_cons _ _ _ _ _ (ps_set (i:=1) sc.nd rfl (Or.inl rfl) (@pe_lst _ _ _ _ pa_nil))
  (@pss_cons _ _ _ _ _ (ps_set (i:=2) sc.nd rfl (Or.inl rfl) pe_int)
  (@pss_cons _ _ _ _ _ (ps_for own_outF rfl (pi_list (pe_fld (pv 0) rfl)) (pg_name (i:=3) sc.nd rfl (Or.inl rfl))
   (@pss_cons _ _ _ _ _ (ps_expr (pe_bm PySem.F.plainAttrs_list PySem.F.slot_list_append PySem.F.type_list_append mt_append (pv 1) (pa_cons (pe_slice sl_list (pe_fld (pv 0) rfl) (po_some (pv 2)) (po_some (pe_op op_add (pv 2) (pv 3)))) pa_nil)))
   (@pss_one _ _ _ (ps_aug (i:=2) sc.nd rfl (Or.inl rfl) (pv 3) ip_add))))
  (@pss_one _ _ _ (@ps_ret _ _ _ _ (pv 1)))))),?_⟩
 rw [show start ["self","told","start","size"] [V.ref t]=[some (V.ref t),none,none,none] from rfl]
 have line:=line_val
 obtain ⟨dx,fs,ho,hf⟩:=hT.o
 walk_at "go"
 intro p hp
 walk_at "go"
 have sm0:Same H (upd H p (.lst [])):=Same.new hp
 have hp0:upd H p (.lst []) p=some (.lst []):=upd_same
 generalize upd H p (.lst [])=H0 at sm0 hp0 ⊢
 refine ⟨Z1,dx,fs,sm0 _ _ ho,T.Z8,T.Zr,_,hf.si,x.si,rfl,⟨_,SqL.of (sm0 _ _ hT.si)⟩,?_⟩
 rename_i rest hrest
 refine forL_by (xs:=s.zs.map V.int) (fun i σ H'=>∃(as:List Addr) (v3:Option V),σ=[some (V.ref t),some (V.ref p),some (V.int (pre s.zs i)),v3]∧Same H H'∧H' p=some (.lst (as.map V.ref))∧LvAt H' as s.zs s.R i∧(∀a∈as,H a=none)∧as.Nodup∧p∉as)
  ⟨[],none,rfl,sm0,hp0,⟨rfl,fun i a e=>by simp at e⟩,(fun a ha=>by cases ha),List.nodup_nil,(fun h=>by cases h)⟩ (fun i σ H' _ h_=>by obtain ⟨as,v3,_,sm,_⟩:=h_;exact SqL.of (sm _ _ hT.si)) ?_ ?_
 · rintro i v σ H' hv ⟨as,v3,rfl,sm,hp',hA,hn,nd,hpn⟩
   have hi:i < s.zs.length:=by
    have:=(List.getElem?_eq_some_iff.mp hv).1
    rw [List.length_map]at this;exact this
   have hgi:s.zs[i]?=some (s.zs.getD i 0):=getD_int hi
   rw [List.getElem?_map,hgi]at hv
   cases hv
   have hz1:=hz _ (List.mem_of_getElem? hgi)
   have hpn0:=pre_nn (fun z h=>(hz z h).1) i
   rw [pre_succ hi]
   have hal:as.length≤i:=Nat.le_of_eq hA.1
   walk_at "go"
   refine ⟨.inl ⟨rfl,_,SqL.of hp'⟩,Z1,dx,fs,sm _ _ ho,T.Z8,T.Zs,_,hf.ro,x.ro,rfl,_,SqL.of (sm _ _ hT.ro),fun l hl=>?_⟩
   rw [cut_lvl hz hi]
   have npl:p≠l:=ne_of_none hp' hl
   have sm2:Same H' (upd H' l (.lst ((lvl s.zs s.R i).map V.str))):=Same.new hl
   have hlH:H l=none:=by
    cases e:H l with
    | none=>rfl
    | some o=>rw [sm _ _ e]at hl;cases hl
   refine ⟨p,_,_,rfl,rfl,sm2 _ _ hp',by rw [List.length_map];omega,?_⟩
   have hla:l∉as:=fun h=>by
    obtain ⟨j,hj⟩:=List.mem_iff_getElem?.mp h
    rw [hA.2 j l hj]at hl;cases hl
   have sm3:Same H (upd (upd H' l (.lst ((lvl s.zs s.R i).map V.str))) p (.lst (as.map V.ref++[V.ref l]))):=fun b o e=>by rw [upd_ne (ne_of_none e hp)];exact (sm.trans sm2) _ _ e
   have hp3:upd (upd H' l (.lst ((lvl s.zs s.R i).map V.str))) p (.lst (as.map V.ref++[V.ref l])) p=some (.lst ((as++[l]).map V.ref)):=by rw [upd_same,List.map_append];rfl
   have hA3:LvAt (upd (upd H' l (.lst ((lvl s.zs s.R i).map V.str))) p (.lst (as.map V.ref++[V.ref l]))) (as++[l]) s.zs s.R (i+1):=by
    refine ⟨by rw [List.length_append,hA.1];rfl,fun j a e=>?_⟩
    by_cases hj:j < as.length
    · rw [List.getElem?_append_left hj]at e
      have h1:=hA.2 j a e
      rw [upd_ne (fun z=>hpn (by rw [← z];exact List.mem_of_getElem? e))]
      exact sm2 _ _ h1
    · rw [List.getElem?_append_right (by omega)]at e
      have hj0:j=i:=by
       have h1:=(List.getElem?_eq_some_iff.mp e).1
       have h2:=hA.1
       simp at h1;omega
      rw [show j - as.length=0 by have:=hA.1;omega]at e
      cases e
      rw [upd_ne npl.symm,upd_same,hj0]
   generalize upd (upd H' l (.lst ((lvl s.zs s.R i).map V.str))) p (.lst (as.map V.ref++[V.ref l]))=H3 at sm3 hp3 hA3 ⊢
   walk_at "go"
   refine ⟨as++[l],hp3,hA3,fun a ha=>?_,?_,fun h=>?_⟩
   · rcases List.mem_append.mp ha with ha | ha
     · exact hn a ha
     · rw [List.mem_singleton.mp ha];exact hlH
   · exact List.nodup_append.mpr ⟨nd,List.nodup_cons.mpr ⟨List.not_mem_nil,List.nodup_nil⟩,fun a ha b hb e=>hla (by rw [← List.mem_singleton.mp hb,← e];exact ha)⟩
   · rcases List.mem_append.mp h with h | h
     · exact hpn h
     · exact npl (List.mem_singleton.mp h)
 · rintro σ H' ⟨as,v3,rfl,sm,hp',hA,hn,nd,hpn⟩
   rw [List.length_map]at hA
   walk_at "go"
   exact q p as _ hp sm hp' hA hn nd hpn
theorem Z56{f:Addr}{fd:FuncData}(F:Fun K "shelf_of" "Tower.shelf_of" Z0a f fd)(T:Txt K mg Z5 Z3 Z4 Z7 Z2 Z1 Z0)(Za:DefM P w K mg base (CXF P w) 4 Z2 "number_of" ["self","name"] (sp_tell 0 K Z2 Z3))(Zt:DefM P w K mg base (CXF P w) 1 Z1 "levels" ["self"] (sp71_levels Z1)):FnOk P w K mg base (CXF P w) 5 f fd ["self","name"] (sp78_shelf K Z1 Z2 Z3):=by
 have sc:FnScope ["self","name","number","names"] ["self","name"] (defScope Z0a):=⟨rfl,rfl,rfl,by decide+kernel,rfl,by decide+kernel,by decide+kernel⟩
 refine F.okF sc (fun vs H Q E h=>?_) (fun cdv A outer s H vs Q E hr h=>?_)
 · obtain ⟨t,x,s,z,ts,rfl,hT,hs,nd,hcase⟩:=h;rfl
 obtain ⟨t,x,s,z,ts,rfl,hT,hs,nd,hcase⟩:=h
 refine ⟨_,(@pss_cons _ _ _ _ _ (ps_expr (pe_methS Za T.Zf hr (passS pass_onF) (pe_fld (pv 0) rfl) (pa_cons (pv 1) pa_nil)))
  (@pss_cons _ _ _ _ _ (ps_for own_outF rfl (pi_enum rfl T.Z1x (pa_cons (pe_methS0 Zt T.Z8 hr (passS pass_onF) (pv 0)) pa_nil)) (pg_tup rfl (pgs_cons (pg_name (i:=2) sc.nd rfl (Or.inl rfl)) (pgs_cons (pg_name (i:=3) sc.nd rfl (Or.inl rfl)) pgs_nil)))
   (@pss_one _ _ _ (ps_if (pt_cmpR op_in_seq (pv 1) (pv 3) (by with_unfolding_all rfl))
    (@pss_one _ _ _ (@ps_ret _ _ _ _ (pv 2)))
    pss_nil)))
  (@pss_one _ _ _ (@ps_ret _ _ _ _ (pe_callB call_len_seq rfl T.Zw PySem.boot_len (pa_cons (pe_fld (pv 0) rfl) pa_nil)))))),?_⟩
 rw [show start ["self","name","number","names"] [V.ref t,V.str z]=[some (V.ref t),some (V.str z),none,none] from rfl]
 rcases hcase with ⟨hz,hzl,hzz,hRs,q⟩ | ⟨hz,qe⟩
 rotate_left
 · have line:=line_val
   obtain ⟨dx,fs,ho,hf⟩:=hT.o
   obtain ⟨dy,e,kvs,h1,h2,h3,h4,h5⟩:=StockAt.has hs.at
   walk_at "go"
   refine ⟨Z1,dx,fs,ho,T.Z8,T.Zq,_,hf.st,x.st,rfl,dy,flds e,h1,by rfl,x.st,rfl,ts,hs.at,nd,fun i t' ht' e'=>absurd (e'▸List.mem_map.mpr ⟨t',List.mem_of_getElem? ht',rfl⟩) hz,fun _ H' e sm he er=>?_⟩
   exact qe H' e sm he er
 have line:=line_val
 obtain ⟨dx,fs,ho,hf⟩:=hT.o
 obtain ⟨dy,e,kvs,h1,h2,h3,h4,h5⟩:=StockAt.has hs.at
 walk_at "go"
 refine ⟨Z1,dx,fs,ho,T.Z8,T.Zq,_,hf.st,x.st,rfl,dy,flds e,h1,by rfl,x.st,rfl,ts,hs.at,nd,fun i t' ht' e'=>?_,fun h=>absurd hz h⟩
 clear e' ht'
 walk_at "go"
 refine ⟨dx,fs,ho,hf.m _ (by simp),x,s,hT,hzl,hzz,fun p as H1 hp sm1 hp1 hA han nda hpn=>⟨⟨_,SqL.of hp1⟩,?_⟩⟩
 rename_i rest hrest
 refine forE_by (xs:=as.map V.ref) (fun i σ H'=>∃(v2 v3:Option V),σ=[some (V.ref t),some (V.str z),v2,v3]∧Same H1 H'∧∀j,j < i→z∉lvl s.zs s.R j) ⟨none,none,rfl,Same.refl _,fun j hj=>absurd hj (Nat.not_lt_zero j)⟩ (fun i σ H' _ h_=>by obtain ⟨v2,v3,_,sm,_⟩:=h_;exact SqL.of (sm _ _ hp1)) ?_ ?_
 · rintro i v σ H' u hv ⟨v2,v3,rfl,sm,hno⟩ hu
   have hi:i < as.length:=by
    have:=(List.getElem?_eq_some_iff.mp hv).1
    rw [List.length_map]at this;exact this
   have hai:as[i]?=some as[i]:=List.getElem?_eq_getElem hi
   rw [List.getElem?_map,hai]at hv
   cases hv
   have hla:=(sm.trans (Same.new (o:= .tup [.int i,.ref as[i]]) hu)) _ _ (hA.2 i _ hai)
   have smu:=sm.trans (Same.new (o:= .tup [.int i,.ref as[i]]) hu)
   walk_at "go"
   refine ⟨_,SqT.of upd_same,rfl,_,_,rfl,_,_,rfl,rfl,?_⟩
   generalize upd H' u (.tup [.int i,.ref as[i]])=H2 at hla smu ⊢
   have hzl2:i < s.zs.length:=by have:=hA.1;omega
   walk_at "go"
   refine in_go (SqL.of hla) ⟨_,rfl,?_⟩
   by_cases hin:z∈lvl s.zs s.R i
   · rw [if_pos (by simpa using hin)]
     walk_at "go"
     exact q i H2 (sm1.trans smu) (by omega) ⟨fun _=>lvl_sub hin,fun _=>hzl2⟩ (Nat.le_of_eq (shx_at hzl2 hin hno)) (Nat.le_of_eq (shx_at hzl2 hin hno).symm)
   · rw [if_neg (by simpa using hin)]
     walk_at "go"
     intro j hj
     by_cases e:j=i
     · rw [e];exact hin
     · exact hno j (by omega)
 · rintro σ H' ⟨v2,v3,rfl,sm,hno⟩
   rw [List.length_map,hA.1]at hno
   have smA:=sm1.trans sm
   walk_at "go"
   refine ⟨Z1,dx,fs,smA _ _ ho,T.Z8,T.Zr,_,hf.si,x.si,rfl,_,.inl (SqL.of (smA _ _ hT.si)),?_⟩
   rw [List.length_map]
   refine q s.zs.length H' smA (Nat.le_refl _) ⟨fun h=>absurd h (Nat.lt_irrefl _),fun h=>?_⟩ (Nat.le_of_eq (shx_no hno)) (Nat.le_of_eq (shx_no hno).symm)
   obtain ⟨j,hj,hjz⟩:=lvl_all (fun z h=>(hzz z h).1) hRs h
   exact absurd hjz (hno j hj)
theorem Z5v{f:Addr}{fd:FuncData}(F:Fun K "stored" "Tower.stored" Z0s f fd)(T:Txt K mg Z5 Z3 Z4 Z7 Z2 Z1 Z0)(Za:DefM P w K mg base (CXF P w) 4 Z2 "number_of" ["self","name"] (sp_tell 0 K Z2 Z3)):FnOk P w K mg base (CXF P w) 5 f fd ["self","name"] (sp78_stored K Z1 Z2 Z3):=by
 have sc:FnScope ["self","name"] ["self","name"] (defScope Z0s):=⟨rfl,rfl,rfl,by decide+kernel,rfl,by decide+kernel,by decide+kernel⟩
 refine F.okF sc (fun vs H Q E h=>?_) (fun cdv A outer s H vs Q E hr h=>?_)
 · obtain ⟨t,x,s,g,z,ts,B,hd,rfl,hT,hs,nd,hcase⟩:=h;rfl
 obtain ⟨t,x,s,g,z,ts,B,hd,rfl,hT,hs,nd,hcase⟩:=h
 refine ⟨_,(@pss_cons _ _ _ _ _ (ps_expr (pe_methS Za T.Zf hr (passS pass_onF) (pe_fld (pv 0) rfl) (pa_cons (pv 1) pa_nil)))
  (@pss_one _ _ _ (@ps_ret _ _ _ _ (pe_dget2 (hu_of hr) (pe_fld (pv 0) rfl) (pv 1) pe_int ⟨rfl,rfl,rfl,rfl⟩)))),?_⟩
 rw [show start ["self","name"] [V.ref t,V.str z]=[some (V.ref t),some (V.str z)] from rfl]
 rcases hcase with ⟨hz,hL,q⟩ | ⟨hz,qe⟩
 rotate_left
 · have line:=line_val
   obtain ⟨dx,fs,ho,hf⟩:=hT.o
   obtain ⟨dy,e,kvs,h1,h2,h3,h4,h5⟩:=StockAt.has hs.at
   walk_at "go"
   refine ⟨Z1,dx,fs,ho,T.Z8,T.Zq,_,hf.st,x.st,rfl,dy,flds e,h1,by rfl,x.st,rfl,ts,hs.at,nd,fun i t' ht' e'=>absurd (e'▸List.mem_map.mpr ⟨t',List.mem_of_getElem? ht',rfl⟩) hz,fun _ H' e sm he er=>?_⟩
   exact qe H' e sm he er
 have line:=line_val
 obtain ⟨dx,fs,ho,hf⟩:=hT.o
 obtain ⟨dy,e,kvs,h1,h2,h3,h4,h5⟩:=StockAt.has hs.at
 walk_at "go"
 refine ⟨Z1,dx,fs,ho,T.Z8,T.Zq,_,hf.st,x.st,rfl,dy,flds e,h1,by rfl,x.st,rfl,ts,hs.at,nd,fun i t' ht' e'=>?_,fun h=>absurd hz h⟩
 clear e' ht'
 walk_at "go"
 refine ⟨Z1,dx,fs,ho,T.Z8,T.Z0i,_,hf.so,x.so,rfl,.inl ⟨_,.inl hT.so⟩,_,DGet.k (k:=Sum.inr z) hT.so,?_⟩
 have hst:=hL.st z
 cases hv:valV s.ks (Sum.inr z) with
 | none=>rw [hv]at hst;rw [← hst]at q;exact q
 | some v=>rw [hv]at hst;rw [← hst]at q;exact q
theorem Z69{f:Addr}{fd:FuncData}(F:Fun K "fetch" "Tower.fetch" Z1e f fd)(T:Txt K mg Z5 Z3 Z4 Z7 Z2 Z1 Z0)(Ze:DefM P w K mg base (CXF P w) 4 Z2 "cost_of" ["self","name"] (sp_tell 1 K Z2 Z3))(Zb:DefM P w K mg base (CXF P w) 5 Z1 "stored" ["self","name"] (sp78_stored K Z1 Z2 Z3)):FnOk P w K mg base (CXF P w) 6 f fd ["self","word","name"] (sp74_fetch K Z1 Z2):=by
 have sc:FnScope ["self","word","name"] ["self","word","name"] (defScope Z1e):=⟨rfl,rfl,rfl,by decide+kernel,rfl,by decide+kernel,by decide+kernel⟩
 refine F.okF sc (fun vs H Q E h=>?_) (fun cdv A outer s H vs Q E hr h=>?_)
 · obtain ⟨t,x,s,g,w2,z,ts,B,p,rfl,hT,hs,nd,hz,hL,hB,q⟩:=h;rfl
 obtain ⟨t,x,s,g,w2,z,ts,B,p,rfl,hT,hs,nd,hz,hL,hB,q⟩:=h
 replace Ze:=Ze.weak fun _ _ _ _=>im_tell;replace Zb:=Zb.weak fun _ _ _ _=>im_stored
 refine ⟨_,(@pss_cons _ _ _ _ _ (ps_fldaug (pv 0) (pe_methS Ze T.Zf hr (passS pass_onF) (pe_fld (pv 0) rfl) (pa_cons (pv 2) pa_nil)) in_add)
  (@pss_cons _ _ _ _ _ (ps_expr (pe_bm PySem.F.plainAttrs_list PySem.F.slot_list_append PySem.F.type_list_append mt_append (pe_fld (pv 0) rfl) (pa_cons (pe_tup (pa_cons (pv 1) (pa_cons (pv 2) pa_nil))) pa_nil)))
  (@pss_one _ _ _ (ps_dput (hu_of hr) (pe_fld (pv 0) rfl) (pv 2) (pe_methS Zb T.Z8 hr (passS pass_onF) (pv 0) (pa_cons (pv 2) pa_nil)) rfl)))),?_⟩
 rw [show start ["self","word","name"] [V.ref t,V.str w2,V.str z]=[some (V.ref t),some (V.str w2),some (V.str z)] from rfl]
 have line:=line_val
 obtain ⟨dx,fs,ho,hf⟩:=hT.o
 obtain ⟨dy,e,kvs,h1,h2,h3,h4,h5⟩:=StockAt.has hs.at
 walk_at "go"
 refine ⟨Z1,dx,fs,ho,T.Z8,T.Z13,_,hf.pd,Z1,dx,fs,ho,T.Z8,T.Zq,_,hf.st,x.st,rfl,dy,flds e,h1,by rfl,x.st,rfl,ts,hs.at,nd,hz,fun i t' ht' e'=>⟨_,_,rfl,rfl,dx,fs,ho,by have:=hf.n;omega,?_⟩⟩
 have ec:pick 1 i t'=costOf ts z:=(costOf_at nd ht' e').symm
 rw [ec]
 clear e' ec
 have hT1:=hT.paid ho hf (s.pd+costOf ts z)
 have o1:Off (own t x) H (upd H t (.ins Z1 dx (putF (Str.ofString "paid") (.int (s.pd+costOf ts z)) fs))):=Off.put (by simp [own])
 generalize upd H t (.ins Z1 dx (putF (Str.ofString "paid") (.int (s.pd+costOf ts z)) fs))=H1 at hT1 o1 ⊢
 clear ht'
 obtain ⟨dx1,fs1,ho1,hf1⟩:=hT1.o
 have n4:=hL.n4
 walk_at "go"
 refine ⟨Z1,dx1,fs1,ho1,T.Z8,T.Zv,_,hf1.en,.inl ⟨rfl,_,SqL.of hT1.en⟩,by omega,fun u hu=>?_⟩
 have sm2:Same H1 (upd H1 u (.tup [.str w2,.str z])):=Same.new hu
 have hT2:=hT1.same sm2
 have hu2:upd H1 u (.tup [.str w2,.str z]) u=some (.tup [.str w2,.str z]):=upd_same
 have nue:u≠x.en:=(ne_of_none hT1.en hu).symm
 have o2:Off (own t x) H (upd H1 u (.tup [.str w2,.str z])):=o1.trans (.of sm2)
 generalize upd H1 u (.tup [.str w2,.str z])=H2 at hT2 o2 hu2 ⊢
 refine ⟨x.en,_,_,rfl,rfl,hT2.en,by show s.es.length < _;omega,?_⟩
 have hT3:=hT2.entry (s.es++[.ref u])
 have o3:Off (own t x) H (upd H2 x.en (.lst (s.es++[.ref u]))):=o2.trans (Off.put (by simp [own]))
 have hs3:=hs.off o3
 have hu3:upd H2 x.en (.lst (s.es++[.ref u])) u=some (.tup [.str w2,.str z]):=by rw [upd_ne nue];exact hu2
 have hst:=hL.st
 walk_at "go"
 show _
 generalize upd H2 x.en (.lst (s.es++[.ref u]))=H3 at hT3 o3 hs3 hu3 ⊢
 obtain ⟨dx3,fs3,ho3,hf3⟩:=hT3.o
 have hL3:=(hL.fetched (keepT hT o3) hu3 (by omega) (pd:=s.pd+costOf ts z))
 have oF:Off (own t x) H3 (upd H3 x.he (.dK (putK s.kh (Sum.inr z) (.int (g.st z))))):=Off.put (by simp [own])
 have n1:=hL.n1
 have hL2:=hL.noted (keepT hT o3) hu3 rfl (by omega) (pd:=s.pd+costOf ts z)
 have fin:=q {s with pd:=s.pd+costOf ts z,es:=s.es++[.ref u],kh:=putK s.kh (Sum.inr z) (.int (g.st z))} _ (o3.trans oF) (hT3.held (putK s.kh (Sum.inr z) (.int (g.st z)))) rfl rfl rfl rfl (hL3.off hT3 oF)
 exact ⟨dx3,fs3,ho3,hf3.m _ (by simp),x,_,hT3,_,ts,hs3,nd,hz,_,_,hL2,Z1,dx3,fs3,ho3,T.Z8,T.Zo,_,hf3.he,x.he,rfl,_,DPut.k (k:=Sum.inr z) hT3.he (by show s.kh.length < _;omega),fin⟩
theorem Z6o{f:Addr}{fd:FuncData}(F:Fun K "read" "Tower.read" Z21 f fd)(T:Txt K mg Z5 Z3 Z4 Z7 Z2 Z1 Z0)(Zh:DefM P w K mg base (CXF P w) 5 Z1 "shelf_of" ["self","name"] (sp78_shelf K Z1 Z2 Z3))(Z1p:DefM P w K mg base (CXF P w) 6 Z1 "fetch" ["self","word","name"] (sp74_fetch K Z1 Z2))(Z02:DefM P w K mg base (CXF P w) 4 Z1 "come" ["self","name"] (sp74_come Z1)):FnOk P w K mg base (CXF P w) 7 f fd ["self","name"] (sp78_read K Z1 Z2 Z3):=by
 have sc:FnScope ["self","name","place"] ["self","name"] (defScope Z21):=⟨rfl,rfl,rfl,by decide+kernel,rfl,by decide+kernel,by decide+kernel⟩
 refine F.okF sc (fun vs H Q E h=>?_) (fun cdv A outer s H vs Q E hr h=>?_)
 · obtain ⟨t,x,s,g,z,ts,B,rfl,hG,hcase⟩:=h;rfl
 obtain ⟨t,x,s,g,z,ts,B,rfl,hG,hcase⟩:=h
 refine ⟨_,(@pss_cons _ _ _ _ _ (ps_set (i:=2) sc.nd rfl (Or.inl rfl) (pe_methS Zh T.Z8 hr (passS pass_onF) (pv 0) (pa_cons (pv 1) pa_nil)))
  (@pss_cons _ _ _ _ _ (ps_augS (pe_fld (pv 0) rfl) (pv 2) get_list pe_int ip_add set_list)
  (@pss_cons _ _ _ _ _ (ps_if (pt_cmpR op_eq (pv 2) (pe_callB call_len_seq rfl T.Zw PySem.boot_len (pa_cons (pe_fld (pv 0) rfl) pa_nil)) (nomark _))
   (@pss_one _ _ _ (ps_expr (pe_methS Z1p T.Z8 hr (passS pass_onF) (pv 0) (pa_cons pe_str (pa_cons (pv 1) pa_nil)))))
   pss_nil)
  (@pss_cons _ _ _ _ _ (ps_expr (pe_methS Z02 T.Z8 hr (passS pass_onF) (pv 0) (pa_cons (pv 1) pa_nil)))
  (@pss_one _ _ _ (@ps_ret _ _ _ _ (pe_dget (hu_of hr) (pe_fld (pv 0) rfl) (pv 1) (fun _ _=>rfl)))))))),?_⟩
 rw [show start ["self","name","place"] [V.ref t,V.str z]=[some (V.ref t),some (V.str z),none] from rfl]
 rcases hcase with ⟨hz,hB,q⟩ | ⟨hz,qe⟩
 rotate_left
 · have line:=line_val
   have hW:=hG.to
   obtain ⟨dx,fs,ho,hf⟩:=hW.tw.o
   walk_at "go"
   exact ⟨dx,fs,ho,hf.m _ (by simp),x,s,hW.tw,ts,hW.sk,hW.tn,.inr ⟨hz,qe⟩⟩
 have line:=line_val
 have hW:=hG.to
 obtain ⟨dx,fs,ho,hf⟩:=hW.tw.o
 walk_at "go"
 refine ⟨dx,fs,ho,hf.m _ (by simp),x,s,hW.tw,ts,hW.sk,hW.tn,.inl ⟨hz,hW.zl,hW.zz,hW.rs,fun k H1 sm1 hk hkR hk1 hk2=>?_⟩⟩
 have hT1:=hW.tw.same sm1
 have o1:Off (own t x) H H1:= .of sm1
 obtain ⟨dx1,fs1,ho1,hf1⟩:=hT1.o
 have hfl:=hW.ff
 have hgk:s.ff[k]?=some (s.ff.getD k 0):=getD_int (by omega)
 walk_at "go"
 refine ⟨Z1,dx1,fs1,ho1,T.Z8,T.Z06,_,hf1.fi,?_⟩
 refine ⟨x.fi,s.ff.map V.int,k,V.int (s.ff.getD k 0),rfl,rfl,SqL.of hT1.fi,by rw [List.getElem?_map,hgk];rfl,?_⟩
 walk_at "go"
 refine ⟨_,hT1.fi,k,by rw [List.length_map];exact ixN_at (by omega),?_⟩
 rw [← List.map_set]
 have hT2:=hT1.find (s.ff.set k (s.ff.getD k 0+1))
 have o2:Off (own t x) H (upd H1 x.fi (.lst ((s.ff.set k (s.ff.getD k 0+1)).map V.int))):=o1.trans (Off.put (by simp [own]))
 have hff2:(s.ff.set k (s.ff.getD k 0+1)).length=s.zs.length+1:=by rw [List.length_set];exact hfl
 have hfb:s.ff.set k (s.ff.getD k 0+1)=bump s.ff (shx s.zs s.R z)∧True:=⟨by rw [show shx s.zs s.R z=k by omega];rfl,trivial⟩
 generalize upd H1 x.fi (.lst ((s.ff.set k (s.ff.getD k 0+1)).map V.int))=H2 at hT2 o2 ⊢
 generalize s.ff.set k (s.ff.getD k 0+1)=ff2 at hT2 hff2 hfb
 have hs2:=hW.sk.off o2
 have hL2:=(hG.g.off hW.tw o2).cast (s':={s with ff:=ff2}) rfl rfl rfl rfl
 obtain ⟨dx2,fs2,ho2,hf2⟩:=hT2.o
 clear hT1 o1 ho1 hf1 hgk hfl
 walk_at "go"
 refine ⟨Z1,dx2,fs2,ho2,T.Z8,T.Zr,_,hf2.si,x.si,rfl,_,.inl (SqL.of hT2.si),?_⟩
 rw [List.length_map]
 rename_i rest hrest
 have key:∀(s3:TwS) (H3:Hp),Off (own t x) H H3→TwAt Z1 H3 t x s3→s3.R=s.R→s3.zs=s.zs→s3.ff=ff2→s3.pd=s.pd+(if z∈s.R then 0 else costOf ts z)→TwG H3 s3 (if z∈s.R then g else fetchG (Str.ofString "fetch") z g) (B+1) (fun y=>y∈s.R∨y=z)→rest [some (V.ref t),some (V.str z),some (V.int k)] H3:=by
  intro s3 H3 o3 hT3 eR eZ eF eP hL3
  obtain ⟨dx3,fs3,ho3,hf3⟩:=hT3.o
  have hrl:=hW.rl
  have hrs:=hW.rs
  have hs1:=hW.s1
  subst hrest
  walk_at "go"
  refine ⟨dx3,fs3,ho3,hf3.m _ (by simp),x,s3,hT3,_,B+1,by rw [eR];exact hL3,by omega,by rw [eR];exact hW.nd,by rw [eR];omega,by rw [eR,eZ];exact hrs,by rw [eZ];exact hs1,fun s4 H4 o4 hT4 eR4 eZ4 eF4 eP4 hL4=>?_⟩
  rw [eR,eZ]at hL4
  obtain ⟨dx4,fs4,ho4,hf4⟩:=hT4.o
  have eR5:s4.R=cameR z s:=by rw [eR4,eR,eZ];rfl
  have hzin:z∈s4.R:=by
   rw [eR5];unfold cameR
   obtain ⟨n,hn⟩:∃n,s.zs.sum.toNat=n+1:=⟨s.zs.sum.toNat - 1,by omega⟩
   rw [hn,List.take_succ_cons];exact List.mem_cons_self
  have hi:=hL4.h z hzin
  walk_at "go"
  refine ⟨Z1,dx4,fs4,ho4,T.Z8,T.Zo,_,hf4.he,x.he,rfl,.int ((readG s.zs.sum s.R z g).h z),by rw [← show valV s4.kh (Sum.inr z)=some (.int ((readG s.zs.sum s.R z g).h z)) from hi];exact DGet.k (k:=Sum.inr z) hT4.he,?_⟩
  have o5:=o3.trans o4
  exact q s4 H4 o5 ⟨tow_came hW hz o5 hT4 eR5 (by rw [eZ4,eZ]) hL4.toL (by rw [eF4];exact hff2),hL4⟩ eR5 (by rw [eZ4,eZ]) (by rw [eP4,eP]) (by rw [eF4];exact hfb.1)
 clear hrest
 have hl:=hW.l
 by_cases hk2:k=s.zs.length
 · rw [if_pos (by show (k:Int)=(s.zs.length:Int);omega)]
   have hzR:z∉s.R:=fun h=>by have:=hkR.mpr h;omega
   refine ⟨dx2,fs2,ho2,hf2.m _ (by simp),x,_,hT2,g,ts,hs2,hW.tn,hz,B,_,hL2,by omega,fun s3 H3 o3 hT3 e1 e2 e3 e4 hL3=>key s3 H3 (o2.trans o3) hT3 e1 e2 e3 (by rw [e4,if_neg hzR]) (by rw [if_neg hzR];exact hL3)⟩
 · rw [if_neg (by show ¬(k:Int)=(s.zs.length:Int);omega)]
   have hzR:z∈s.R:=hkR.mp (by omega)
   have hl2:=hL2.iff (q:=fun y=>y∈s.R∨y=z) (B':=B+1) (fun u=>⟨.inl,fun h=>h.elim id fun e=>by rw [e];exact hzR⟩) (by omega) (by omega)
   exact key _ H2 o2 hT2 rfl rfl rfl (by rw [if_pos hzR,Int.add_zero]) (by rw [if_pos hzR];exact hl2)
theorem Z6p{f:Addr}{fd:FuncData}(F:Fun K "keep" "Tower.keep" Z22 f fd)(T:Txt K mg Z5 Z3 Z4 Z7 Z2 Z1 Z0)(Zh:DefM P w K mg base (CXF P w) 5 Z1 "shelf_of" ["self","name"] (sp78_shelf K Z1 Z2 Z3))(Zm:Def P w K mg base (CXF P w) 2 "is_within" ["thing","least","most"] (N53.sp53_within K))(Z36:DefM P w K mg base (CXF P w) 1 Z1 "settle" ["self","name"] (sp74_settle Z1 false))(Z02:DefM P w K mg base (CXF P w) 4 Z1 "come" ["self","name"] (sp74_come Z1)):FnOk P w K mg base (CXF P w) 7 f fd ["self","name","value"] (sp78_keep K Z1 Z2 Z3 Z4 false):=by
 have sc:FnScope ["self","name","value","place"] ["self","name","value"] (defScope Z22):=⟨rfl,rfl,rfl,by decide+kernel,rfl,by decide+kernel,by decide+kernel⟩
 refine F.okF sc (fun vs H Q E h=>?_) (fun cdv A outer s H vs Q E hr h=>?_)
 · obtain ⟨t,x,s,g,z,vv,ts,B,rfl,hG,hcase⟩:=h;rfl
 obtain ⟨t,x,s,g,z,vv,ts,B,rfl,hG,hcase⟩:=h
 refine ⟨_,(@pss_cons _ _ _ _ _ (ps_set (i:=3) sc.nd rfl (Or.inl rfl) (pe_methS Zh T.Z8 hr (passS pass_onF) (pv 0) (pa_cons (pv 1) pa_nil)))
  (@pss_cons _ _ _ _ _ (ps_if (pt_not (pt_val (pe_callD Zm hr rfl pass_onF (pa_cons (pv 2) (pa_cons (pe_op op_sub pe_int (pe_op op_pow pe_int pe_int)) (pa_cons (pe_op op_pow pe_int pe_int) pa_nil))))))
   (@pss_one _ _ _ (ps_raiseF T.Z3g rfl T.k_NoNumber rfl rfl T.Z2h raisesF (pa_cons pe_str pa_nil)))
   pss_nil)
  (@pss_cons _ _ _ _ _ (ps_augS (pe_fld (pv 0) rfl) (pv 3) get_list pe_int ip_add set_list)
  (@pss_cons _ _ _ _ _ (ps_dput (hu_of hr) (pe_fld (pv 0) rfl) (pv 1) (pv 2) rfl)
  (@pss_cons _ _ _ _ _ (ps_expr (pe_methS Z36 T.Z8 hr (passS pass_onF) (pv 0) (pa_cons (pv 1) pa_nil)))
  (@pss_one _ _ _ (ps_expr (pe_methS Z02 T.Z8 hr (passS pass_onF) (pv 0) (pa_cons (pv 1) pa_nil))))))))),?_⟩
 rw [show start ["self","name","value","place"] [V.ref t,V.str z,vv]=[some (V.ref t),some (V.str z),some (vv),none] from rfl]
 rcases hcase with ⟨v,rfl,hv1,hv2,hz,hB,q⟩ | ⟨hz,qe⟩ | ⟨hz,hnv,hwv,qe⟩
 rotate_left
 · have line:=line_val
   have hW:=hG.to
   obtain ⟨dx,fs,ho,hf⟩:=hW.tw.o
   walk_at "go"
   exact ⟨dx,fs,ho,hf.m _ (by simp),x,s,hW.tw,ts,hW.sk,hW.tn,.inr ⟨hz,qe⟩⟩
 · have line:=line_val
   have hW:=hG.to
   obtain ⟨dx,fs,ho,hf⟩:=hW.tw.o
   walk_at "go"
   refine ⟨dx,fs,ho,hf.m _ (by simp),x,s,hW.tw,ts,hW.sk,hW.tn,.inl ⟨hz,hW.zl,hW.zz,hW.rs,fun k H1 sm1 hk hkR hk1 hk2=>?_⟩⟩
   rename_i rest hrest
   subst hrest
   walk_at "go"
   refine ⟨hnv.same sm1,?_⟩
   rw [if_pos (by rw [show (0:Int) - 10 ^ 30=-(10 ^ 30) by decide];exact hwv)]
   exact ⟨by omega,fun e he=>⟨N53.none_of sm1 he,qe _ e (sm1.trans (Same.new he)) (N53.none_of sm1 he) upd_same⟩⟩
 have line:=line_val
 have hW:=hG.to
 obtain ⟨dx,fs,ho,hf⟩:=hW.tw.o
 have hrl:=hW.rl
 have hrs:=hW.rs
 have hs1:=hW.s1
 walk_at "go"
 refine ⟨dx,fs,ho,hf.m _ (by simp),x,s,hW.tw,ts,hW.sk,hW.tn,.inl ⟨hz,hW.zl,hW.zz,hW.rs,fun k H1 sm1 hk hkR hk1 hk2=>?_⟩⟩
 have hT1:=hW.tw.same sm1
 have o1:Off (own t x) H H1:= .of sm1
 obtain ⟨dx1,fs1,ho1,hf1⟩:=hT1.o
 have hfl:=hW.ff
 have hgk:s.ff[k]?=some (s.ff.getD k 0):=getD_int (by omega)
 have hw:wIn (0 - 10 ^ 30) (10 ^ 30) (V.int v)=true:=by simp [wIn];omega
 walk_at "go"
 refine ⟨NumV.flat rfl,?_⟩
 rw [if_neg (by rw [hw];decide)]
 walk_at "go"
 refine ⟨Z1,dx1,fs1,ho1,T.Z8,T.Z06,_,hf1.fi,?_⟩
 refine ⟨x.fi,s.ff.map V.int,k,V.int (s.ff.getD k 0),rfl,rfl,SqL.of hT1.fi,by rw [List.getElem?_map,hgk];rfl,?_⟩
 walk_at "go"
 refine ⟨_,hT1.fi,k,by rw [List.length_map];exact ixN_at (by omega),?_⟩
 rw [← List.map_set]
 have hT2:=hT1.find (s.ff.set k (s.ff.getD k 0+1))
 have o2:Off (own t x) H (upd H1 x.fi (.lst ((s.ff.set k (s.ff.getD k 0+1)).map V.int))):=o1.trans (Off.put (by simp [own]))
 have hff2:(s.ff.set k (s.ff.getD k 0+1)).length=s.zs.length+1:=by rw [List.length_set];exact hfl
 have hfb:s.ff.set k (s.ff.getD k 0+1)=bump s.ff (shx s.zs s.R z)∧True:=⟨by rw [show shx s.zs s.R z=k by omega];rfl,trivial⟩
 generalize upd H1 x.fi (.lst ((s.ff.set k (s.ff.getD k 0+1)).map V.int))=H2 at hT2 o2 ⊢
 generalize s.ff.set k (s.ff.getD k 0+1)=ff2 at hT2 hff2 hfb
 have hL2:=(hG.g.off hW.tw o2).cast (s':={s with ff:=ff2}) rfl rfl rfl rfl
 obtain ⟨dx2,fs2,ho2,hf2⟩:=hT2.o
 clear hT1 o1 ho1 hf1 hgk hfl
 have n1:=hG.g.n1
 walk_at "go"
 refine ⟨Z1,dx2,fs2,ho2,T.Z8,T.Zo,_,hf2.he,x.he,rfl,_,DPut.k (k:=Sum.inr z) hT2.he (by show s.kh.length < _;omega),?_⟩
 have hT3:=hT2.held (putK s.kh (Sum.inr z) (.int v))
 have oP:Off (own t x) H2 (upd H2 x.he (.dK (putK s.kh (Sum.inr z) (.int v)))):=Off.put (by simp [own])
 have o3:=o2.trans oP
 have hL3:=(hL2.kept (z:=z) v (by omega)).off hT2 oP
 walk_at "go"
 show _
 generalize upd H2 x.he (.dK (putK s.kh (Sum.inr z) (.int v)))=H3 at hT3 o3 hL3 ⊢
 obtain ⟨dx3,fs3,ho3,hf3⟩:=hT3.o
 refine ⟨dx3,fs3,ho3,hf3.m _ (by simp),x,_,hT3,_,B+1,_,hL3,by omega,.inr rfl,fun s4 H4 o4 hT4 eR eZ eF eP hL4=>?_⟩
 obtain ⟨dx4,fs4,ho4,hf4⟩:=hT4.o
 have eR':s4.R=s.R:=eR
 have eZ':s4.zs=s.zs:=eZ
 have eP':s4.pd=s.pd:=eP
 have eF':s4.ff=ff2∧True:=⟨eF,trivial⟩
 clear eR eZ eF eP
 walk_at "go"
 refine ⟨dx4,fs4,ho4,hf4.m _ (by simp),x,s4,hT4,_,B+2,by rw [eR'];exact hL4,by omega,by rw [eR'];exact hW.nd,by rw [eR'];omega,by rw [eR',eZ'];exact hrs,by rw [eZ'];exact hs1,fun s5 H5 o5 hT5 eR5 eZ5 eF5 eP5 hL5=>?_⟩
 rw [eR',eZ']at hL5
 have eR6:s5.R=cameR z s:=by rw [eR5,eR',eZ'];rfl
 have o6:=(o3.trans o4).trans o5
 walk_at "go"
 exact q s5 H5 o6 ⟨tow_came hW hz o6 hT5 eR6 (by rw [eZ5,eZ']) hL5.toL (by rw [eF5,eF'.1];exact hff2),hL5⟩ eR6 (by rw [eZ5,eZ']) (by rw [eP5,eP']) (by rw [eF5,eF'.1];exact hfb.1)
theorem Z6a{f:Addr}{fd:FuncData}(F:Fun K "ahead" "Tower.ahead" Z1f f fd)(T:Txt K mg Z5 Z3 Z4 Z7 Z2 Z1 Z0)(Zh:DefM P w K mg base (CXF P w) 5 Z1 "shelf_of" ["self","name"] (sp78_shelf K Z1 Z2 Z3))(Z1p:DefM P w K mg base (CXF P w) 6 Z1 "fetch" ["self","word","name"] (sp74_fetch K Z1 Z2))(Z02:DefM P w K mg base (CXF P w) 4 Z1 "come" ["self","name"] (sp74_come Z1)):FnOk P w K mg base (CXF P w) 7 f fd ["self","name"] (sp78_ahead K Z1 Z2 Z3):=by
 have sc:FnScope ["self","name"] ["self","name"] (defScope Z1f):=⟨rfl,rfl,rfl,by decide+kernel,rfl,by decide+kernel,by decide+kernel⟩
 refine F.okF sc (fun vs H Q E h=>?_) (fun cdv A outer s H vs Q E hr h=>?_)
 · obtain ⟨t,x,s,g,z,ts,B,rfl,hG,hcase⟩:=h;rfl
 obtain ⟨t,x,s,g,z,ts,B,rfl,hG,hcase⟩:=h
 refine ⟨_,(@pss_cons _ _ _ _ _ (ps_if (pt_cmpR op_lt (pe_methS Zh T.Z8 hr (passS pass_onF) (pv 0) (pa_cons (pv 1) pa_nil)) (pe_callB call_len_seq rfl T.Zw PySem.boot_len (pa_cons (pe_fld (pv 0) rfl) pa_nil)) (nomark _))
  (@pss_one _ _ _ (@ps_ret _ _ _ _ pe_bl))
  pss_nil)
  (@pss_cons _ _ _ _ _ (ps_expr (pe_methS Z1p T.Z8 hr (passS pass_onF) (pv 0) (pa_cons pe_str (pa_cons (pv 1) pa_nil))))
  (@pss_cons _ _ _ _ _ (ps_expr (pe_methS Z02 T.Z8 hr (passS pass_onF) (pv 0) (pa_cons (pv 1) pa_nil)))
  (@pss_one _ _ _ (@ps_ret _ _ _ _ pe_bl))))),?_⟩
 rw [show start ["self","name"] [V.ref t,V.str z]=[some (V.ref t),some (V.str z)] from rfl]
 rcases hcase with ⟨hz,hB,q⟩ | ⟨hz,qe⟩
 rotate_left
 · have line:=line_val
   have hW:=hG.to
   obtain ⟨dx,fs,ho,hf⟩:=hW.tw.o
   walk_at "go"
   exact ⟨dx,fs,ho,hf.m _ (by simp),x,s,hW.tw,ts,hW.sk,hW.tn,.inr ⟨hz,qe⟩⟩
 have line:=line_val
 have hW:=hG.to
 obtain ⟨dx,fs,ho,hf⟩:=hW.tw.o
 have hrl:=hW.rl
 have hrs:=hW.rs
 have hs1:=hW.s1
 walk_at "go"
 refine ⟨dx,fs,ho,hf.m _ (by simp),x,s,hW.tw,ts,hW.sk,hW.tn,.inl ⟨hz,hW.zl,hW.zz,hW.rs,fun k H1 sm1 hk hkR hk1 hk2=>?_⟩⟩
 have hG1:=hG.same sm1
 have hT1:=hG1.to.tw
 have o1:Off (own t x) H H1:= .of sm1
 have hs2:=hW.sk.off o1
 obtain ⟨dx1,fs1,ho1,hf1⟩:=hT1.o
 refine ⟨Z1,dx1,fs1,ho1,T.Z8,T.Zr,_,hf1.si,x.si,rfl,_,.inl (SqL.of hT1.si),?_⟩
 rw [List.length_map]
 by_cases hk2:k < s.zs.length
 · rw [if_pos (by omega)]
   have hzR:=hkR.mp hk2
   have eG:aheadG s.zs.sum s.R z g=g:=by unfold aheadG;rw [if_pos hzR]
   have:=q s H1 o1 (by rw [eG];exact ⟨hG1.to.up (by omega) (by omega),hG1.g.iff (fun _=>Iff.rfl) (by omega) (by omega)⟩) (by rw [if_pos hzR]) rfl (by rw [if_pos hzR,Int.add_zero]) rfl
   rw [decide_eq_false (fun h=>h hzR)]at this
   exact this
 · rw [if_neg (by omega)]
   have hzR:¬z∈s.R:=fun h=>hk2 (hkR.mpr h)
   have eG:aheadG s.zs.sum s.R z g=comeG s.zs.sum s.R z (fetchG (Str.ofString "ahead") z g):=by unfold aheadG;rw [if_neg hzR]
   walk_at "go"
   refine ⟨dx1,fs1,ho1,hf1.m _ (by simp),x,_,hT1,g,ts,hs2,hW.tn,hz,B,_,hG1.g,by omega,fun s3 H3 o3 hT3 eR eZ eF eP hL3=>?_⟩
   obtain ⟨dx3,fs3,ho3,hf3⟩:=hT3.o
   walk_at "go"
   refine ⟨dx3,fs3,ho3,hf3.m _ (by simp),x,s3,hT3,_,B+1,by rw [eR];exact hL3,by omega,by rw [eR];exact hW.nd,by rw [eR];omega,by rw [eR,eZ];exact hrs,by rw [eZ];exact hs1,fun s4 H4 o4 hT4 eR4 eZ4 eF4 eP4 hL4=>?_⟩
   rw [eR,eZ]at hL4
   have eR5:s4.R=cameR z s:=by rw [eR4,eR,eZ];rfl
   have o5:=(o1.trans o3).trans o4
   walk_at "go"
   have:=q s4 H4 o5 (by rw [eG];exact ⟨tow_came hW hz o5 hT4 eR5 (by rw [eZ4,eZ]) hL4.toL (by rw [eF4,eF];exact hW.ff),hL4⟩) (by rw [eR5,if_neg hzR]) (by rw [eZ4,eZ]) (by rw [eP4,eP,if_neg hzR]) (by rw [eF4,eF])
   rw [decide_eq_true (show z∉s.R from hzR)]at this
   exact this
theorem Z6q{f:Addr}{fd:FuncData}(F:Fun K "rest" "Tower.rest" Z23 f fd)(T:Txt K mg Z5 Z3 Z4 Z7 Z2 Z1 Z0)(Z1o:DefM P w K mg base (CXF P w) 2 Z1 "write" ["self","name"] (sp74_write Z1)):FnOk P w K mg base (CXF P w) 4 f fd ["self"] (sp79_rest K Z1 Z2):=by
 have sc:FnScope ["self","names","name"] ["self"] (defScope Z23):=⟨rfl,rfl,rfl,by decide+kernel,rfl,by decide+kernel,by decide+kernel⟩
 refine F.okF sc (fun vs H Q E h=>?_) (fun cdv A outer s H vs Q E hr h=>?_)
 · obtain ⟨t,x,s,g,ts,B,rfl,hG,hB,q⟩:=h;rfl
 obtain ⟨t,x,s,g,ts,B,rfl,hG,hB,q⟩:=h
 refine ⟨_,(@pss_cons _ _ _ _ _ (ps_compI (i:=1) "name" [0] sc.nd rfl rfl rfl rfl (pi_list (pe_fld (pv 0) rfl)) (fun b=>(pt_cmp (pc_din (hu_of hr) (pv 0) (pe_fld (pv 1) rfl)))) (fun b=>(pv 0)))
  (@pss_cons _ _ _ _ _ (ps_for own_outF rfl (pi_list (pv 1)) (pg_name (i:=2) sc.nd rfl (Or.inl rfl))
   (@pss_one _ _ _ (ps_expr (pe_methS Z1o T.Z8 hr (passS pass_onF) (pv 0) (pa_cons (pv 2) pa_nil)))))
  (@pss_cons _ _ _ _ _ (ps_fld (pv 0) pe_dnewK rfl)
  (@pss_one _ _ _ (@ps_ret _ _ _ _ (pe_callB call_len_seq rfl T.Zw PySem.boot_len (pa_cons (pv 1) pa_nil))))))),?_⟩
 rw [show start ["self","names","name"] [V.ref t]=[some (V.ref t),none,none] from rfl]
 have line:=line_val
 have hW:=hG.to
 obtain ⟨dx,fs,ho,hf⟩:=hW.tw.o
 have hrl:=hW.rl
 walk_at "go"
 refine ⟨Z1,dx,fs,ho,T.Z8,T.Zs,_,hf.ro,x.ro,rfl,⟨_,SqL.of hW.tw.ro⟩,compL_if (xs:=s.R.map V.str) (lateV s.kl) (fun v=>v) (SqL.of hW.tw.ro) (by rw [List.length_map];omega) ?_ ?_ ?_⟩
 · intro b v H5 QT hx sm q'
   obtain ⟨y,hy,rfl⟩:=List.mem_map.mp hx
   have q2:=q' H5 (Same.refl _)
   walk_at "go"
   exact ⟨Z1,dx,fs,sm _ _ ho,T.Z8,T.Zx,_,hf.la,x.la,rfl,_,DGet.k (k:=Sum.inr y) (sm _ _ hW.tw.la),q2⟩
 · intro b v H5 Q' hx _ sm q'
   obtain ⟨y,_,rfl⟩:=List.mem_map.mp hx
   walk_at "go"
   exact q' _ (Same.refl _)
 · intro D H1 hD sm1 hD1
   rw [filt_late,show (s.R.filter fun y=>(valV s.kl (Sum.inr y)).isSome)=s.R.filter g.l by congr 1;funext y;exact hG.g.l y]at hD1
   have hns:∀y∈s.R.filter g.l,y∈s.R:=fun y hy=>(List.mem_filter.mp hy).1
   have hnl:(s.R.filter g.l).length≤59:=Nat.le_trans (List.length_filter_le _ _) hrl
   have hrG:restG s.R g={writesG (s.R.filter g.l) g with l:=fun _=>false}:=rfl
   generalize s.R.filter g.l=ns at hD1 hns hnl hrG q
   have hT1:=hW.tw.same sm1
   have o1:Off (own t x) H H1:= .of sm1
   have hDo:∀b∈own t x,D≠b:=fun b hb e=>by
    have hb':b=t∨b=x.ro∨b=x.he∨b=x.la∨b=x.so∨b=x.en∨b=x.fi:=by simpa [own] using hb
    have hT0:=hW.tw
    rcases hb' with h | h | h | h | h | h | h <;> rw [e,h]at hD
    · rw [ho]at hD;cases hD
    · rw [hT0.ro]at hD;cases hD
    · rw [hT0.he]at hD;cases hD
    · rw [hT0.la]at hD;cases hD
    · rw [hT0.so]at hD;cases hD
    · rw [hT0.en]at hD;cases hD
    · rw [hT0.fi]at hD;cases hD
   walk_at "go"
   refine ⟨⟨_,SqL.of hD1⟩,?_⟩
   rename_i rest hrest
   refine forL_by (xs:=ns.map V.str) (fun i σ H'=>∃(s':TwS) (v2:Option V),σ=[some (V.ref t),some (V.ref D),v2]∧Off (own t x) H H'∧H' D=some (.lst (ns.map V.str))∧TwAt Z1 H' t x s'∧s'.R=s.R∧s'.zs=s.zs∧s'.ff=s.ff∧s'.pd=s.pd∧TwG H' s' (writesG (ns.take i) g) (B+i) (fun y=>y∈s.R)) ⟨s,none,rfl,o1,hD1,hT1,rfl,rfl,rfl,rfl,hG.g.same sm1⟩ (fun i σ H' _ h_=>by obtain ⟨s',v2,_,_,hD',_⟩:=h_;exact SqL.of hD') ?_ ?_
   · rintro i v σ H' hv ⟨s',v2,rfl,o',hD',hT',e1,e2,e3,e4,hL'⟩
     have hi:i < ns.length:=by
      have:=(List.getElem?_eq_some_iff.mp hv).1
      rw [List.length_map]at this;exact this
     rw [List.getElem?_map,getD_str hi]at hv
     cases hv
     have hyR:=hns _ (List.mem_of_getElem? (getD_str hi))
     have htk:writesG (ns.take (i+1)) g=(writesG (ns.take i) g).write (ns.getD i Str.empty):=by
      rw [List.take_succ,getD_str hi];unfold writesG;rw [List.foldl_append];rfl
     generalize ns.getD i Str.empty=y at hyR htk ⊢
     obtain ⟨dx',fs',ho',hf'⟩:=hT'.o
     walk_at "go"
     refine ⟨dx',fs',ho',hf'.m _ (by simp),x,s',hT',_,B+i,_,hL',by omega,hyR,fun s2 H2 o2 hT2 f1 f2 f3 f4 _ hL2=>?_⟩
     walk_at "go"
     exact ⟨o'.trans o2,o2 _ _ hD' (fun h=>hDo _ h rfl),s2,hT2,f1.trans e1,f2.trans e2,f3.trans e3,f4.trans e4,by rw [htk];exact hL2⟩
   · rintro σ H' ⟨s',v2,rfl,o',hD',hT',e1,e2,e3,e4,hL'⟩
     obtain ⟨dx',fs',ho',hf'⟩:=hT'.o
     rw [List.length_map,List.take_length]at hL'
     walk_at "go"
     intro l hl0
     refine ⟨Z1,dx',fs',by rw [upd_ne (ne_of_none ho' hl0)];exact ho',T.Z8,T.Zx,by have:=hf'.n;omega,?_⟩
     have hTn:=hT'.newLate ho' hf' hl0
     have oN:Off (own t x) H' (upd (upd H' l (.dK [])) t (.ins Z1 dx' (putF (Str.ofString "late") (.ref l) fs'))):=(Off.of (Same.new hl0)).trans (Off.put (by simp [own]))
     have hlH:H l=none:=by
      cases e:H l with
      | none=>rfl
      | some o=>
       by_cases hin:l∈own t x
       · have hb':l=t∨l=x.ro∨l=x.he∨l=x.la∨l=x.so∨l=x.en∨l=x.fi:=by simpa [own] using hin
         rcases hb' with h | h | h | h | h | h | h <;> rw [h]at hl0
         · rw [ho']at hl0;cases hl0
         · rw [hT'.ro]at hl0;cases hl0
         · rw [hT'.he]at hl0;cases hl0
         · rw [hT'.la]at hl0;cases hl0
         · rw [hT'.so]at hl0;cases hl0
         · rw [hT'.en]at hl0;cases hl0
         · rw [hT'.fi]at hl0;cases hl0
       · rw [o' _ _ e hin]at hl0;cases hl0
     have hDN:=oN _ _ hD' (fun h=>hDo _ h rfl)
     generalize upd (upd H' l (.dK [])) t (.ins Z1 dx' (putF (Str.ofString "late") (.ref l) fs'))=HN at hTn oN hDN ⊢
     have oA:=o'.trans oN
     have hown:∀b∈own t {x with la:=l},b∈own t x++[l]:=fun b hb=>by
      have hb':b=t∨b=x.ro∨b=x.he∨b=l∨b=x.so∨b=x.en∨b=x.fi:=by simpa [own] using hb
      simp only [own,List.mem_append,List.mem_cons,List.not_mem_nil,or_false]
      rcases hb' with h | h | h | h | h | h | h <;> simp [h]
     have hsN:StockT K Z2 HN x.st ts (own t {x with la:=l}):=((hW.sk.mono (L':=own t x++[l]) (fun b hb=>by rcases List.mem_append.mp hb with h | h;(· exact .inl h);(· rw [List.mem_singleton.mp h];exact .inr hlH))).off (oA.mono fun b hb=>List.mem_append_left _ hb)).mono fun b hb=> .inl (hown b hb)
     walk_at "go"
     refine ⟨_,.inl (SqL.of hDN),?_⟩
     have hGn:=(hL'.noLate).off hT' oN
     rw [← hrG]at hGn
     rw [List.length_map]
     refine q {x with la:=l} {s' with kl:=[]} HN oA (fun b hb=>?_) ⟨⟨hTn,hsN,?_,by show s'.R.Nodup;rw [e1];exact hW.nd,by show (s'.R.length:Int)≤s'.zs.sum;rw [e1,e2];exact hW.rs,by show 1≤s'.zs.length;rw [e2];exact hW.z1,by show s'.zs.length≤6;rw [e2];exact hW.zl,by show ∀z∈s'.zs,_;rw [e2];exact hW.zz,by show ∀y∈s'.R,_;rw [e1];exact hW.rn,hW.tn,hW.tl,by show s'.ff.length=s'.zs.length+1;rw [e2,e3];exact hW.ff⟩,?_⟩ e1 e2 e4 e3 rfl rfl
     · rcases List.mem_append.mp (hown b hb) with h | h
       · exact .inl h
       · rw [List.mem_singleton.mp h];exact .inr hlH
     · show TwL _ _ (fun y=>y∈s'.R)
       exact (hGn.iff (q:=fun y=>y∈s'.R) (B':=B+100) (fun u=>by rw [e1]) (by omega) (by omega)).toL
     · show TwG _ _ _ _ (fun y=>y∈s'.R)
       exact hGn.iff (q:=fun y=>y∈s'.R) (B':=B+100) (fun u=>by rw [e1]) (by omega) (by omega)
theorem Z6b{f:Addr}{fd:FuncData}(F:Fun K "diary" "Tower.diary" Z1g f fd)(T:Txt K mg Z5 Z3 Z4 Z7 Z2 Z1 Z0):FnOk P w K mg base (CXF P w) 1 f fd ["self"] (sp74_diary Z1):=by
 have sc:FnScope ["self"] ["self"] (defScope Z1g):=⟨rfl,rfl,rfl,by decide+kernel,rfl,by decide+kernel,by decide+kernel⟩
 refine F.okF sc (fun vs H Q E h=>?_) (fun cdv A outer s H vs Q E hr h=>?_)
 · obtain ⟨t,x,s,rfl,hT,hn,q⟩:=h;rfl
 obtain ⟨t,x,s,rfl,hT,hn,q⟩:=h
 refine ⟨_,(@pss_one _ _ _ (@ps_ret _ _ _ _ (pe_callTy call_list_of rfl T.Z1y (by first | rfl | decide+kernel) (pa_cons (pe_fld (pv 0) rfl) pa_nil)))),?_⟩
 rw [show start ["self"] [V.ref t]=[some (V.ref t)] from rfl]
 have line:=line_val
 obtain ⟨dx,fs,ho,hf⟩:=hT.o
 walk_at "go"
 exact ⟨Z1,dx,fs,ho,T.Z8,T.Zv,_,hf.en,x.en,rfl,_,.inl (SqL.of hT.en),fun l hl=>q l _ hl (Same.new hl) upd_same⟩
theorem Z6c{f:Addr}{fd:FuncData}(F:Fun K "found" "Tower.found" Z1h f fd)(T:Txt K mg Z5 Z3 Z4 Z7 Z2 Z1 Z0):FnOk P w K mg base (CXF P w) 1 f fd ["self"] (sp79_found Z1):=by
 have sc:FnScope ["self"] ["self"] (defScope Z1h):=⟨rfl,rfl,rfl,by decide+kernel,rfl,by decide+kernel,by decide+kernel⟩
 refine F.okF sc (fun vs H Q E h=>?_) (fun cdv A outer s H vs Q E hr h=>?_)
 · obtain ⟨t,x,s,rfl,hT,q⟩:=h;rfl
 obtain ⟨t,x,s,rfl,hT,q⟩:=h
 refine ⟨_,(@pss_one _ _ _ (@ps_ret _ _ _ _ (pe_callTy call_list_of rfl T.Z1y (by first | rfl | decide+kernel) (pa_cons (pe_fld (pv 0) rfl) pa_nil)))),?_⟩
 rw [show start ["self"] [V.ref t]=[some (V.ref t)] from rfl]
 have line:=line_val
 obtain ⟨dx,fs,ho,hf⟩:=hT.o
 walk_at "go"
 exact ⟨Z1,dx,fs,ho,T.Z8,T.Z06,_,hf.fi,x.fi,rfl,_,.inl (SqL.of hT.fi),fun l hl=>q l _ hl (Same.new hl) upd_same⟩
theorem Z6d{f:Addr}{fd:FuncData}(F:Fun K "spent" "Tower.spent" Z1i f fd)(T:Txt K mg Z5 Z3 Z4 Z7 Z2 Z1 Z0):FnOk P w K mg base (CXF P w) 1 f fd ["self"] (sp75_spent Z1):=by
 have sc:FnScope ["self"] ["self"] (defScope Z1i):=⟨rfl,rfl,rfl,by decide+kernel,rfl,by decide+kernel,by decide+kernel⟩
 refine F.okF sc (fun vs H Q E h=>?_) (fun cdv A outer s H vs Q E hr h=>?_)
 · obtain ⟨t,x,s,rfl,hT,q⟩:=h;rfl
 obtain ⟨t,x,s,rfl,hT,q⟩:=h
 refine ⟨_,(@pss_one _ _ _ (@ps_ret _ _ _ _ (pe_fld (pv 0) rfl))),?_⟩
 rw [show start ["self"] [V.ref t]=[some (V.ref t)] from rfl]
 obtain ⟨dx,fs,ho,hf⟩:=hT.o
 walk_at "go"
 exact ⟨Z1,dx,fs,ho,T.Z8,T.Z13,_,hf.pd,q⟩
theorem Z6r{f:Addr}{fd:FuncData}(F:Fun K "__init__" "Tower.__init__" Z24 f fd)(T:Txt K mg Z5 Z3 Z4 Z7 Z2 Z1 Z0)(Z1q:Def P w K mg base (CXF P w) 4 "check_sizes" ["sizes"] (sp78_sizes K Z4))(Z1r:Def P w K mg base (CXF P w) 5 "check_rooms" ["stock","asks"] (sp78_rooms K Z2 Z7))(Z1s:DefM P w K mg base (CXF P w) 1 Z2 "names" ["self"] (sp_nms K Z2)):FnOk P w K mg base (CXF P w) 6 f fd ["self","stock","sizes"] (sp78_init K Z1 Z2 Z4 Z7):=by
 have sc:FnScope ["self","stock","sizes"] ["self","stock","sizes"] (defScope Z24):=⟨rfl,rfl,rfl,by decide+kernel,rfl,by decide+kernel,by decide+kernel⟩
 refine F.okF sc (fun vs H Q E h=>?_) (fun cdv A outer s H vs Q E hr h=>?_)
 · obtain ⟨t,dx,p,a,ts,xs,rfl,ht,hs,nd,htl,hS,hxl,hxn,hnl,hcase⟩:=h;rfl
 obtain ⟨t,dx,p,a,ts,xs,rfl,ht,hs,nd,htl,hS,hxl,hxn,hnl,hcase⟩:=h
 refine ⟨_,(@pss_cons _ _ _ _ _ (ps_expr (pe_callD Z1q hr rfl pass_onF (pa_cons (pv 2) pa_nil)))
  (@pss_cons _ _ _ _ _ (ps_expr (pe_callD Z1r hr rfl pass_onF (pa_cons (pv 1) (pa_cons (pe_methS0 Z1s T.Zf hr (passS pass_onF) (pv 1)) pa_nil))))
  (@pss_cons _ _ _ _ _ (ps_fld (pv 0) (pv 1) rfl)
  (@pss_cons _ _ _ _ _ (ps_fld (pv 0) (pe_callTy call_list_of rfl T.Z1y (by first | rfl | decide+kernel) (pa_cons (pv 2) pa_nil)) rfl)
  (@pss_cons _ _ _ _ _ (ps_fld (pv 0) (@pe_lst _ _ _ _ pa_nil) rfl)
  (@pss_cons _ _ _ _ _ (ps_fld (pv 0) pe_dnewK rfl)
  (@pss_cons _ _ _ _ _ (ps_fld (pv 0) pe_dnewK rfl)
  (@pss_cons _ _ _ _ _ (ps_fld (pv 0) pe_dnewK rfl)
  (@pss_cons _ _ _ _ _ (ps_fld (pv 0) (@pe_lst _ _ _ _ pa_nil) rfl)
  (@pss_cons _ _ _ _ _ (ps_fld (pv 0) (pe_op op_rep (@pe_lst _ _ _ _ (pa_cons pe_int pa_nil)) (pe_op op_add (pe_callB call_len_seq rfl T.Zw PySem.boot_len (pa_cons (pv 2) pa_nil)) pe_int)) rfl)
  (@pss_one _ _ _ (ps_fld (pv 0) pe_int rfl)))))))))))),?_⟩
 rw [show start ["self","stock","sizes"] [V.ref t,V.ref p,V.ref a]=[some (V.ref t),some (V.ref p),some (V.ref a)] from rfl]
 rcases hcase with ⟨zs,rfl,hr1,hz1,hz6,hzz,q⟩ | ⟨hbad,qe⟩ | ⟨hok,hbad,qe⟩
 rotate_left
 · have line:=line_val
   walk_at "go"
   exact ⟨xs,hS,hxl,hxn,.inr ⟨hbad,qe⟩⟩
 · have line:=line_val
   obtain ⟨dy,e,kvs,h1,h2,h3,h4,h5⟩:=StockAt.has hs
   walk_at "go"
   refine ⟨xs,hS,hxl,hxn,.inl ⟨hok,?_⟩⟩
   rename_i rest hrest
   subst hrest
   walk_at "go"
   refine ⟨dy,flds e,h1,by rfl,ts,hs,fun l hl=>?_⟩
   obtain ⟨t0,ht0,hne⟩:=hbad
   exact ⟨ts,hs.same (Same.new hl),nd,ts.map (·.1),SqL.of upd_same,fun y hy=>hy,by rw [List.length_map];omega,hnl,.inr ⟨⟨t0.1,List.mem_map.mpr ⟨t0,ht0,rfl⟩,fun u hu e=>by rw [th_uniq nd hu ht0 e];exact hne⟩,fun H' e sm he er=>qe H' e ((Same.new hl).trans sm) (N53.none_of (Same.new hl) he) er⟩⟩
 have line:=line_val
 obtain ⟨dy,e,kvs,h1,h2,h3,h4,h5⟩:=StockAt.has hs
 walk_at "go"
 refine ⟨zs.map V.int,hS,hxl,hxn,.inl ⟨szok_of hz1 hz6 hzz,?_⟩⟩
 walk_at "go"
 refine ⟨dy,flds e,h1,by rfl,ts,hs,fun l hl=>?_⟩
 have sm1:Same H (upd H l (.lst ((ts.map (·.1)).map V.str))):=Same.new hl
 refine ⟨ts,hs.same sm1,nd,ts.map (·.1),SqL.of upd_same,fun y hy=>hy,by rw [List.length_map];omega,hnl,.inl ⟨hr1,?_⟩⟩
 have ht1:=sm1 _ _ ht
 have hs1:=StockT.of (hs.same sm1)
 have hS1:=sm1.seq hS
 have nw:∀b,upd H l (.lst ((ts.map (·.1)).map V.str)) b=none→H b=none:=fun b hb=>by
  cases q:H b with
  | none=>rfl
  | some o=>rw [sm1 _ _ q]at hb;cases hb
 generalize upd H l (.lst ((ts.map (·.1)).map V.str))=H1 at sm1 ht1 hs1 hS1 nw ⊢
 walk_at "go"
 refine ⟨Z1,dx,[],ht1,T.Z8,T.Zq,by decide,?_⟩
 have sbA:SameBut t H1 (upd H1 t (.ins Z1 dx (putF (Str.ofString "stock") (V.ref p) []))):=sameBut_upd
 have htA:upd H1 t (.ins Z1 dx (putF (Str.ofString "stock") (V.ref p) [])) t=some (.ins Z1 dx (putF (Str.ofString "stock") (V.ref p) [])):=upd_same
 have hSA:=SqL.but sbA ht1 hS1
 walk_at "go"
 show _
 generalize upd H1 t (.ins Z1 dx (putF (Str.ofString "stock") (V.ref p) []))=HA at sbA htA hSA ⊢
 intro si hsi
 refine ⟨Z1,dx,_,by rw [upd_ne (ne_of_none htA hsi)];exact htA,T.Z8,T.Zr,Nat.lt_of_le_of_lt (putF_le (Nat.le_refl _)) (by decide),?_⟩
 obtain ⟨sb1,ht2,hsi1,k1,nsi,tsi,d1⟩:=step_new (o:= .lst (zs.map V.int)) (f:=Str.ofString "sizes") sbA htA hsi
 walk_at "go"
 show _
 generalize upd (upd HA si (.lst (zs.map V.int))) t (.ins Z1 dx (putF (Str.ofString "sizes") (V.ref si) (putF (Str.ofString "stock") (V.ref p) [])))=HB0 at sb1 ht2 k1 hsi1 ⊢
 intro ro hron
 refine ⟨Z1,dx,_,by rw [upd_ne (ne_of_none ht2 hron)];exact ht2,T.Z8,T.Zs,Nat.lt_of_le_of_lt (putF_le (putF_le (Nat.le_refl _))) (by decide),?_⟩
 obtain ⟨sb2,ht3,hro2,k2,nro,tro,d2⟩:=step_new (o:= .lst []) (f:=Str.ofString "row") sb1 ht2 hron
 have hsi2:=k2 _ _ hsi1 tsi
 have ne_ro_si:ro≠si:=(d2 _ _ hsi1).symm
 walk_at "go"
 show _
 generalize upd (upd HB0 ro (.lst [])) t (.ins Z1 dx (putF (Str.ofString "row") (V.ref ro) (putF (Str.ofString "sizes") (V.ref si) (putF (Str.ofString "stock") (V.ref p) []))))=HB1 at sb2 ht3 k2 hsi2 hro2 ⊢
 intro he hhen
 refine ⟨Z1,dx,_,by rw [upd_ne (ne_of_none ht3 hhen)];exact ht3,T.Z8,T.Zo,Nat.lt_of_le_of_lt (putF_le (putF_le (putF_le (Nat.le_refl _)))) (by decide),?_⟩
 obtain ⟨sb3,ht4,hhe3,k3,nhe,the,d3⟩:=step_new (o:= .dK []) (f:=Str.ofString "held") sb2 ht3 hhen
 have hsi3:=k3 _ _ hsi2 tsi
 have ne_he_si:he≠si:=(d3 _ _ hsi2).symm
 have hro3:=k3 _ _ hro2 tro
 have ne_he_ro:he≠ro:=(d3 _ _ hro2).symm
 walk_at "go"
 show _
 generalize upd (upd HB1 he (.dK [])) t (.ins Z1 dx (putF (Str.ofString "held") (V.ref he) (putF (Str.ofString "row") (V.ref ro) (putF (Str.ofString "sizes") (V.ref si) (putF (Str.ofString "stock") (V.ref p) [])))))=HB2 at sb3 ht4 k3 hsi3 hro3 hhe3 ⊢
 intro la hlan
 refine ⟨Z1,dx,_,by rw [upd_ne (ne_of_none ht4 hlan)];exact ht4,T.Z8,T.Zx,Nat.lt_of_le_of_lt (putF_le (putF_le (putF_le (putF_le (Nat.le_refl _))))) (by decide),?_⟩
 obtain ⟨sb4,ht5,hla4,k4,nla,tla,d4⟩:=step_new (o:= .dK []) (f:=Str.ofString "late") sb3 ht4 hlan
 have hsi4:=k4 _ _ hsi3 tsi
 have ne_la_si:la≠si:=(d4 _ _ hsi3).symm
 have hro4:=k4 _ _ hro3 tro
 have ne_la_ro:la≠ro:=(d4 _ _ hro3).symm
 have hhe4:=k4 _ _ hhe3 the
 have ne_la_he:la≠he:=(d4 _ _ hhe3).symm
 walk_at "go"
 show _
 generalize upd (upd HB2 la (.dK [])) t (.ins Z1 dx (putF (Str.ofString "late") (V.ref la) (putF (Str.ofString "held") (V.ref he) (putF (Str.ofString "row") (V.ref ro) (putF (Str.ofString "sizes") (V.ref si) (putF (Str.ofString "stock") (V.ref p) []))))))=HB3 at sb4 ht5 k4 hsi4 hro4 hhe4 hla4 ⊢
 intro so hson
 refine ⟨Z1,dx,_,by rw [upd_ne (ne_of_none ht5 hson)];exact ht5,T.Z8,T.Z0i,Nat.lt_of_le_of_lt (putF_le (putF_le (putF_le (putF_le (putF_le (Nat.le_refl _)))))) (by decide),?_⟩
 obtain ⟨sb5,ht6,hso5,k5,nso,tso,d5⟩:=step_new (o:= .dK []) (f:=Str.ofString "store") sb4 ht5 hson
 have hsi5:=k5 _ _ hsi4 tsi
 have ne_so_si:so≠si:=(d5 _ _ hsi4).symm
 have hro5:=k5 _ _ hro4 tro
 have ne_so_ro:so≠ro:=(d5 _ _ hro4).symm
 have hhe5:=k5 _ _ hhe4 the
 have ne_so_he:so≠he:=(d5 _ _ hhe4).symm
 have hla5:=k5 _ _ hla4 tla
 have ne_so_la:so≠la:=(d5 _ _ hla4).symm
 walk_at "go"
 show _
 generalize upd (upd HB3 so (.dK [])) t (.ins Z1 dx (putF (Str.ofString "store") (V.ref so) (putF (Str.ofString "late") (V.ref la) (putF (Str.ofString "held") (V.ref he) (putF (Str.ofString "row") (V.ref ro) (putF (Str.ofString "sizes") (V.ref si) (putF (Str.ofString "stock") (V.ref p) [])))))))=HB4 at sb5 ht6 k5 hsi5 hro5 hhe5 hla5 hso5 ⊢
 intro en henn
 refine ⟨Z1,dx,_,by rw [upd_ne (ne_of_none ht6 henn)];exact ht6,T.Z8,T.Zv,Nat.lt_of_le_of_lt (putF_le (putF_le (putF_le (putF_le (putF_le (putF_le (Nat.le_refl _))))))) (by decide),?_⟩
 obtain ⟨sb6,ht7,hen6,k6,nen,ten,d6⟩:=step_new (o:= .lst []) (f:=Str.ofString "entries") sb5 ht6 henn
 have hsi6:=k6 _ _ hsi5 tsi
 have ne_en_si:en≠si:=(d6 _ _ hsi5).symm
 have hro6:=k6 _ _ hro5 tro
 have ne_en_ro:en≠ro:=(d6 _ _ hro5).symm
 have hhe6:=k6 _ _ hhe5 the
 have ne_en_he:en≠he:=(d6 _ _ hhe5).symm
 have hla6:=k6 _ _ hla5 tla
 have ne_en_la:en≠la:=(d6 _ _ hla5).symm
 have hso6:=k6 _ _ hso5 tso
 have ne_en_so:en≠so:=(d6 _ _ hso5).symm
 walk_at "go"
 show _
 generalize upd (upd HB4 en (.lst [])) t (.ins Z1 dx (putF (Str.ofString "entries") (V.ref en) (putF (Str.ofString "store") (V.ref so) (putF (Str.ofString "late") (V.ref la) (putF (Str.ofString "held") (V.ref he) (putF (Str.ofString "row") (V.ref ro) (putF (Str.ofString "sizes") (V.ref si) (putF (Str.ofString "stock") (V.ref p) []))))))))=HB5 at sb6 ht7 k6 hsi6 hro6 hhe6 hla6 hso6 hen6 ⊢
 intro l0 hl0
 have hS5:=SqL.but sb6 ht1 hS1
 have smz:Same HB5 (upd HB5 l0 (.lst [V.int 0])):=Same.new hl0
 have sbz:SameBut t H1 (upd HB5 l0 (.lst [V.int 0])):=sb6.trans (.of smz)
 have hlz:upd HB5 l0 (.lst [V.int 0]) l0=some (.lst [V.int 0]):=upd_same
 have htz:=smz _ _ ht7
 have hsiz:=smz _ _ hsi6
 have hroz:=smz _ _ hro6
 have hhez:=smz _ _ hhe6
 have hlaz:=smz _ _ hla6
 have hsoz:=smz _ _ hso6
 have henz:=smz _ _ hen6
 have hSz:=smz.seq hS5
 generalize upd HB5 l0 (.lst [V.int 0])=HZ at sbz hlz htz hsiz hroz hhez hlaz hsoz henz hSz ⊢
 refine ⟨_,.inl hSz,?_⟩
 rw [List.length_map]
 refine ⟨l0,_,_,rfl,rfl,hlz,by omega,by omega,by simp;omega,fun fi hfi=>?_⟩
 rw [rep0]
 refine ⟨Z1,dx,_,by rw [upd_ne (ne_of_none htz hfi)];exact htz,T.Z8,T.Z06,Nat.lt_of_le_of_lt (putF_le (putF_le (putF_le (putF_le (putF_le (putF_le (putF_le (Nat.le_refl _)))))))) (by decide),?_⟩
 obtain ⟨sb7,ht8,hfi7,k7,nfi,tfi,d7⟩:=step_new (o:= .lst ((List.replicate (zs.length+1) (0:Int)).map V.int)) (f:=Str.ofString "finds") sbz htz hfi
 have hsi7:=k7 _ _ hsiz tsi
 have hro7:=k7 _ _ hroz tro
 have hhe7:=k7 _ _ hhez the
 have hla7:=k7 _ _ hlaz tla
 have hso7:=k7 _ _ hsoz tso
 have hen7:=k7 _ _ henz ten
 have ne_fi_si:=(d7 _ _ hsiz).symm
 have ne_fi_ro:=(d7 _ _ hroz).symm
 have ne_fi_en:=(d7 _ _ henz).symm
 walk_at "go"
 refine ⟨Z1,dx,_,ht8,T.Z8,T.Z13,Nat.lt_of_le_of_lt (putF_le (putF_le (putF_le (putF_le (putF_le (putF_le (putF_le (putF_le (Nat.le_refl _))))))))) (by decide),?_⟩
 have kz:∀b u,HZ b=some u→upd HZ fi (.lst ((List.replicate (zs.length+1) (0:Int)).map V.int)) b=some u:=fun b u e=>by rw [upd_ne (ne_of_none e hfi)];exact e
 refine q ⟨p,si,ro,he,la,so,en,fi⟩ ⟨zs,[],[],[],[],[],List.replicate (zs.length+1) 0,0⟩ _ (fun b o e nb=>?_) ⟨?_,?_⟩ rfl rfl rfl rfl rfl (fun b hb=>?_)
 · rw [upd_ne nb];exact kz _ _ (sbz _ _ (sm1 _ _ e) nb)
 · have hfin:∀u:HO,SameBut t H1 (upd (upd HZ fi (.lst ((List.replicate (zs.length+1) (0:Int)).map V.int))) t u):=fun u b o e nb=>by rw [upd_ne nb];exact kz _ _ (sbz _ _ e nb)
   refine ⟨⟨⟨dx,f6 ⟨p,si,ro,he,la,so,en,fi⟩,upd_same,tfs_init _⟩,by rw [upd_ne tsi];exact kz _ _ hsiz,by rw [upd_ne tro];exact kz _ _ hroz,by rw [upd_ne the];exact kz _ _ hhez,by rw [upd_ne tla];exact kz _ _ hlaz,by rw [upd_ne tso];exact kz _ _ hsoz,by rw [upd_ne ten];exact kz _ _ henz,by rw [upd_ne tfi];exact upd_same,ne_la_he.symm,ne_so_he.symm,ne_so_la.symm,ne_ro_si,ne_en_ro.symm,ne_fi_ro.symm,ne_en_si.symm,ne_fi_si.symm,ne_fi_en.symm⟩,?_,⟨(fun y hy=>by cases hy),(fun y hy=>by cases hy),(fun y v hv=>by cases hv),Nat.zero_le _,Nat.zero_le _,Nat.zero_le _,Nat.zero_le _,by decide⟩,List.nodup_nil,?_,hz1,hz6,hzz,(fun y hy=>by cases hy),nd,htl,by simp⟩
   · refine ((hs1.ins ht1).mono fun b hb=>?_).off fun b o e n=>hfin _ b o e fun z=>n (by rw [z];simp [own])
     have hb':b=t∨b=ro∨b=he∨b=la∨b=so∨b=en∨b=fi:=by simpa [own] using hb
     rcases hb' with h | h | h | h | h | h | h <;> rw [h]
     · exact .inl List.mem_cons_self
     · exact .inr nro
     · exact .inr nhe
     · exact .inr nla
     · exact .inr nso
     · exact .inr nen
     · exact .inr nfi
   · have h4:=pre_nn (zs:=zs) (fun z hz=>(hzz z hz).1) zs.length
     unfold pre at h4
     rw [List.take_length]at h4
     exact h4
 · exact ⟨(fun y hy=>by cases hy),(fun y=>rfl),(fun y hy=>by cases hy),(fun y=>rfl),⟨[],rfl,rfl,fun i u e h=>by simp at h⟩,Nat.zero_le _,Nat.zero_le _,Nat.zero_le _,Nat.zero_le _,by decide,(fun e he=>by cases he)⟩
 · have hb':b=si∨b=t∨b=ro∨b=he∨b=la∨b=so∨b=en∨b=fi:=by simpa [own] using hb
   rcases hb' with h | h | h | h | h | h | h | h <;> rw [h]
   · exact .inr (nw _ nsi)
   · exact .inl rfl
   · exact .inr (nw _ nro)
   · exact .inr (nw _ nhe)
   · exact .inr (nw _ nla)
   · exact .inr (nw _ nso)
   · exact .inr (nw _ nen)
   · exact .inr (nw _ nfi)
theorem Z5w{f:Addr}{fd:FuncData}(F:Fun K "write" "Tower.write" Z0t f fd)(T:Txt K mg Z5 Z3 Z4 Z7 Z2 Z1 Z0):FnOk P w K mg base (CXF P w) 2 f fd ["self","name"] (sp74_write Z0):=by
 have sc:FnScope ["self","name"] ["self","name"] (defScope Z0t):=⟨rfl,rfl,rfl,by decide+kernel,rfl,by decide+kernel,by decide+kernel⟩
 refine F.okF sc (fun vs H Q E h=>?_) (fun cdv A outer s H vs Q E hr h=>?_)
 · obtain ⟨t,x,s,g,z,B,hd,rfl,hT,hL,hB,hz,q⟩:=h;rfl
 obtain ⟨t,x,s,g,z,B,hd,rfl,hT,hL,hB,hz,q⟩:=h
 refine ⟨_,(@pss_cons _ _ _ _ _ (ps_dput (hu_of hr) (pe_fld (pv 0) rfl) (pv 1) (pe_dget (hu_of hr) (pe_fld (pv 0) rfl) (pv 1) (fun _ _=>rfl)) rfl)
  (@pss_one _ _ _ (ps_expr (pe_bm PySem.F.plainAttrs_list PySem.F.slot_list_append PySem.F.type_list_append mt_append (pe_fld (pv 0) rfl) (pa_cons (pe_tup (pa_cons pe_str (pa_cons (pv 1) (pa_cons (pe_dget (hu_of hr) (pe_fld (pv 0) rfl) (pv 1) (fun _ _=>rfl)) pa_nil)))) pa_nil))))),?_⟩
 rw [show start ["self","name"] [V.ref t,V.str z]=[some (V.ref t),some (V.str z)] from rfl]
 have line:=line_val
 obtain ⟨dx,fs,ho,hf⟩:=hT.o
 have hi:=hL.h z hz
 have n3:=hL.n3
 have n4:=hL.n4
 walk_at "go"
 refine ⟨Z0,dx,fs,ho,T.Z6,T.Zj,_,hf.he,x.he,rfl,.int (g.h z),by rw [← hi];exact DGet.k (k:=Sum.inr z) hT.he,Z0,dx,fs,ho,T.Z6,T.Z07,_,hf.so,x.so,rfl,_,DPut.k (k:=Sum.inr z) hT.so (by omega),?_⟩
 have hT1:=hT.store (putK s.ks (Sum.inr z) (.int (g.h z)))
 have o1:Off (own t x) H (upd H x.so (.dK (putK s.ks (Sum.inr z) (.int (g.h z))))):=Off.put (by simp [own])
 generalize upd H x.so (.dK (putK s.ks (Sum.inr z) (.int (g.h z))))=H1 at hT1 o1 ⊢
 obtain ⟨dx1,fs1,ho1,hf1⟩:=hT1.o
 walk_at "go"
 refine ⟨Z0,dx1,fs1,ho1,T.Z6,T.Zp,_,hf1.en,.inl ⟨rfl,_,SqL.of hT1.en⟩,Z0,dx1,fs1,ho1,T.Z6,T.Zj,_,hf1.he,x.he,rfl,.int (g.h z),by rw [← hi];exact DGet.k (k:=Sum.inr z) hT1.he,by omega,fun u hu=>?_⟩
 have sm2:Same H1 (upd H1 u (.tup (wrT z (g.h z)))):=Same.new hu
 have hT2:=hT1.same sm2
 have hu2:upd H1 u (.tup (wrT z (g.h z))) u=some (.tup (wrT z (g.h z))):=upd_same
 have nue:u≠x.en:=(ne_of_none hT1.en hu).symm
 have o2:Off (own t x) H (upd H1 u (.tup (wrT z (g.h z)))):=o1.trans (.of sm2)
 show rAppend _ _ (upd H1 u (.tup (wrT z (g.h z)))) _
 generalize upd H1 u (.tup (wrT z (g.h z)))=H2 at hT2 o2 hu2 ⊢
 refine ⟨x.en,_,_,rfl,rfl,hT2.en,by show s.es.length < _;omega,?_⟩
 walk_at "go"
 have oF:=o2.trans (Off.put (H:=H2) (b:=x.en) (o:= .lst (s.es++[.ref u])) (by simp [own]))
 exact q {s with ks:=putK s.ks (Sum.inr z) (.int (g.h z)),es:=s.es++[.ref u]} _ oF (hT2.entry (s.es++[.ref u])) rfl rfl rfl rfl rfl (hL.wrote hz (keepT hT oF) (by rw [upd_ne nue];exact hu2) (by omega))
theorem Z59{f:Addr}{fd:FuncData}(F:Fun K "settle" "Prompt.settle" Z0e f fd)(T:Txt K mg Z5 Z3 Z4 Z7 Z2 Z1 Z0)(Zu:DefM P w K mg base (CXF P w) 2 Z0 "write" ["self","name"] (sp74_write Z0)):FnOk P w K mg base (CXF P w) 3 f fd ["self","name"] (sp74_settle Z0 true):=by
 have sc:FnScope ["self","name"] ["self","name"] (defScope Z0e):=⟨rfl,rfl,rfl,by decide+kernel,rfl,by decide+kernel,by decide+kernel⟩
 refine F.okF sc (fun vs H Q E h=>?_) (fun cdv A outer s H vs Q E hr h=>?_)
 · obtain ⟨t,x,s,g,z,B,hd,rfl,hT,hL,hB,hz,q⟩:=h;rfl
 obtain ⟨t,x,s,g,z,B,hd,rfl,hT,hL,hB,hz,q⟩:=h
 refine ⟨_,(@pss_one _ _ _ (ps_expr (pe_methS Zu T.Z6 hr (passS pass_onF) (pv 0) (pa_cons (pv 1) pa_nil)))),?_⟩
 rw [show start ["self","name"] [V.ref t,V.str z]=[some (V.ref t),some (V.str z)] from rfl]
 have line:=line_val
 obtain ⟨dx,fs,ho,hf⟩:=hT.o
 walk_at "go"
 exact ⟨dx,fs,ho,hf.m _ (by simp),x,s,hT,g,B,hd,hL,hB,hz,fun s' H' o hT' e1 e2 e3 e4 _ hL'=>q s' H' o hT' e1 e2 e3 e4 hL'⟩
theorem Z4i{f:Addr}{fd:FuncData}(F:Fun K "fall_off" "Tower.fall_off" Z04 f fd)(T:Txt K mg Z5 Z3 Z4 Z7 Z2 Z1 Z0)(Zu:DefM P w K mg base (CXF P w) 2 Z0 "write" ["self","name"] (sp74_write Z0)):FnOk P w K mg base (CXF P w) 3 f fd ["self","name"] (sp74_fall Z0):=by
 have sc:FnScope ["self","name"] ["self","name"] (defScope Z04):=⟨rfl,rfl,rfl,by decide+kernel,rfl,by decide+kernel,by decide+kernel⟩
 refine F.okF sc (fun vs H Q E h=>?_) (fun cdv A outer s H vs Q E hr h=>?_)
 · obtain ⟨t,x,s,g,z,B,hd,rfl,hT,hL,hB,hz,q⟩:=h;rfl
 obtain ⟨t,x,s,g,z,B,hd,rfl,hT,hL,hB,hz,q⟩:=h
 refine ⟨_,(@pss_cons _ _ _ _ _ (ps_if (pt_cmp (pc_din (hu_of hr) (pv 1) (pe_fld (pv 0) rfl)))
  (@pss_cons _ _ _ _ _ (ps_expr (pe_dpop1 (pe_fld (pv 0) rfl) (pv 1) ⟨rfl,rfl,rfl,rfl⟩))
  (@pss_one _ _ _ (ps_expr (pe_methS Zu T.Z6 hr (passS pass_onF) (pv 0) (pa_cons (pv 1) pa_nil)))))
  pss_nil)
  (@pss_one _ _ _ (ps_expr (pe_dpop1 (pe_fld (pv 0) rfl) (pv 1) ⟨rfl,rfl,rfl,rfl⟩)))),?_⟩
 rw [show start ["self","name"] [V.ref t,V.str z]=[some (V.ref t),some (V.str z)] from rfl]
 have line:=line_val
 obtain ⟨dx,fs,ho,hf⟩:=hT.o
 walk_at "go"
 refine ⟨Z0,dx,fs,ho,T.Z6,T.Zz,_,hf.la,x.la,rfl,_,DGet.k (k:=Sum.inr z) hT.la,?_⟩
 rename_i rest hrest
 have key:∀(s1:TwS) (H1:Hp),Off (own t x) H H1→TwAt Z0 H1 t x s1→s1.R=s.R→s1.zs=s.zs→s1.ff=s.ff→s1.pd=s.pd→TwG H1 s1 (fallG z g) (B+1) hd→(fallG z g).l z=false→rest [some (V.ref t),some (V.str z)] H1:=by
  intro s1 H1 o1 hT1 e1 e2 e3 e4 hL1 hz1
  obtain ⟨dx1,fs1,ho1,hf1⟩:=hT1.o
  have hi1:=hL1.h z hz
  subst hrest
  walk_at "go"
  refine ⟨Z0,dx1,fs1,ho1,T.Z6,T.Zj,_,hf1.he,x.he,rfl,.inl ⟨_,.inl hT1.he⟩,_,hT1.he,Sum.inr z,rfl,_,hi1,?_⟩
  have oP:Off (own t x) H1 (upd H1 x.he (.dK (dropK s1.kh (Sum.inr z)))):=Off.put (by simp [own])
  exact q _ _ (o1.trans oP) (hT1.held (dropK s1.kh (Sum.inr z))) e1 e2 e3 e4 ((hL1.popped hz1).off hT1 oP)
 clear hrest
 rw [hL.l z]
 by_cases hin:g.l z=true
 · rw [if_pos hin]
   have hsome:(valV s.kl (Sum.inr z)).isSome=true:=by rw [hL.l z];exact hin
   obtain ⟨vl,hvl⟩:=Option.isSome_iff_exists.mp hsome
   walk_at "go"
   refine ⟨Z0,dx,fs,ho,T.Z6,T.Zz,_,hf.la,x.la,rfl,.inl ⟨_,.inl hT.la⟩,_,hT.la,Sum.inr z,rfl,_,hvl,?_⟩
   have hT1:=hT.late (dropK s.kl (Sum.inr z))
   have o1:Off (own t x) H (upd H x.la (.dK (dropK s.kl (Sum.inr z)))):=Off.put (by simp [own])
   have hL1:=(hL.lateOff (z:=z)).off hT o1
   generalize upd H x.la (.dK (dropK s.kl (Sum.inr z)))=H1 at hT1 o1 hL1 ⊢
   obtain ⟨dx1,fs1,ho1,hf1⟩:=hT1.o
   have eG:fallG z g=(g.late z false).write z:=by unfold fallG;rw [if_pos hin]
   walk_at "go"
   refine ⟨dx1,fs1,ho1,hf1.m _ (by simp),x,_,hT1,_,B,hd,hL1,hB,hz,fun s2 H2 o2 hT2 e1 e2 e3 e4 _ hL2=>?_⟩
   exact key s2 H2 (o1.trans o2) hT2 e1 e2 e3 e4 (by rw [eG];exact hL2) (by rw [eG];exact setF_same)
 · rw [if_neg hin]
   have eG:fallG z g=g:=by unfold fallG;rw [if_neg hin]
   exact key s H (fun b o e _=>e) hT rfl rfl rfl rfl (by rw [eG];exact hL.iff (fun _=>Iff.rfl) (by omega) (by omega)) (by rw [eG];simpa using hin)
theorem Z6e{f:Addr}{fd:FuncData}(F:Fun K "come" "Tower.come" Z1j f fd)(T:Txt K mg Z5 Z3 Z4 Z7 Z2 Z1 Z0)(Z2j:DefM P w K mg base (CXF P w) 3 Z0 "fall_off" ["self","name"] (sp74_fall Z0)):FnOk P w K mg base (CXF P w) 4 f fd ["self","name"] (sp74_come Z0):=by
 have sc:FnScope ["self","name"] ["self","name"] (defScope Z1j):=⟨rfl,rfl,rfl,by decide+kernel,rfl,by decide+kernel,by decide+kernel⟩
 refine F.okF sc (fun vs H Q E h=>?_) (fun cdv A outer s H vs Q E hr h=>?_)
 · obtain ⟨t,x,s,g,z,B,rfl,hT,hL,hB,nd,hRl,hRs,hS1,q⟩:=h;rfl
 obtain ⟨t,x,s,g,z,B,rfl,hT,hL,hB,nd,hRl,hRs,hS1,q⟩:=h
 refine ⟨_,(@pss_cons _ _ _ _ _ (ps_if (pt_cmpR op_in_seq (pv 1) (pe_fld (pv 0) rfl) (by with_unfolding_all rfl))
  (@pss_one _ _ _ (ps_expr (pe_bm PySem.F.plainAttrs_list PySem.F.slot_list_remove PySem.F.type_list_remove mt_remove (pe_fld (pv 0) rfl) (pa_cons (pv 1) pa_nil))))
  pss_nil)
  (@pss_cons _ _ _ _ _ (ps_expr (pe_bm PySem.F.plainAttrs_list PySem.F.slot_list_insert PySem.F.type_list_insert mt_insert (pe_fld (pv 0) rfl) (pa_cons pe_int (pa_cons (pv 1) pa_nil))))
  (@pss_one _ _ _ (ps_if (pt_cmpR op_gt (pe_callB call_len_seq rfl T.Zw PySem.boot_len (pa_cons (pe_fld (pv 0) rfl) pa_nil)) (pe_callB (call_sumL rfl) rfl T.Z4y (by first | rfl | decide+kernel) (pa_cons (pe_fld (pv 0) rfl) pa_nil)) (nomark _))
   (@pss_one _ _ _ (ps_expr (pe_methS Z2j T.Z6 hr (passS pass_onF) (pv 0) (pa_cons (pe_bm0 PySem.F.plainAttrs_list PySem.F.slot_list_pop PySem.F.type_list_pop mt_pop (pe_fld (pv 0) rfl)) pa_nil))))
   pss_nil)))),?_⟩
 rw [show start ["self","name"] [V.ref t,V.str z]=[some (V.ref t),some (V.str z)] from rfl]
 have line:=line_val
 obtain ⟨dx,fs,ho,hf⟩:=hT.o
 walk_at "go"
 refine ⟨Z0,dx,fs,ho,T.Z6,T.Zi,_,hf.ro,in_go (SqL.of hT.ro) ⟨_,rfl,?_⟩⟩
 rename_i rest hrest
 have key:∀H1:Hp,Off (own t x) H H1→TwAt Z0 H1 t x {s with R:=s.R.erase z}→rest [some (V.ref t),some (V.str z)] H1:=by
  intro H1 o1 hT1
  obtain ⟨dx1,fs1,ho1,hf1⟩:=hT1.o
  have hel:(s.R.erase z).length≤s.R.length:=List.length_erase_le
  subst hrest
  walk_at "go"
  refine ⟨Z0,dx1,fs1,ho1,T.Z6,T.Zi,_,hf1.ro,.inl ⟨rfl,_,SqL.of hT1.ro⟩,x.ro,rfl,_,hT1.ro,by rw [List.length_map];show (s.R.erase z).length < _;omega,?_⟩
  have hT2:TwAt Z0 (upd H1 x.ro (.lst (V.str z::List.map V.str {s with R:=s.R.erase z}.R))) t x {s with R:=z::s.R.erase z}:=hT1.row (z::s.R.erase z)
  have o2:Off (own t x) H (upd H1 x.ro (.lst (V.str z::List.map V.str {s with R:=s.R.erase z}.R))):=o1.trans (Off.put (by simp [own]))
  generalize upd H1 x.ro (.lst (V.str z::List.map V.str {s with R:=s.R.erase z}.R))=H2 at hT2 o2 ⊢
  obtain ⟨dx2,fs2,ho2,hf2⟩:=hT2.o
  walk_at "go"
  refine ⟨Z0,dx2,fs2,ho2,T.Z6,T.Zi,_,hf2.ro,x.ro,rfl,_,.inl (SqL.of hT2.ro),Z0,dx2,fs2,ho2,T.Z6,T.Zl,_,hf2.si,x.si,rfl,_,SqL.of hT2.si,?_⟩
  rw [List.length_map]
  have hl1:(z::s.R.erase z).length=(s.R.erase z).length+1:=rfl
  have ndc:=nd_come (z:=z) nd
  by_cases hov:s.zs.sum < ((z::s.R.erase z).length:Int)
  · rw [if_pos hov]
    obtain ⟨y,hy,edl,hyin,hiff⟩:=drop_last (S:=s.zs.sum.toNat) ndc (by omega)
    have eG:comeG s.zs.sum s.R z g=fallG y g:=by unfold comeG lastS;rw [if_pos hov,hy];rfl
    refine ⟨dx2,fs2,ho2,hf2.m _ (by simp),Z0,dx2,fs2,ho2,T.Z6,T.Zi,_,hf2.ro,.inl ⟨rfl,_,SqL.of hT2.ro⟩,x.ro,rfl,_,hT2.ro,V.str y,by rw [List.length_map,List.getElem?_map,hy];rfl,?_⟩
    have hT3:TwAt Z0 (upd H2 x.ro (.lst ((z::s.R.erase z).map V.str).dropLast)) t x {s with R:=(z::s.R.erase z).dropLast}:=by
     rw [← List.map_dropLast];exact hT2.row ((z::s.R.erase z).dropLast)
    have o3:Off (own t x) H (upd H2 x.ro (.lst ((z::s.R.erase z).map V.str).dropLast)):=o2.trans (Off.put (by simp [own]))
    have hL3:=hL.off hT o3
    walk_at "go"
    refine ⟨x,_,hT3,g,B,_,hL3.cast rfl rfl rfl rfl,hB,mem_come.mp hyin,fun s' H' o hT' e1 e2 e3 e4 hL'=>?_⟩
    have e1':s'.R=(z::s.R.erase z).dropLast:=e1
    exact q s' H' (o3.trans o) hT' (by rw [e1',edl]) e2 e3 e4 (by rw [eG];exact hL'.iff (fun u=>by rw [e1',hiff u,mem_come]) (Nat.le_refl _) (by omega))
  · rw [if_neg hov]
    have eG:comeG s.zs.sum s.R z g=g:=by unfold comeG;rw [if_neg hov]
    exact q _ H2 o2 hT2 (by rw [List.take_of_length_le (by omega)]) rfl rfl rfl (by rw [eG];exact ((hL.off hT o2).iff (fun u=>(mem_come (R:=s.R) (z:=z) (u:=u)).symm) (by omega) (by omega)).cast rfl rfl rfl rfl)
 clear hrest
 by_cases hin:z∈s.R
 · rw [if_pos (by simpa using hin)]
   refine ⟨Z0,dx,fs,ho,T.Z6,T.Zi,_,hf.ro,.inl ⟨rfl,_,SqL.of hT.ro⟩,x.ro,rfl,s.R,hT.ro,hin,?_⟩
   exact key _ (Off.put (by simp [own])) (hT.row (s.R.erase z))
 · rw [if_neg (by simpa using hin)]
   have:=key H (fun b o e _=>e) (by rw [List.erase_of_not_mem hin];exact hT)
   exact this
theorem Z5a{f:Addr}{fd:FuncData}(F:Fun K "levels" "Tower.levels" Z0f f fd)(T:Txt K mg Z5 Z3 Z4 Z7 Z2 Z1 Z0):FnOk P w K mg base (CXF P w) 1 f fd ["self"] (sp71_levels Z0):=by
 have sc:FnScope ["self","told","start","size"] ["self"] (defScope Z0f):=⟨rfl,rfl,rfl,by decide+kernel,rfl,by decide+kernel,by decide+kernel⟩
 refine F.okF sc (fun vs H Q E h=>?_) (fun cdv A outer s H vs Q E hr h=>?_)
 · obtain ⟨t,x,s,rfl,hT,hzl,hz,q⟩:=h;rfl
 obtain ⟨t,x,s,rfl,hT,hzl,hz,q⟩:=h
 refine ⟨_,(@pss_cons _ _ _ _ _ (ps_set (i:=1) sc.nd rfl (Or.inl rfl) (@pe_lst _ _ _ _ pa_nil))
  (@pss_cons _ _ _ _ _ (ps_set (i:=2) sc.nd rfl (Or.inl rfl) pe_int)
  (@pss_cons _ _ _ _ _ (ps_for own_outF rfl (pi_list (pe_fld (pv 0) rfl)) (pg_name (i:=3) sc.nd rfl (Or.inl rfl))
   (@pss_cons _ _ _ _ _ (ps_expr (pe_bm PySem.F.plainAttrs_list PySem.F.slot_list_append PySem.F.type_list_append mt_append (pv 1) (pa_cons (pe_slice sl_list (pe_fld (pv 0) rfl) (po_some (pv 2)) (po_some (pe_op op_add (pv 2) (pv 3)))) pa_nil)))
   (@pss_one _ _ _ (ps_aug (i:=2) sc.nd rfl (Or.inl rfl) (pv 3) ip_add))))
  (@pss_one _ _ _ (@ps_ret _ _ _ _ (pv 1)))))),?_⟩
 rw [show start ["self","told","start","size"] [V.ref t]=[some (V.ref t),none,none,none] from rfl]
 have line:=line_val
 obtain ⟨dx,fs,ho,hf⟩:=hT.o
 walk_at "go"
 intro p hp
 walk_at "go"
 have sm0:Same H (upd H p (.lst [])):=Same.new hp
 have hp0:upd H p (.lst []) p=some (.lst []):=upd_same
 generalize upd H p (.lst [])=H0 at sm0 hp0 ⊢
 refine ⟨Z0,dx,fs,sm0 _ _ ho,T.Z6,T.Zl,_,hf.si,x.si,rfl,⟨_,SqL.of (sm0 _ _ hT.si)⟩,?_⟩
 rename_i rest hrest
 refine forL_by (xs:=s.zs.map V.int) (fun i σ H'=>∃(as:List Addr) (v3:Option V),σ=[some (V.ref t),some (V.ref p),some (V.int (pre s.zs i)),v3]∧Same H H'∧H' p=some (.lst (as.map V.ref))∧LvAt H' as s.zs s.R i∧(∀a∈as,H a=none)∧as.Nodup∧p∉as)
  ⟨[],none,rfl,sm0,hp0,⟨rfl,fun i a e=>by simp at e⟩,(fun a ha=>by cases ha),List.nodup_nil,(fun h=>by cases h)⟩ (fun i σ H' _ h_=>by obtain ⟨as,v3,_,sm,_⟩:=h_;exact SqL.of (sm _ _ hT.si)) ?_ ?_
 · rintro i v σ H' hv ⟨as,v3,rfl,sm,hp',hA,hn,nd,hpn⟩
   have hi:i < s.zs.length:=by
    have:=(List.getElem?_eq_some_iff.mp hv).1
    rw [List.length_map]at this;exact this
   have hgi:s.zs[i]?=some (s.zs.getD i 0):=getD_int hi
   rw [List.getElem?_map,hgi]at hv
   cases hv
   have hz1:=hz _ (List.mem_of_getElem? hgi)
   have hpn0:=pre_nn (fun z h=>(hz z h).1) i
   rw [pre_succ hi]
   have hal:as.length≤i:=Nat.le_of_eq hA.1
   walk_at "go"
   refine ⟨.inl ⟨rfl,_,SqL.of hp'⟩,Z0,dx,fs,sm _ _ ho,T.Z6,T.Zi,_,hf.ro,x.ro,rfl,_,SqL.of (sm _ _ hT.ro),fun l hl=>?_⟩
   rw [cut_lvl hz hi]
   have npl:p≠l:=ne_of_none hp' hl
   have sm2:Same H' (upd H' l (.lst ((lvl s.zs s.R i).map V.str))):=Same.new hl
   have hlH:H l=none:=by
    cases e:H l with
    | none=>rfl
    | some o=>rw [sm _ _ e]at hl;cases hl
   refine ⟨p,_,_,rfl,rfl,sm2 _ _ hp',by rw [List.length_map];omega,?_⟩
   have hla:l∉as:=fun h=>by
    obtain ⟨j,hj⟩:=List.mem_iff_getElem?.mp h
    rw [hA.2 j l hj]at hl;cases hl
   have sm3:Same H (upd (upd H' l (.lst ((lvl s.zs s.R i).map V.str))) p (.lst (as.map V.ref++[V.ref l]))):=fun b o e=>by rw [upd_ne (ne_of_none e hp)];exact (sm.trans sm2) _ _ e
   have hp3:upd (upd H' l (.lst ((lvl s.zs s.R i).map V.str))) p (.lst (as.map V.ref++[V.ref l])) p=some (.lst ((as++[l]).map V.ref)):=by rw [upd_same,List.map_append];rfl
   have hA3:LvAt (upd (upd H' l (.lst ((lvl s.zs s.R i).map V.str))) p (.lst (as.map V.ref++[V.ref l]))) (as++[l]) s.zs s.R (i+1):=by
    refine ⟨by rw [List.length_append,hA.1];rfl,fun j a e=>?_⟩
    by_cases hj:j < as.length
    · rw [List.getElem?_append_left hj]at e
      have h1:=hA.2 j a e
      rw [upd_ne (fun z=>hpn (by rw [← z];exact List.mem_of_getElem? e))]
      exact sm2 _ _ h1
    · rw [List.getElem?_append_right (by omega)]at e
      have hj0:j=i:=by
       have h1:=(List.getElem?_eq_some_iff.mp e).1
       have h2:=hA.1
       simp at h1;omega
      rw [show j - as.length=0 by have:=hA.1;omega]at e
      cases e
      rw [upd_ne npl.symm,upd_same,hj0]
   generalize upd (upd H' l (.lst ((lvl s.zs s.R i).map V.str))) p (.lst (as.map V.ref++[V.ref l]))=H3 at sm3 hp3 hA3 ⊢
   walk_at "go"
   refine ⟨as++[l],hp3,hA3,fun a ha=>?_,?_,fun h=>?_⟩
   · rcases List.mem_append.mp ha with ha | ha
     · exact hn a ha
     · rw [List.mem_singleton.mp ha];exact hlH
   · exact List.nodup_append.mpr ⟨nd,List.nodup_cons.mpr ⟨List.not_mem_nil,List.nodup_nil⟩,fun a ha b hb e=>hla (by rw [← List.mem_singleton.mp hb,← e];exact ha)⟩
   · rcases List.mem_append.mp h with h | h
     · exact hpn h
     · exact npl (List.mem_singleton.mp h)
 · rintro σ H' ⟨as,v3,rfl,sm,hp',hA,hn,nd,hpn⟩
   rw [List.length_map]at hA
   walk_at "go"
   exact q p as _ hp sm hp' hA hn nd hpn
theorem Z4j{f:Addr}{fd:FuncData}(F:Fun K "shelf_of" "Tower.shelf_of" Z05 f fd)(T:Txt K mg Z5 Z3 Z4 Z7 Z2 Z1 Z0)(Za:DefM P w K mg base (CXF P w) 4 Z2 "number_of" ["self","name"] (sp_tell 0 K Z2 Z3))(Zn:DefM P w K mg base (CXF P w) 1 Z0 "levels" ["self"] (sp71_levels Z0)):FnOk P w K mg base (CXF P w) 5 f fd ["self","name"] (sp78_shelf K Z0 Z2 Z3):=by
 have sc:FnScope ["self","name","number","names"] ["self","name"] (defScope Z05):=⟨rfl,rfl,rfl,by decide+kernel,rfl,by decide+kernel,by decide+kernel⟩
 refine F.okF sc (fun vs H Q E h=>?_) (fun cdv A outer s H vs Q E hr h=>?_)
 · obtain ⟨t,x,s,z,ts,rfl,hT,hs,nd,hcase⟩:=h;rfl
 obtain ⟨t,x,s,z,ts,rfl,hT,hs,nd,hcase⟩:=h
 refine ⟨_,(@pss_cons _ _ _ _ _ (ps_expr (pe_methS Za T.Zf hr (passS pass_onF) (pe_fld (pv 0) rfl) (pa_cons (pv 1) pa_nil)))
  (@pss_cons _ _ _ _ _ (ps_for own_outF rfl (pi_enum rfl T.Z1x (pa_cons (pe_methS0 Zn T.Z6 hr (passS pass_onF) (pv 0)) pa_nil)) (pg_tup rfl (pgs_cons (pg_name (i:=2) sc.nd rfl (Or.inl rfl)) (pgs_cons (pg_name (i:=3) sc.nd rfl (Or.inl rfl)) pgs_nil)))
   (@pss_one _ _ _ (ps_if (pt_cmpR op_in_seq (pv 1) (pv 3) (by with_unfolding_all rfl))
    (@pss_one _ _ _ (@ps_ret _ _ _ _ (pv 2)))
    pss_nil)))
  (@pss_one _ _ _ (@ps_ret _ _ _ _ (pe_callB call_len_seq rfl T.Zw PySem.boot_len (pa_cons (pe_fld (pv 0) rfl) pa_nil)))))),?_⟩
 rw [show start ["self","name","number","names"] [V.ref t,V.str z]=[some (V.ref t),some (V.str z),none,none] from rfl]
 rcases hcase with ⟨hz,hzl,hzz,hRs,q⟩ | ⟨hz,qe⟩
 rotate_left
 · have line:=line_val
   obtain ⟨dx,fs,ho,hf⟩:=hT.o
   obtain ⟨dy,e,kvs,h1,h2,h3,h4,h5⟩:=StockAt.has hs.at
   walk_at "go"
   refine ⟨Z0,dx,fs,ho,T.Z6,T.Zk,_,hf.st,x.st,rfl,dy,flds e,h1,by rfl,x.st,rfl,ts,hs.at,nd,fun i t' ht' e'=>absurd (e'▸List.mem_map.mpr ⟨t',List.mem_of_getElem? ht',rfl⟩) hz,fun _ H' e sm he er=>?_⟩
   exact qe H' e sm he er
 have line:=line_val
 obtain ⟨dx,fs,ho,hf⟩:=hT.o
 obtain ⟨dy,e,kvs,h1,h2,h3,h4,h5⟩:=StockAt.has hs.at
 walk_at "go"
 refine ⟨Z0,dx,fs,ho,T.Z6,T.Zk,_,hf.st,x.st,rfl,dy,flds e,h1,by rfl,x.st,rfl,ts,hs.at,nd,fun i t' ht' e'=>?_,fun h=>absurd hz h⟩
 clear e' ht'
 walk_at "go"
 refine ⟨dx,fs,ho,hf.m _ (by simp),x,s,hT,hzl,hzz,fun p as H1 hp sm1 hp1 hA han nda hpn=>⟨⟨_,SqL.of hp1⟩,?_⟩⟩
 rename_i rest hrest
 refine forE_by (xs:=as.map V.ref) (fun i σ H'=>∃(v2 v3:Option V),σ=[some (V.ref t),some (V.str z),v2,v3]∧Same H1 H'∧∀j,j < i→z∉lvl s.zs s.R j) ⟨none,none,rfl,Same.refl _,fun j hj=>absurd hj (Nat.not_lt_zero j)⟩ (fun i σ H' _ h_=>by obtain ⟨v2,v3,_,sm,_⟩:=h_;exact SqL.of (sm _ _ hp1)) ?_ ?_
 · rintro i v σ H' u hv ⟨v2,v3,rfl,sm,hno⟩ hu
   have hi:i < as.length:=by
    have:=(List.getElem?_eq_some_iff.mp hv).1
    rw [List.length_map]at this;exact this
   have hai:as[i]?=some as[i]:=List.getElem?_eq_getElem hi
   rw [List.getElem?_map,hai]at hv
   cases hv
   have hla:=(sm.trans (Same.new (o:= .tup [.int i,.ref as[i]]) hu)) _ _ (hA.2 i _ hai)
   have smu:=sm.trans (Same.new (o:= .tup [.int i,.ref as[i]]) hu)
   walk_at "go"
   refine ⟨_,SqT.of upd_same,rfl,_,_,rfl,_,_,rfl,rfl,?_⟩
   generalize upd H' u (.tup [.int i,.ref as[i]])=H2 at hla smu ⊢
   have hzl2:i < s.zs.length:=by have:=hA.1;omega
   walk_at "go"
   refine in_go (SqL.of hla) ⟨_,rfl,?_⟩
   by_cases hin:z∈lvl s.zs s.R i
   · rw [if_pos (by simpa using hin)]
     walk_at "go"
     exact q i H2 (sm1.trans smu) (by omega) ⟨fun _=>lvl_sub hin,fun _=>hzl2⟩ (Nat.le_of_eq (shx_at hzl2 hin hno)) (Nat.le_of_eq (shx_at hzl2 hin hno).symm)
   · rw [if_neg (by simpa using hin)]
     walk_at "go"
     intro j hj
     by_cases e:j=i
     · rw [e];exact hin
     · exact hno j (by omega)
 · rintro σ H' ⟨v2,v3,rfl,sm,hno⟩
   rw [List.length_map,hA.1]at hno
   have smA:=sm1.trans sm
   walk_at "go"
   refine ⟨Z0,dx,fs,smA _ _ ho,T.Z6,T.Zl,_,hf.si,x.si,rfl,_,.inl (SqL.of (smA _ _ hT.si)),?_⟩
   rw [List.length_map]
   refine q s.zs.length H' smA (Nat.le_refl _) ⟨fun h=>absurd h (Nat.lt_irrefl _),fun h=>?_⟩ (Nat.le_of_eq (shx_no hno)) (Nat.le_of_eq (shx_no hno).symm)
   obtain ⟨j,hj,hjz⟩:=lvl_all (fun z h=>(hzz z h).1) hRs h
   exact absurd hjz (hno j hj)
theorem Z5b{f:Addr}{fd:FuncData}(F:Fun K "stored" "Tower.stored" Z0g f fd)(T:Txt K mg Z5 Z3 Z4 Z7 Z2 Z1 Z0)(Za:DefM P w K mg base (CXF P w) 4 Z2 "number_of" ["self","name"] (sp_tell 0 K Z2 Z3)):FnOk P w K mg base (CXF P w) 5 f fd ["self","name"] (sp78_stored K Z0 Z2 Z3):=by
 have sc:FnScope ["self","name"] ["self","name"] (defScope Z0g):=⟨rfl,rfl,rfl,by decide+kernel,rfl,by decide+kernel,by decide+kernel⟩
 refine F.okF sc (fun vs H Q E h=>?_) (fun cdv A outer s H vs Q E hr h=>?_)
 · obtain ⟨t,x,s,g,z,ts,B,hd,rfl,hT,hs,nd,hcase⟩:=h;rfl
 obtain ⟨t,x,s,g,z,ts,B,hd,rfl,hT,hs,nd,hcase⟩:=h
 refine ⟨_,(@pss_cons _ _ _ _ _ (ps_expr (pe_methS Za T.Zf hr (passS pass_onF) (pe_fld (pv 0) rfl) (pa_cons (pv 1) pa_nil)))
  (@pss_one _ _ _ (@ps_ret _ _ _ _ (pe_dget2 (hu_of hr) (pe_fld (pv 0) rfl) (pv 1) pe_int ⟨rfl,rfl,rfl,rfl⟩)))),?_⟩
 rw [show start ["self","name"] [V.ref t,V.str z]=[some (V.ref t),some (V.str z)] from rfl]
 rcases hcase with ⟨hz,hL,q⟩ | ⟨hz,qe⟩
 rotate_left
 · have line:=line_val
   obtain ⟨dx,fs,ho,hf⟩:=hT.o
   obtain ⟨dy,e,kvs,h1,h2,h3,h4,h5⟩:=StockAt.has hs.at
   walk_at "go"
   refine ⟨Z0,dx,fs,ho,T.Z6,T.Zk,_,hf.st,x.st,rfl,dy,flds e,h1,by rfl,x.st,rfl,ts,hs.at,nd,fun i t' ht' e'=>absurd (e'▸List.mem_map.mpr ⟨t',List.mem_of_getElem? ht',rfl⟩) hz,fun _ H' e sm he er=>?_⟩
   exact qe H' e sm he er
 have line:=line_val
 obtain ⟨dx,fs,ho,hf⟩:=hT.o
 obtain ⟨dy,e,kvs,h1,h2,h3,h4,h5⟩:=StockAt.has hs.at
 walk_at "go"
 refine ⟨Z0,dx,fs,ho,T.Z6,T.Zk,_,hf.st,x.st,rfl,dy,flds e,h1,by rfl,x.st,rfl,ts,hs.at,nd,fun i t' ht' e'=>?_,fun h=>absurd hz h⟩
 clear e' ht'
 walk_at "go"
 refine ⟨Z0,dx,fs,ho,T.Z6,T.Z07,_,hf.so,x.so,rfl,.inl ⟨_,.inl hT.so⟩,_,DGet.k (k:=Sum.inr z) hT.so,?_⟩
 have hst:=hL.st z
 cases hv:valV s.ks (Sum.inr z) with
 | none=>rw [hv]at hst;rw [← hst]at q;exact q
 | some v=>rw [hv]at hst;rw [← hst]at q;exact q
theorem Z5x{f:Addr}{fd:FuncData}(F:Fun K "fetch" "Tower.fetch" Z0u f fd)(T:Txt K mg Z5 Z3 Z4 Z7 Z2 Z1 Z0)(Ze:DefM P w K mg base (CXF P w) 4 Z2 "cost_of" ["self","name"] (sp_tell 1 K Z2 Z3))(Z9:DefM P w K mg base (CXF P w) 5 Z0 "stored" ["self","name"] (sp78_stored K Z0 Z2 Z3)):FnOk P w K mg base (CXF P w) 6 f fd ["self","word","name"] (sp74_fetch K Z0 Z2):=by
 have sc:FnScope ["self","word","name"] ["self","word","name"] (defScope Z0u):=⟨rfl,rfl,rfl,by decide+kernel,rfl,by decide+kernel,by decide+kernel⟩
 refine F.okF sc (fun vs H Q E h=>?_) (fun cdv A outer s H vs Q E hr h=>?_)
 · obtain ⟨t,x,s,g,w2,z,ts,B,p,rfl,hT,hs,nd,hz,hL,hB,q⟩:=h;rfl
 obtain ⟨t,x,s,g,w2,z,ts,B,p,rfl,hT,hs,nd,hz,hL,hB,q⟩:=h
 replace Ze:=Ze.weak fun _ _ _ _=>im_tell;replace Z9:=Z9.weak fun _ _ _ _=>im_stored
 refine ⟨_,(@pss_cons _ _ _ _ _ (ps_fldaug (pv 0) (pe_methS Ze T.Zf hr (passS pass_onF) (pe_fld (pv 0) rfl) (pa_cons (pv 2) pa_nil)) in_add)
  (@pss_cons _ _ _ _ _ (ps_expr (pe_bm PySem.F.plainAttrs_list PySem.F.slot_list_append PySem.F.type_list_append mt_append (pe_fld (pv 0) rfl) (pa_cons (pe_tup (pa_cons (pv 1) (pa_cons (pv 2) pa_nil))) pa_nil)))
  (@pss_one _ _ _ (ps_dput (hu_of hr) (pe_fld (pv 0) rfl) (pv 2) (pe_methS Z9 T.Z6 hr (passS pass_onF) (pv 0) (pa_cons (pv 2) pa_nil)) rfl)))),?_⟩
 rw [show start ["self","word","name"] [V.ref t,V.str w2,V.str z]=[some (V.ref t),some (V.str w2),some (V.str z)] from rfl]
 have line:=line_val
 obtain ⟨dx,fs,ho,hf⟩:=hT.o
 obtain ⟨dy,e,kvs,h1,h2,h3,h4,h5⟩:=StockAt.has hs.at
 walk_at "go"
 refine ⟨Z0,dx,fs,ho,T.Z6,T.Z0j,_,hf.pd,Z0,dx,fs,ho,T.Z6,T.Zk,_,hf.st,x.st,rfl,dy,flds e,h1,by rfl,x.st,rfl,ts,hs.at,nd,hz,fun i t' ht' e'=>⟨_,_,rfl,rfl,dx,fs,ho,by have:=hf.n;omega,?_⟩⟩
 have ec:pick 1 i t'=costOf ts z:=(costOf_at nd ht' e').symm
 rw [ec]
 clear e' ec
 have hT1:=hT.paid ho hf (s.pd+costOf ts z)
 have o1:Off (own t x) H (upd H t (.ins Z0 dx (putF (Str.ofString "paid") (.int (s.pd+costOf ts z)) fs))):=Off.put (by simp [own])
 generalize upd H t (.ins Z0 dx (putF (Str.ofString "paid") (.int (s.pd+costOf ts z)) fs))=H1 at hT1 o1 ⊢
 clear ht'
 obtain ⟨dx1,fs1,ho1,hf1⟩:=hT1.o
 have n4:=hL.n4
 walk_at "go"
 refine ⟨Z0,dx1,fs1,ho1,T.Z6,T.Zp,_,hf1.en,.inl ⟨rfl,_,SqL.of hT1.en⟩,by omega,fun u hu=>?_⟩
 have sm2:Same H1 (upd H1 u (.tup [.str w2,.str z])):=Same.new hu
 have hT2:=hT1.same sm2
 have hu2:upd H1 u (.tup [.str w2,.str z]) u=some (.tup [.str w2,.str z]):=upd_same
 have nue:u≠x.en:=(ne_of_none hT1.en hu).symm
 have o2:Off (own t x) H (upd H1 u (.tup [.str w2,.str z])):=o1.trans (.of sm2)
 generalize upd H1 u (.tup [.str w2,.str z])=H2 at hT2 o2 hu2 ⊢
 refine ⟨x.en,_,_,rfl,rfl,hT2.en,by show s.es.length < _;omega,?_⟩
 have hT3:=hT2.entry (s.es++[.ref u])
 have o3:Off (own t x) H (upd H2 x.en (.lst (s.es++[.ref u]))):=o2.trans (Off.put (by simp [own]))
 have hs3:=hs.off o3
 have hu3:upd H2 x.en (.lst (s.es++[.ref u])) u=some (.tup [.str w2,.str z]):=by rw [upd_ne nue];exact hu2
 have hst:=hL.st
 walk_at "go"
 show _
 generalize upd H2 x.en (.lst (s.es++[.ref u]))=H3 at hT3 o3 hs3 hu3 ⊢
 obtain ⟨dx3,fs3,ho3,hf3⟩:=hT3.o
 have hL3:=(hL.fetched (keepT hT o3) hu3 (by omega) (pd:=s.pd+costOf ts z))
 have oF:Off (own t x) H3 (upd H3 x.he (.dK (putK s.kh (Sum.inr z) (.int (g.st z))))):=Off.put (by simp [own])
 have n1:=hL.n1
 have hL2:=hL.noted (keepT hT o3) hu3 rfl (by omega) (pd:=s.pd+costOf ts z)
 have fin:=q {s with pd:=s.pd+costOf ts z,es:=s.es++[.ref u],kh:=putK s.kh (Sum.inr z) (.int (g.st z))} _ (o3.trans oF) (hT3.held (putK s.kh (Sum.inr z) (.int (g.st z)))) rfl rfl rfl rfl (hL3.off hT3 oF)
 exact ⟨dx3,fs3,ho3,hf3.m _ (by simp),x,_,hT3,_,ts,hs3,nd,hz,_,_,hL2,Z0,dx3,fs3,ho3,T.Z6,T.Zj,_,hf3.he,x.he,rfl,_,DPut.k (k:=Sum.inr z) hT3.he (by show s.kh.length < _;omega),fin⟩
theorem Z6f{f:Addr}{fd:FuncData}(F:Fun K "read" "Tower.read" Z1k f fd)(T:Txt K mg Z5 Z3 Z4 Z7 Z2 Z1 Z0)(Zc:DefM P w K mg base (CXF P w) 5 Z0 "shelf_of" ["self","name"] (sp78_shelf K Z0 Z2 Z3))(Z0z:DefM P w K mg base (CXF P w) 6 Z0 "fetch" ["self","word","name"] (sp74_fetch K Z0 Z2))(Z00:DefM P w K mg base (CXF P w) 4 Z0 "come" ["self","name"] (sp74_come Z0)):FnOk P w K mg base (CXF P w) 7 f fd ["self","name"] (sp78_read K Z0 Z2 Z3):=by
 have sc:FnScope ["self","name","place"] ["self","name"] (defScope Z1k):=⟨rfl,rfl,rfl,by decide+kernel,rfl,by decide+kernel,by decide+kernel⟩
 refine F.okF sc (fun vs H Q E h=>?_) (fun cdv A outer s H vs Q E hr h=>?_)
 · obtain ⟨t,x,s,g,z,ts,B,rfl,hG,hcase⟩:=h;rfl
 obtain ⟨t,x,s,g,z,ts,B,rfl,hG,hcase⟩:=h
 refine ⟨_,(@pss_cons _ _ _ _ _ (ps_set (i:=2) sc.nd rfl (Or.inl rfl) (pe_methS Zc T.Z6 hr (passS pass_onF) (pv 0) (pa_cons (pv 1) pa_nil)))
  (@pss_cons _ _ _ _ _ (ps_augS (pe_fld (pv 0) rfl) (pv 2) get_list pe_int ip_add set_list)
  (@pss_cons _ _ _ _ _ (ps_if (pt_cmpR op_eq (pv 2) (pe_callB call_len_seq rfl T.Zw PySem.boot_len (pa_cons (pe_fld (pv 0) rfl) pa_nil)) (nomark _))
   (@pss_one _ _ _ (ps_expr (pe_methS Z0z T.Z6 hr (passS pass_onF) (pv 0) (pa_cons pe_str (pa_cons (pv 1) pa_nil)))))
   pss_nil)
  (@pss_cons _ _ _ _ _ (ps_expr (pe_methS Z00 T.Z6 hr (passS pass_onF) (pv 0) (pa_cons (pv 1) pa_nil)))
  (@pss_one _ _ _ (@ps_ret _ _ _ _ (pe_dget (hu_of hr) (pe_fld (pv 0) rfl) (pv 1) (fun _ _=>rfl)))))))),?_⟩
 rw [show start ["self","name","place"] [V.ref t,V.str z]=[some (V.ref t),some (V.str z),none] from rfl]
 rcases hcase with ⟨hz,hB,q⟩ | ⟨hz,qe⟩
 rotate_left
 · have line:=line_val
   have hW:=hG.to
   obtain ⟨dx,fs,ho,hf⟩:=hW.tw.o
   walk_at "go"
   exact ⟨dx,fs,ho,hf.m _ (by simp),x,s,hW.tw,ts,hW.sk,hW.tn,.inr ⟨hz,qe⟩⟩
 have line:=line_val
 have hW:=hG.to
 obtain ⟨dx,fs,ho,hf⟩:=hW.tw.o
 walk_at "go"
 refine ⟨dx,fs,ho,hf.m _ (by simp),x,s,hW.tw,ts,hW.sk,hW.tn,.inl ⟨hz,hW.zl,hW.zz,hW.rs,fun k H1 sm1 hk hkR hk1 hk2=>?_⟩⟩
 have hT1:=hW.tw.same sm1
 have o1:Off (own t x) H H1:= .of sm1
 obtain ⟨dx1,fs1,ho1,hf1⟩:=hT1.o
 have hfl:=hW.ff
 have hgk:s.ff[k]?=some (s.ff.getD k 0):=getD_int (by omega)
 walk_at "go"
 refine ⟨Z0,dx1,fs1,ho1,T.Z6,T.Z01,_,hf1.fi,?_⟩
 refine ⟨x.fi,s.ff.map V.int,k,V.int (s.ff.getD k 0),rfl,rfl,SqL.of hT1.fi,by rw [List.getElem?_map,hgk];rfl,?_⟩
 walk_at "go"
 refine ⟨_,hT1.fi,k,by rw [List.length_map];exact ixN_at (by omega),?_⟩
 rw [← List.map_set]
 have hT2:=hT1.find (s.ff.set k (s.ff.getD k 0+1))
 have o2:Off (own t x) H (upd H1 x.fi (.lst ((s.ff.set k (s.ff.getD k 0+1)).map V.int))):=o1.trans (Off.put (by simp [own]))
 have hff2:(s.ff.set k (s.ff.getD k 0+1)).length=s.zs.length+1:=by rw [List.length_set];exact hfl
 have hfb:s.ff.set k (s.ff.getD k 0+1)=bump s.ff (shx s.zs s.R z)∧True:=⟨by rw [show shx s.zs s.R z=k by omega];rfl,trivial⟩
 generalize upd H1 x.fi (.lst ((s.ff.set k (s.ff.getD k 0+1)).map V.int))=H2 at hT2 o2 ⊢
 generalize s.ff.set k (s.ff.getD k 0+1)=ff2 at hT2 hff2 hfb
 have hs2:=hW.sk.off o2
 have hL2:=(hG.g.off hW.tw o2).cast (s':={s with ff:=ff2}) rfl rfl rfl rfl
 obtain ⟨dx2,fs2,ho2,hf2⟩:=hT2.o
 clear hT1 o1 ho1 hf1 hgk hfl
 walk_at "go"
 refine ⟨Z0,dx2,fs2,ho2,T.Z6,T.Zl,_,hf2.si,x.si,rfl,_,.inl (SqL.of hT2.si),?_⟩
 rw [List.length_map]
 rename_i rest hrest
 have key:∀(s3:TwS) (H3:Hp),Off (own t x) H H3→TwAt Z0 H3 t x s3→s3.R=s.R→s3.zs=s.zs→s3.ff=ff2→s3.pd=s.pd+(if z∈s.R then 0 else costOf ts z)→TwG H3 s3 (if z∈s.R then g else fetchG (Str.ofString "fetch") z g) (B+1) (fun y=>y∈s.R∨y=z)→rest [some (V.ref t),some (V.str z),some (V.int k)] H3:=by
  intro s3 H3 o3 hT3 eR eZ eF eP hL3
  obtain ⟨dx3,fs3,ho3,hf3⟩:=hT3.o
  have hrl:=hW.rl
  have hrs:=hW.rs
  have hs1:=hW.s1
  subst hrest
  walk_at "go"
  refine ⟨dx3,fs3,ho3,hf3.m _ (by simp),x,s3,hT3,_,B+1,by rw [eR];exact hL3,by omega,by rw [eR];exact hW.nd,by rw [eR];omega,by rw [eR,eZ];exact hrs,by rw [eZ];exact hs1,fun s4 H4 o4 hT4 eR4 eZ4 eF4 eP4 hL4=>?_⟩
  rw [eR,eZ]at hL4
  obtain ⟨dx4,fs4,ho4,hf4⟩:=hT4.o
  have eR5:s4.R=cameR z s:=by rw [eR4,eR,eZ];rfl
  have hzin:z∈s4.R:=by
   rw [eR5];unfold cameR
   obtain ⟨n,hn⟩:∃n,s.zs.sum.toNat=n+1:=⟨s.zs.sum.toNat - 1,by omega⟩
   rw [hn,List.take_succ_cons];exact List.mem_cons_self
  have hi:=hL4.h z hzin
  walk_at "go"
  refine ⟨Z0,dx4,fs4,ho4,T.Z6,T.Zj,_,hf4.he,x.he,rfl,.int ((readG s.zs.sum s.R z g).h z),by rw [← show valV s4.kh (Sum.inr z)=some (.int ((readG s.zs.sum s.R z g).h z)) from hi];exact DGet.k (k:=Sum.inr z) hT4.he,?_⟩
  have o5:=o3.trans o4
  exact q s4 H4 o5 ⟨tow_came hW hz o5 hT4 eR5 (by rw [eZ4,eZ]) hL4.toL (by rw [eF4];exact hff2),hL4⟩ eR5 (by rw [eZ4,eZ]) (by rw [eP4,eP]) (by rw [eF4];exact hfb.1)
 clear hrest
 have hl:=hW.l
 by_cases hk2:k=s.zs.length
 · rw [if_pos (by show (k:Int)=(s.zs.length:Int);omega)]
   have hzR:z∉s.R:=fun h=>by have:=hkR.mpr h;omega
   refine ⟨dx2,fs2,ho2,hf2.m _ (by simp),x,_,hT2,g,ts,hs2,hW.tn,hz,B,_,hL2,by omega,fun s3 H3 o3 hT3 e1 e2 e3 e4 hL3=>key s3 H3 (o2.trans o3) hT3 e1 e2 e3 (by rw [e4,if_neg hzR]) (by rw [if_neg hzR];exact hL3)⟩
 · rw [if_neg (by show ¬(k:Int)=(s.zs.length:Int);omega)]
   have hzR:z∈s.R:=hkR.mp (by omega)
   have hl2:=hL2.iff (q:=fun y=>y∈s.R∨y=z) (B':=B+1) (fun u=>⟨.inl,fun h=>h.elim id fun e=>by rw [e];exact hzR⟩) (by omega) (by omega)
   exact key _ H2 o2 hT2 rfl rfl rfl (by rw [if_pos hzR,Int.add_zero]) (by rw [if_pos hzR];exact hl2)
theorem Z6g{f:Addr}{fd:FuncData}(F:Fun K "keep" "Tower.keep" Z1l f fd)(T:Txt K mg Z5 Z3 Z4 Z7 Z2 Z1 Z0)(Zc:DefM P w K mg base (CXF P w) 5 Z0 "shelf_of" ["self","name"] (sp78_shelf K Z0 Z2 Z3))(Zm:Def P w K mg base (CXF P w) 2 "is_within" ["thing","least","most"] (N53.sp53_within K))(Z2z:DefM P w K mg base (CXF P w) 3 Z0 "settle" ["self","name"] (sp74_settle Z0 true))(Z00:DefM P w K mg base (CXF P w) 4 Z0 "come" ["self","name"] (sp74_come Z0)):FnOk P w K mg base (CXF P w) 7 f fd ["self","name","value"] (sp78_keep K Z0 Z2 Z3 Z4 true):=by
 have sc:FnScope ["self","name","value","place"] ["self","name","value"] (defScope Z1l):=⟨rfl,rfl,rfl,by decide+kernel,rfl,by decide+kernel,by decide+kernel⟩
 refine F.okF sc (fun vs H Q E h=>?_) (fun cdv A outer s H vs Q E hr h=>?_)
 · obtain ⟨t,x,s,g,z,vv,ts,B,rfl,hG,hcase⟩:=h;rfl
 obtain ⟨t,x,s,g,z,vv,ts,B,rfl,hG,hcase⟩:=h
 refine ⟨_,(@pss_cons _ _ _ _ _ (ps_set (i:=3) sc.nd rfl (Or.inl rfl) (pe_methS Zc T.Z6 hr (passS pass_onF) (pv 0) (pa_cons (pv 1) pa_nil)))
  (@pss_cons _ _ _ _ _ (ps_if (pt_not (pt_val (pe_callD Zm hr rfl pass_onF (pa_cons (pv 2) (pa_cons (pe_op op_sub pe_int (pe_op op_pow pe_int pe_int)) (pa_cons (pe_op op_pow pe_int pe_int) pa_nil))))))
   (@pss_one _ _ _ (ps_raiseF T.Z3g rfl T.k_NoNumber rfl rfl T.Z2h raisesF (pa_cons pe_str pa_nil)))
   pss_nil)
  (@pss_cons _ _ _ _ _ (ps_augS (pe_fld (pv 0) rfl) (pv 3) get_list pe_int ip_add set_list)
  (@pss_cons _ _ _ _ _ (ps_dput (hu_of hr) (pe_fld (pv 0) rfl) (pv 1) (pv 2) rfl)
  (@pss_cons _ _ _ _ _ (ps_expr (pe_methS Z2z T.Z6 hr (passS pass_onF) (pv 0) (pa_cons (pv 1) pa_nil)))
  (@pss_one _ _ _ (ps_expr (pe_methS Z00 T.Z6 hr (passS pass_onF) (pv 0) (pa_cons (pv 1) pa_nil))))))))),?_⟩
 rw [show start ["self","name","value","place"] [V.ref t,V.str z,vv]=[some (V.ref t),some (V.str z),some (vv),none] from rfl]
 rcases hcase with ⟨v,rfl,hv1,hv2,hz,hB,q⟩ | ⟨hz,qe⟩ | ⟨hz,hnv,hwv,qe⟩
 rotate_left
 · have line:=line_val
   have hW:=hG.to
   obtain ⟨dx,fs,ho,hf⟩:=hW.tw.o
   walk_at "go"
   exact ⟨dx,fs,ho,hf.m _ (by simp),x,s,hW.tw,ts,hW.sk,hW.tn,.inr ⟨hz,qe⟩⟩
 · have line:=line_val
   have hW:=hG.to
   obtain ⟨dx,fs,ho,hf⟩:=hW.tw.o
   walk_at "go"
   refine ⟨dx,fs,ho,hf.m _ (by simp),x,s,hW.tw,ts,hW.sk,hW.tn,.inl ⟨hz,hW.zl,hW.zz,hW.rs,fun k H1 sm1 hk hkR hk1 hk2=>?_⟩⟩
   rename_i rest hrest
   subst hrest
   walk_at "go"
   refine ⟨hnv.same sm1,?_⟩
   rw [if_pos (by rw [show (0:Int) - 10 ^ 30=-(10 ^ 30) by decide];exact hwv)]
   exact ⟨by omega,fun e he=>⟨N53.none_of sm1 he,qe _ e (sm1.trans (Same.new he)) (N53.none_of sm1 he) upd_same⟩⟩
 have line:=line_val
 have hW:=hG.to
 obtain ⟨dx,fs,ho,hf⟩:=hW.tw.o
 have hrl:=hW.rl
 have hrs:=hW.rs
 have hs1:=hW.s1
 walk_at "go"
 refine ⟨dx,fs,ho,hf.m _ (by simp),x,s,hW.tw,ts,hW.sk,hW.tn,.inl ⟨hz,hW.zl,hW.zz,hW.rs,fun k H1 sm1 hk hkR hk1 hk2=>?_⟩⟩
 have hT1:=hW.tw.same sm1
 have o1:Off (own t x) H H1:= .of sm1
 obtain ⟨dx1,fs1,ho1,hf1⟩:=hT1.o
 have hfl:=hW.ff
 have hgk:s.ff[k]?=some (s.ff.getD k 0):=getD_int (by omega)
 have hw:wIn (0 - 10 ^ 30) (10 ^ 30) (V.int v)=true:=by simp [wIn];omega
 walk_at "go"
 refine ⟨NumV.flat rfl,?_⟩
 rw [if_neg (by rw [hw];decide)]
 walk_at "go"
 refine ⟨Z0,dx1,fs1,ho1,T.Z6,T.Z01,_,hf1.fi,?_⟩
 refine ⟨x.fi,s.ff.map V.int,k,V.int (s.ff.getD k 0),rfl,rfl,SqL.of hT1.fi,by rw [List.getElem?_map,hgk];rfl,?_⟩
 walk_at "go"
 refine ⟨_,hT1.fi,k,by rw [List.length_map];exact ixN_at (by omega),?_⟩
 rw [← List.map_set]
 have hT2:=hT1.find (s.ff.set k (s.ff.getD k 0+1))
 have o2:Off (own t x) H (upd H1 x.fi (.lst ((s.ff.set k (s.ff.getD k 0+1)).map V.int))):=o1.trans (Off.put (by simp [own]))
 have hff2:(s.ff.set k (s.ff.getD k 0+1)).length=s.zs.length+1:=by rw [List.length_set];exact hfl
 have hfb:s.ff.set k (s.ff.getD k 0+1)=bump s.ff (shx s.zs s.R z)∧True:=⟨by rw [show shx s.zs s.R z=k by omega];rfl,trivial⟩
 generalize upd H1 x.fi (.lst ((s.ff.set k (s.ff.getD k 0+1)).map V.int))=H2 at hT2 o2 ⊢
 generalize s.ff.set k (s.ff.getD k 0+1)=ff2 at hT2 hff2 hfb
 have hL2:=(hG.g.off hW.tw o2).cast (s':={s with ff:=ff2}) rfl rfl rfl rfl
 obtain ⟨dx2,fs2,ho2,hf2⟩:=hT2.o
 clear hT1 o1 ho1 hf1 hgk hfl
 have n1:=hG.g.n1
 walk_at "go"
 refine ⟨Z0,dx2,fs2,ho2,T.Z6,T.Zj,_,hf2.he,x.he,rfl,_,DPut.k (k:=Sum.inr z) hT2.he (by show s.kh.length < _;omega),?_⟩
 have hT3:=hT2.held (putK s.kh (Sum.inr z) (.int v))
 have oP:Off (own t x) H2 (upd H2 x.he (.dK (putK s.kh (Sum.inr z) (.int v)))):=Off.put (by simp [own])
 have o3:=o2.trans oP
 have hL3:=(hL2.kept (z:=z) v (by omega)).off hT2 oP
 walk_at "go"
 show _
 generalize upd H2 x.he (.dK (putK s.kh (Sum.inr z) (.int v)))=H3 at hT3 o3 hL3 ⊢
 obtain ⟨dx3,fs3,ho3,hf3⟩:=hT3.o
 refine ⟨dx3,fs3,ho3,hf3.m _ (by simp),x,_,hT3,_,B+1,_,hL3,by omega,.inr rfl,fun s4 H4 o4 hT4 eR eZ eF eP hL4=>?_⟩
 obtain ⟨dx4,fs4,ho4,hf4⟩:=hT4.o
 have eR':s4.R=s.R:=eR
 have eZ':s4.zs=s.zs:=eZ
 have eP':s4.pd=s.pd:=eP
 have eF':s4.ff=ff2∧True:=⟨eF,trivial⟩
 clear eR eZ eF eP
 walk_at "go"
 refine ⟨dx4,fs4,ho4,hf4.m _ (by simp),x,s4,hT4,_,B+2,by rw [eR'];exact hL4,by omega,by rw [eR'];exact hW.nd,by rw [eR'];omega,by rw [eR',eZ'];exact hrs,by rw [eZ'];exact hs1,fun s5 H5 o5 hT5 eR5 eZ5 eF5 eP5 hL5=>?_⟩
 rw [eR',eZ']at hL5
 have eR6:s5.R=cameR z s:=by rw [eR5,eR',eZ'];rfl
 have o6:=(o3.trans o4).trans o5
 walk_at "go"
 exact q s5 H5 o6 ⟨tow_came hW hz o6 hT5 eR6 (by rw [eZ5,eZ']) hL5.toL (by rw [eF5,eF'.1];exact hff2),hL5⟩ eR6 (by rw [eZ5,eZ']) (by rw [eP5,eP']) (by rw [eF5,eF'.1];exact hfb.1)
theorem Z5y{f:Addr}{fd:FuncData}(F:Fun K "ahead" "Tower.ahead" Z0v f fd)(T:Txt K mg Z5 Z3 Z4 Z7 Z2 Z1 Z0)(Zc:DefM P w K mg base (CXF P w) 5 Z0 "shelf_of" ["self","name"] (sp78_shelf K Z0 Z2 Z3))(Z0z:DefM P w K mg base (CXF P w) 6 Z0 "fetch" ["self","word","name"] (sp74_fetch K Z0 Z2))(Z00:DefM P w K mg base (CXF P w) 4 Z0 "come" ["self","name"] (sp74_come Z0)):FnOk P w K mg base (CXF P w) 7 f fd ["self","name"] (sp78_ahead K Z0 Z2 Z3):=by
 have sc:FnScope ["self","name"] ["self","name"] (defScope Z0v):=⟨rfl,rfl,rfl,by decide+kernel,rfl,by decide+kernel,by decide+kernel⟩
 refine F.okF sc (fun vs H Q E h=>?_) (fun cdv A outer s H vs Q E hr h=>?_)
 · obtain ⟨t,x,s,g,z,ts,B,rfl,hG,hcase⟩:=h;rfl
 obtain ⟨t,x,s,g,z,ts,B,rfl,hG,hcase⟩:=h
 refine ⟨_,(@pss_cons _ _ _ _ _ (ps_if (pt_cmpR op_lt (pe_methS Zc T.Z6 hr (passS pass_onF) (pv 0) (pa_cons (pv 1) pa_nil)) (pe_callB call_len_seq rfl T.Zw PySem.boot_len (pa_cons (pe_fld (pv 0) rfl) pa_nil)) (nomark _))
  (@pss_one _ _ _ (@ps_ret _ _ _ _ pe_bl))
  pss_nil)
  (@pss_cons _ _ _ _ _ (ps_expr (pe_methS Z0z T.Z6 hr (passS pass_onF) (pv 0) (pa_cons pe_str (pa_cons (pv 1) pa_nil))))
  (@pss_cons _ _ _ _ _ (ps_expr (pe_methS Z00 T.Z6 hr (passS pass_onF) (pv 0) (pa_cons (pv 1) pa_nil)))
  (@pss_one _ _ _ (@ps_ret _ _ _ _ pe_bl))))),?_⟩
 rw [show start ["self","name"] [V.ref t,V.str z]=[some (V.ref t),some (V.str z)] from rfl]
 rcases hcase with ⟨hz,hB,q⟩ | ⟨hz,qe⟩
 rotate_left
 · have line:=line_val
   have hW:=hG.to
   obtain ⟨dx,fs,ho,hf⟩:=hW.tw.o
   walk_at "go"
   exact ⟨dx,fs,ho,hf.m _ (by simp),x,s,hW.tw,ts,hW.sk,hW.tn,.inr ⟨hz,qe⟩⟩
 have line:=line_val
 have hW:=hG.to
 obtain ⟨dx,fs,ho,hf⟩:=hW.tw.o
 have hrl:=hW.rl
 have hrs:=hW.rs
 have hs1:=hW.s1
 walk_at "go"
 refine ⟨dx,fs,ho,hf.m _ (by simp),x,s,hW.tw,ts,hW.sk,hW.tn,.inl ⟨hz,hW.zl,hW.zz,hW.rs,fun k H1 sm1 hk hkR hk1 hk2=>?_⟩⟩
 have hG1:=hG.same sm1
 have hT1:=hG1.to.tw
 have o1:Off (own t x) H H1:= .of sm1
 have hs2:=hW.sk.off o1
 obtain ⟨dx1,fs1,ho1,hf1⟩:=hT1.o
 refine ⟨Z0,dx1,fs1,ho1,T.Z6,T.Zl,_,hf1.si,x.si,rfl,_,.inl (SqL.of hT1.si),?_⟩
 rw [List.length_map]
 by_cases hk2:k < s.zs.length
 · rw [if_pos (by omega)]
   have hzR:=hkR.mp hk2
   have eG:aheadG s.zs.sum s.R z g=g:=by unfold aheadG;rw [if_pos hzR]
   have:=q s H1 o1 (by rw [eG];exact ⟨hG1.to.up (by omega) (by omega),hG1.g.iff (fun _=>Iff.rfl) (by omega) (by omega)⟩) (by rw [if_pos hzR]) rfl (by rw [if_pos hzR,Int.add_zero]) rfl
   rw [decide_eq_false (fun h=>h hzR)]at this
   exact this
 · rw [if_neg (by omega)]
   have hzR:¬z∈s.R:=fun h=>hk2 (hkR.mpr h)
   have eG:aheadG s.zs.sum s.R z g=comeG s.zs.sum s.R z (fetchG (Str.ofString "ahead") z g):=by unfold aheadG;rw [if_neg hzR]
   walk_at "go"
   refine ⟨dx1,fs1,ho1,hf1.m _ (by simp),x,_,hT1,g,ts,hs2,hW.tn,hz,B,_,hG1.g,by omega,fun s3 H3 o3 hT3 eR eZ eF eP hL3=>?_⟩
   obtain ⟨dx3,fs3,ho3,hf3⟩:=hT3.o
   walk_at "go"
   refine ⟨dx3,fs3,ho3,hf3.m _ (by simp),x,s3,hT3,_,B+1,by rw [eR];exact hL3,by omega,by rw [eR];exact hW.nd,by rw [eR];omega,by rw [eR,eZ];exact hrs,by rw [eZ];exact hs1,fun s4 H4 o4 hT4 eR4 eZ4 eF4 eP4 hL4=>?_⟩
   rw [eR,eZ]at hL4
   have eR5:s4.R=cameR z s:=by rw [eR4,eR,eZ];rfl
   have o5:=(o1.trans o3).trans o4
   walk_at "go"
   have:=q s4 H4 o5 (by rw [eG];exact ⟨tow_came hW hz o5 hT4 eR5 (by rw [eZ4,eZ]) hL4.toL (by rw [eF4,eF];exact hW.ff),hL4⟩) (by rw [eR5,if_neg hzR]) (by rw [eZ4,eZ]) (by rw [eP4,eP,if_neg hzR]) (by rw [eF4,eF])
   rw [decide_eq_true (show z∉s.R from hzR)]at this
   exact this
theorem Z6h{f:Addr}{fd:FuncData}(F:Fun K "rest" "Tower.rest" Z1m f fd)(T:Txt K mg Z5 Z3 Z4 Z7 Z2 Z1 Z0)(Zu:DefM P w K mg base (CXF P w) 2 Z0 "write" ["self","name"] (sp74_write Z0)):FnOk P w K mg base (CXF P w) 4 f fd ["self"] (sp79_rest K Z0 Z2):=by
 have sc:FnScope ["self","names","name"] ["self"] (defScope Z1m):=⟨rfl,rfl,rfl,by decide+kernel,rfl,by decide+kernel,by decide+kernel⟩
 refine F.okF sc (fun vs H Q E h=>?_) (fun cdv A outer s H vs Q E hr h=>?_)
 · obtain ⟨t,x,s,g,ts,B,rfl,hG,hB,q⟩:=h;rfl
 obtain ⟨t,x,s,g,ts,B,rfl,hG,hB,q⟩:=h
 refine ⟨_,(@pss_cons _ _ _ _ _ (ps_compI (i:=1) "name" [0] sc.nd rfl rfl rfl rfl (pi_list (pe_fld (pv 0) rfl)) (fun b=>(pt_cmp (pc_din (hu_of hr) (pv 0) (pe_fld (pv 1) rfl)))) (fun b=>(pv 0)))
  (@pss_cons _ _ _ _ _ (ps_for own_outF rfl (pi_list (pv 1)) (pg_name (i:=2) sc.nd rfl (Or.inl rfl))
   (@pss_one _ _ _ (ps_expr (pe_methS Zu T.Z6 hr (passS pass_onF) (pv 0) (pa_cons (pv 2) pa_nil)))))
  (@pss_cons _ _ _ _ _ (ps_fld (pv 0) pe_dnewK rfl)
  (@pss_one _ _ _ (@ps_ret _ _ _ _ (pe_callB call_len_seq rfl T.Zw PySem.boot_len (pa_cons (pv 1) pa_nil))))))),?_⟩
 rw [show start ["self","names","name"] [V.ref t]=[some (V.ref t),none,none] from rfl]
 have line:=line_val
 have hW:=hG.to
 obtain ⟨dx,fs,ho,hf⟩:=hW.tw.o
 have hrl:=hW.rl
 walk_at "go"
 refine ⟨Z0,dx,fs,ho,T.Z6,T.Zi,_,hf.ro,x.ro,rfl,⟨_,SqL.of hW.tw.ro⟩,compL_if (xs:=s.R.map V.str) (lateV s.kl) (fun v=>v) (SqL.of hW.tw.ro) (by rw [List.length_map];omega) ?_ ?_ ?_⟩
 · intro b v H5 QT hx sm q'
   obtain ⟨y,hy,rfl⟩:=List.mem_map.mp hx
   have q2:=q' H5 (Same.refl _)
   walk_at "go"
   exact ⟨Z0,dx,fs,sm _ _ ho,T.Z6,T.Zz,_,hf.la,x.la,rfl,_,DGet.k (k:=Sum.inr y) (sm _ _ hW.tw.la),q2⟩
 · intro b v H5 Q' hx _ sm q'
   obtain ⟨y,_,rfl⟩:=List.mem_map.mp hx
   walk_at "go"
   exact q' _ (Same.refl _)
 · intro D H1 hD sm1 hD1
   rw [filt_late,show (s.R.filter fun y=>(valV s.kl (Sum.inr y)).isSome)=s.R.filter g.l by congr 1;funext y;exact hG.g.l y]at hD1
   have hns:∀y∈s.R.filter g.l,y∈s.R:=fun y hy=>(List.mem_filter.mp hy).1
   have hnl:(s.R.filter g.l).length≤59:=Nat.le_trans (List.length_filter_le _ _) hrl
   have hrG:restG s.R g={writesG (s.R.filter g.l) g with l:=fun _=>false}:=rfl
   generalize s.R.filter g.l=ns at hD1 hns hnl hrG q
   have hT1:=hW.tw.same sm1
   have o1:Off (own t x) H H1:= .of sm1
   have hDo:∀b∈own t x,D≠b:=fun b hb e=>by
    have hb':b=t∨b=x.ro∨b=x.he∨b=x.la∨b=x.so∨b=x.en∨b=x.fi:=by simpa [own] using hb
    have hT0:=hW.tw
    rcases hb' with h | h | h | h | h | h | h <;> rw [e,h]at hD
    · rw [ho]at hD;cases hD
    · rw [hT0.ro]at hD;cases hD
    · rw [hT0.he]at hD;cases hD
    · rw [hT0.la]at hD;cases hD
    · rw [hT0.so]at hD;cases hD
    · rw [hT0.en]at hD;cases hD
    · rw [hT0.fi]at hD;cases hD
   walk_at "go"
   refine ⟨⟨_,SqL.of hD1⟩,?_⟩
   rename_i rest hrest
   refine forL_by (xs:=ns.map V.str) (fun i σ H'=>∃(s':TwS) (v2:Option V),σ=[some (V.ref t),some (V.ref D),v2]∧Off (own t x) H H'∧H' D=some (.lst (ns.map V.str))∧TwAt Z0 H' t x s'∧s'.R=s.R∧s'.zs=s.zs∧s'.ff=s.ff∧s'.pd=s.pd∧TwG H' s' (writesG (ns.take i) g) (B+i) (fun y=>y∈s.R)) ⟨s,none,rfl,o1,hD1,hT1,rfl,rfl,rfl,rfl,hG.g.same sm1⟩ (fun i σ H' _ h_=>by obtain ⟨s',v2,_,_,hD',_⟩:=h_;exact SqL.of hD') ?_ ?_
   · rintro i v σ H' hv ⟨s',v2,rfl,o',hD',hT',e1,e2,e3,e4,hL'⟩
     have hi:i < ns.length:=by
      have:=(List.getElem?_eq_some_iff.mp hv).1
      rw [List.length_map]at this;exact this
     rw [List.getElem?_map,getD_str hi]at hv
     cases hv
     have hyR:=hns _ (List.mem_of_getElem? (getD_str hi))
     have htk:writesG (ns.take (i+1)) g=(writesG (ns.take i) g).write (ns.getD i Str.empty):=by
      rw [List.take_succ,getD_str hi];unfold writesG;rw [List.foldl_append];rfl
     generalize ns.getD i Str.empty=y at hyR htk ⊢
     obtain ⟨dx',fs',ho',hf'⟩:=hT'.o
     walk_at "go"
     refine ⟨dx',fs',ho',hf'.m _ (by simp),x,s',hT',_,B+i,_,hL',by omega,hyR,fun s2 H2 o2 hT2 f1 f2 f3 f4 _ hL2=>?_⟩
     walk_at "go"
     exact ⟨o'.trans o2,o2 _ _ hD' (fun h=>hDo _ h rfl),s2,hT2,f1.trans e1,f2.trans e2,f3.trans e3,f4.trans e4,by rw [htk];exact hL2⟩
   · rintro σ H' ⟨s',v2,rfl,o',hD',hT',e1,e2,e3,e4,hL'⟩
     obtain ⟨dx',fs',ho',hf'⟩:=hT'.o
     rw [List.length_map,List.take_length]at hL'
     walk_at "go"
     intro l hl0
     refine ⟨Z0,dx',fs',by rw [upd_ne (ne_of_none ho' hl0)];exact ho',T.Z6,T.Zz,by have:=hf'.n;omega,?_⟩
     have hTn:=hT'.newLate ho' hf' hl0
     have oN:Off (own t x) H' (upd (upd H' l (.dK [])) t (.ins Z0 dx' (putF (Str.ofString "late") (.ref l) fs'))):=(Off.of (Same.new hl0)).trans (Off.put (by simp [own]))
     have hlH:H l=none:=by
      cases e:H l with
      | none=>rfl
      | some o=>
       by_cases hin:l∈own t x
       · have hb':l=t∨l=x.ro∨l=x.he∨l=x.la∨l=x.so∨l=x.en∨l=x.fi:=by simpa [own] using hin
         rcases hb' with h | h | h | h | h | h | h <;> rw [h]at hl0
         · rw [ho']at hl0;cases hl0
         · rw [hT'.ro]at hl0;cases hl0
         · rw [hT'.he]at hl0;cases hl0
         · rw [hT'.la]at hl0;cases hl0
         · rw [hT'.so]at hl0;cases hl0
         · rw [hT'.en]at hl0;cases hl0
         · rw [hT'.fi]at hl0;cases hl0
       · rw [o' _ _ e hin]at hl0;cases hl0
     have hDN:=oN _ _ hD' (fun h=>hDo _ h rfl)
     generalize upd (upd H' l (.dK [])) t (.ins Z0 dx' (putF (Str.ofString "late") (.ref l) fs'))=HN at hTn oN hDN ⊢
     have oA:=o'.trans oN
     have hown:∀b∈own t {x with la:=l},b∈own t x++[l]:=fun b hb=>by
      have hb':b=t∨b=x.ro∨b=x.he∨b=l∨b=x.so∨b=x.en∨b=x.fi:=by simpa [own] using hb
      simp only [own,List.mem_append,List.mem_cons,List.not_mem_nil,or_false]
      rcases hb' with h | h | h | h | h | h | h <;> simp [h]
     have hsN:StockT K Z2 HN x.st ts (own t {x with la:=l}):=((hW.sk.mono (L':=own t x++[l]) (fun b hb=>by rcases List.mem_append.mp hb with h | h;(· exact .inl h);(· rw [List.mem_singleton.mp h];exact .inr hlH))).off (oA.mono fun b hb=>List.mem_append_left _ hb)).mono fun b hb=> .inl (hown b hb)
     walk_at "go"
     refine ⟨_,.inl (SqL.of hDN),?_⟩
     have hGn:=(hL'.noLate).off hT' oN
     rw [← hrG]at hGn
     rw [List.length_map]
     refine q {x with la:=l} {s' with kl:=[]} HN oA (fun b hb=>?_) ⟨⟨hTn,hsN,?_,by show s'.R.Nodup;rw [e1];exact hW.nd,by show (s'.R.length:Int)≤s'.zs.sum;rw [e1,e2];exact hW.rs,by show 1≤s'.zs.length;rw [e2];exact hW.z1,by show s'.zs.length≤6;rw [e2];exact hW.zl,by show ∀z∈s'.zs,_;rw [e2];exact hW.zz,by show ∀y∈s'.R,_;rw [e1];exact hW.rn,hW.tn,hW.tl,by show s'.ff.length=s'.zs.length+1;rw [e2,e3];exact hW.ff⟩,?_⟩ e1 e2 e4 e3 rfl rfl
     · rcases List.mem_append.mp (hown b hb) with h | h
       · exact .inl h
       · rw [List.mem_singleton.mp h];exact .inr hlH
     · show TwL _ _ (fun y=>y∈s'.R)
       exact (hGn.iff (q:=fun y=>y∈s'.R) (B':=B+100) (fun u=>by rw [e1]) (by omega) (by omega)).toL
     · show TwG _ _ _ _ (fun y=>y∈s'.R)
       exact hGn.iff (q:=fun y=>y∈s'.R) (B':=B+100) (fun u=>by rw [e1]) (by omega) (by omega)
theorem Z5z{f:Addr}{fd:FuncData}(F:Fun K "diary" "Tower.diary" Z0w f fd)(T:Txt K mg Z5 Z3 Z4 Z7 Z2 Z1 Z0):FnOk P w K mg base (CXF P w) 1 f fd ["self"] (sp74_diary Z0):=by
 have sc:FnScope ["self"] ["self"] (defScope Z0w):=⟨rfl,rfl,rfl,by decide+kernel,rfl,by decide+kernel,by decide+kernel⟩
 refine F.okF sc (fun vs H Q E h=>?_) (fun cdv A outer s H vs Q E hr h=>?_)
 · obtain ⟨t,x,s,rfl,hT,hn,q⟩:=h;rfl
 obtain ⟨t,x,s,rfl,hT,hn,q⟩:=h
 refine ⟨_,(@pss_one _ _ _ (@ps_ret _ _ _ _ (pe_callTy call_list_of rfl T.Z1y (by first | rfl | decide+kernel) (pa_cons (pe_fld (pv 0) rfl) pa_nil)))),?_⟩
 rw [show start ["self"] [V.ref t]=[some (V.ref t)] from rfl]
 have line:=line_val
 obtain ⟨dx,fs,ho,hf⟩:=hT.o
 walk_at "go"
 exact ⟨Z0,dx,fs,ho,T.Z6,T.Zp,_,hf.en,x.en,rfl,_,.inl (SqL.of hT.en),fun l hl=>q l _ hl (Same.new hl) upd_same⟩
theorem Z60{f:Addr}{fd:FuncData}(F:Fun K "found" "Tower.found" Z0x f fd)(T:Txt K mg Z5 Z3 Z4 Z7 Z2 Z1 Z0):FnOk P w K mg base (CXF P w) 1 f fd ["self"] (sp79_found Z0):=by
 have sc:FnScope ["self"] ["self"] (defScope Z0x):=⟨rfl,rfl,rfl,by decide+kernel,rfl,by decide+kernel,by decide+kernel⟩
 refine F.okF sc (fun vs H Q E h=>?_) (fun cdv A outer s H vs Q E hr h=>?_)
 · obtain ⟨t,x,s,rfl,hT,q⟩:=h;rfl
 obtain ⟨t,x,s,rfl,hT,q⟩:=h
 refine ⟨_,(@pss_one _ _ _ (@ps_ret _ _ _ _ (pe_callTy call_list_of rfl T.Z1y (by first | rfl | decide+kernel) (pa_cons (pe_fld (pv 0) rfl) pa_nil)))),?_⟩
 rw [show start ["self"] [V.ref t]=[some (V.ref t)] from rfl]
 have line:=line_val
 obtain ⟨dx,fs,ho,hf⟩:=hT.o
 walk_at "go"
 exact ⟨Z0,dx,fs,ho,T.Z6,T.Z01,_,hf.fi,x.fi,rfl,_,.inl (SqL.of hT.fi),fun l hl=>q l _ hl (Same.new hl) upd_same⟩
theorem Z61{f:Addr}{fd:FuncData}(F:Fun K "spent" "Tower.spent" Z0y f fd)(T:Txt K mg Z5 Z3 Z4 Z7 Z2 Z1 Z0):FnOk P w K mg base (CXF P w) 1 f fd ["self"] (sp75_spent Z0):=by
 have sc:FnScope ["self"] ["self"] (defScope Z0y):=⟨rfl,rfl,rfl,by decide+kernel,rfl,by decide+kernel,by decide+kernel⟩
 refine F.okF sc (fun vs H Q E h=>?_) (fun cdv A outer s H vs Q E hr h=>?_)
 · obtain ⟨t,x,s,rfl,hT,q⟩:=h;rfl
 obtain ⟨t,x,s,rfl,hT,q⟩:=h
 refine ⟨_,(@pss_one _ _ _ (@ps_ret _ _ _ _ (pe_fld (pv 0) rfl))),?_⟩
 rw [show start ["self"] [V.ref t]=[some (V.ref t)] from rfl]
 obtain ⟨dx,fs,ho,hf⟩:=hT.o
 walk_at "go"
 exact ⟨Z0,dx,fs,ho,T.Z6,T.Z0j,_,hf.pd,q⟩
theorem Z6i{f:Addr}{fd:FuncData}(F:Fun K "__init__" "Tower.__init__" Z1n f fd)(T:Txt K mg Z5 Z3 Z4 Z7 Z2 Z1 Z0)(Z1q:Def P w K mg base (CXF P w) 4 "check_sizes" ["sizes"] (sp78_sizes K Z4))(Z1r:Def P w K mg base (CXF P w) 5 "check_rooms" ["stock","asks"] (sp78_rooms K Z2 Z7))(Z1s:DefM P w K mg base (CXF P w) 1 Z2 "names" ["self"] (sp_nms K Z2)):FnOk P w K mg base (CXF P w) 6 f fd ["self","stock","sizes"] (sp78_init K Z0 Z2 Z4 Z7):=by
 have sc:FnScope ["self","stock","sizes"] ["self","stock","sizes"] (defScope Z1n):=⟨rfl,rfl,rfl,by decide+kernel,rfl,by decide+kernel,by decide+kernel⟩
 refine F.okF sc (fun vs H Q E h=>?_) (fun cdv A outer s H vs Q E hr h=>?_)
 · obtain ⟨t,dx,p,a,ts,xs,rfl,ht,hs,nd,htl,hS,hxl,hxn,hnl,hcase⟩:=h;rfl
 obtain ⟨t,dx,p,a,ts,xs,rfl,ht,hs,nd,htl,hS,hxl,hxn,hnl,hcase⟩:=h
 refine ⟨_,(@pss_cons _ _ _ _ _ (ps_expr (pe_callD Z1q hr rfl pass_onF (pa_cons (pv 2) pa_nil)))
  (@pss_cons _ _ _ _ _ (ps_expr (pe_callD Z1r hr rfl pass_onF (pa_cons (pv 1) (pa_cons (pe_methS0 Z1s T.Zf hr (passS pass_onF) (pv 1)) pa_nil))))
  (@pss_cons _ _ _ _ _ (ps_fld (pv 0) (pv 1) rfl)
  (@pss_cons _ _ _ _ _ (ps_fld (pv 0) (pe_callTy call_list_of rfl T.Z1y (by first | rfl | decide+kernel) (pa_cons (pv 2) pa_nil)) rfl)
  (@pss_cons _ _ _ _ _ (ps_fld (pv 0) (@pe_lst _ _ _ _ pa_nil) rfl)
  (@pss_cons _ _ _ _ _ (ps_fld (pv 0) pe_dnewK rfl)
  (@pss_cons _ _ _ _ _ (ps_fld (pv 0) pe_dnewK rfl)
  (@pss_cons _ _ _ _ _ (ps_fld (pv 0) pe_dnewK rfl)
  (@pss_cons _ _ _ _ _ (ps_fld (pv 0) (@pe_lst _ _ _ _ pa_nil) rfl)
  (@pss_cons _ _ _ _ _ (ps_fld (pv 0) (pe_op op_rep (@pe_lst _ _ _ _ (pa_cons pe_int pa_nil)) (pe_op op_add (pe_callB call_len_seq rfl T.Zw PySem.boot_len (pa_cons (pv 2) pa_nil)) pe_int)) rfl)
  (@pss_one _ _ _ (ps_fld (pv 0) pe_int rfl)))))))))))),?_⟩
 rw [show start ["self","stock","sizes"] [V.ref t,V.ref p,V.ref a]=[some (V.ref t),some (V.ref p),some (V.ref a)] from rfl]
 rcases hcase with ⟨zs,rfl,hr1,hz1,hz6,hzz,q⟩ | ⟨hbad,qe⟩ | ⟨hok,hbad,qe⟩
 rotate_left
 · have line:=line_val
   walk_at "go"
   exact ⟨xs,hS,hxl,hxn,.inr ⟨hbad,qe⟩⟩
 · have line:=line_val
   obtain ⟨dy,e,kvs,h1,h2,h3,h4,h5⟩:=StockAt.has hs
   walk_at "go"
   refine ⟨xs,hS,hxl,hxn,.inl ⟨hok,?_⟩⟩
   rename_i rest hrest
   subst hrest
   walk_at "go"
   refine ⟨dy,flds e,h1,by rfl,ts,hs,fun l hl=>?_⟩
   obtain ⟨t0,ht0,hne⟩:=hbad
   exact ⟨ts,hs.same (Same.new hl),nd,ts.map (·.1),SqL.of upd_same,fun y hy=>hy,by rw [List.length_map];omega,hnl,.inr ⟨⟨t0.1,List.mem_map.mpr ⟨t0,ht0,rfl⟩,fun u hu e=>by rw [th_uniq nd hu ht0 e];exact hne⟩,fun H' e sm he er=>qe H' e ((Same.new hl).trans sm) (N53.none_of (Same.new hl) he) er⟩⟩
 have line:=line_val
 obtain ⟨dy,e,kvs,h1,h2,h3,h4,h5⟩:=StockAt.has hs
 walk_at "go"
 refine ⟨zs.map V.int,hS,hxl,hxn,.inl ⟨szok_of hz1 hz6 hzz,?_⟩⟩
 walk_at "go"
 refine ⟨dy,flds e,h1,by rfl,ts,hs,fun l hl=>?_⟩
 have sm1:Same H (upd H l (.lst ((ts.map (·.1)).map V.str))):=Same.new hl
 refine ⟨ts,hs.same sm1,nd,ts.map (·.1),SqL.of upd_same,fun y hy=>hy,by rw [List.length_map];omega,hnl,.inl ⟨hr1,?_⟩⟩
 have ht1:=sm1 _ _ ht
 have hs1:=StockT.of (hs.same sm1)
 have hS1:=sm1.seq hS
 have nw:∀b,upd H l (.lst ((ts.map (·.1)).map V.str)) b=none→H b=none:=fun b hb=>by
  cases q:H b with
  | none=>rfl
  | some o=>rw [sm1 _ _ q]at hb;cases hb
 generalize upd H l (.lst ((ts.map (·.1)).map V.str))=H1 at sm1 ht1 hs1 hS1 nw ⊢
 walk_at "go"
 refine ⟨Z0,dx,[],ht1,T.Z6,T.Zk,by decide,?_⟩
 have sbA:SameBut t H1 (upd H1 t (.ins Z0 dx (putF (Str.ofString "stock") (V.ref p) []))):=sameBut_upd
 have htA:upd H1 t (.ins Z0 dx (putF (Str.ofString "stock") (V.ref p) [])) t=some (.ins Z0 dx (putF (Str.ofString "stock") (V.ref p) [])):=upd_same
 have hSA:=SqL.but sbA ht1 hS1
 walk_at "go"
 show _
 generalize upd H1 t (.ins Z0 dx (putF (Str.ofString "stock") (V.ref p) []))=HA at sbA htA hSA ⊢
 intro si hsi
 refine ⟨Z0,dx,_,by rw [upd_ne (ne_of_none htA hsi)];exact htA,T.Z6,T.Zl,Nat.lt_of_le_of_lt (putF_le (Nat.le_refl _)) (by decide),?_⟩
 obtain ⟨sb1,ht2,hsi1,k1,nsi,tsi,d1⟩:=step_new (o:= .lst (zs.map V.int)) (f:=Str.ofString "sizes") sbA htA hsi
 walk_at "go"
 show _
 generalize upd (upd HA si (.lst (zs.map V.int))) t (.ins Z0 dx (putF (Str.ofString "sizes") (V.ref si) (putF (Str.ofString "stock") (V.ref p) [])))=HB0 at sb1 ht2 k1 hsi1 ⊢
 intro ro hron
 refine ⟨Z0,dx,_,by rw [upd_ne (ne_of_none ht2 hron)];exact ht2,T.Z6,T.Zi,Nat.lt_of_le_of_lt (putF_le (putF_le (Nat.le_refl _))) (by decide),?_⟩
 obtain ⟨sb2,ht3,hro2,k2,nro,tro,d2⟩:=step_new (o:= .lst []) (f:=Str.ofString "row") sb1 ht2 hron
 have hsi2:=k2 _ _ hsi1 tsi
 have ne_ro_si:ro≠si:=(d2 _ _ hsi1).symm
 walk_at "go"
 show _
 generalize upd (upd HB0 ro (.lst [])) t (.ins Z0 dx (putF (Str.ofString "row") (V.ref ro) (putF (Str.ofString "sizes") (V.ref si) (putF (Str.ofString "stock") (V.ref p) []))))=HB1 at sb2 ht3 k2 hsi2 hro2 ⊢
 intro he hhen
 refine ⟨Z0,dx,_,by rw [upd_ne (ne_of_none ht3 hhen)];exact ht3,T.Z6,T.Zj,Nat.lt_of_le_of_lt (putF_le (putF_le (putF_le (Nat.le_refl _)))) (by decide),?_⟩
 obtain ⟨sb3,ht4,hhe3,k3,nhe,the,d3⟩:=step_new (o:= .dK []) (f:=Str.ofString "held") sb2 ht3 hhen
 have hsi3:=k3 _ _ hsi2 tsi
 have ne_he_si:he≠si:=(d3 _ _ hsi2).symm
 have hro3:=k3 _ _ hro2 tro
 have ne_he_ro:he≠ro:=(d3 _ _ hro2).symm
 walk_at "go"
 show _
 generalize upd (upd HB1 he (.dK [])) t (.ins Z0 dx (putF (Str.ofString "held") (V.ref he) (putF (Str.ofString "row") (V.ref ro) (putF (Str.ofString "sizes") (V.ref si) (putF (Str.ofString "stock") (V.ref p) [])))))=HB2 at sb3 ht4 k3 hsi3 hro3 hhe3 ⊢
 intro la hlan
 refine ⟨Z0,dx,_,by rw [upd_ne (ne_of_none ht4 hlan)];exact ht4,T.Z6,T.Zz,Nat.lt_of_le_of_lt (putF_le (putF_le (putF_le (putF_le (Nat.le_refl _))))) (by decide),?_⟩
 obtain ⟨sb4,ht5,hla4,k4,nla,tla,d4⟩:=step_new (o:= .dK []) (f:=Str.ofString "late") sb3 ht4 hlan
 have hsi4:=k4 _ _ hsi3 tsi
 have ne_la_si:la≠si:=(d4 _ _ hsi3).symm
 have hro4:=k4 _ _ hro3 tro
 have ne_la_ro:la≠ro:=(d4 _ _ hro3).symm
 have hhe4:=k4 _ _ hhe3 the
 have ne_la_he:la≠he:=(d4 _ _ hhe3).symm
 walk_at "go"
 show _
 generalize upd (upd HB2 la (.dK [])) t (.ins Z0 dx (putF (Str.ofString "late") (V.ref la) (putF (Str.ofString "held") (V.ref he) (putF (Str.ofString "row") (V.ref ro) (putF (Str.ofString "sizes") (V.ref si) (putF (Str.ofString "stock") (V.ref p) []))))))=HB3 at sb4 ht5 k4 hsi4 hro4 hhe4 hla4 ⊢
 intro so hson
 refine ⟨Z0,dx,_,by rw [upd_ne (ne_of_none ht5 hson)];exact ht5,T.Z6,T.Z07,Nat.lt_of_le_of_lt (putF_le (putF_le (putF_le (putF_le (putF_le (Nat.le_refl _)))))) (by decide),?_⟩
 obtain ⟨sb5,ht6,hso5,k5,nso,tso,d5⟩:=step_new (o:= .dK []) (f:=Str.ofString "store") sb4 ht5 hson
 have hsi5:=k5 _ _ hsi4 tsi
 have ne_so_si:so≠si:=(d5 _ _ hsi4).symm
 have hro5:=k5 _ _ hro4 tro
 have ne_so_ro:so≠ro:=(d5 _ _ hro4).symm
 have hhe5:=k5 _ _ hhe4 the
 have ne_so_he:so≠he:=(d5 _ _ hhe4).symm
 have hla5:=k5 _ _ hla4 tla
 have ne_so_la:so≠la:=(d5 _ _ hla4).symm
 walk_at "go"
 show _
 generalize upd (upd HB3 so (.dK [])) t (.ins Z0 dx (putF (Str.ofString "store") (V.ref so) (putF (Str.ofString "late") (V.ref la) (putF (Str.ofString "held") (V.ref he) (putF (Str.ofString "row") (V.ref ro) (putF (Str.ofString "sizes") (V.ref si) (putF (Str.ofString "stock") (V.ref p) [])))))))=HB4 at sb5 ht6 k5 hsi5 hro5 hhe5 hla5 hso5 ⊢
 intro en henn
 refine ⟨Z0,dx,_,by rw [upd_ne (ne_of_none ht6 henn)];exact ht6,T.Z6,T.Zp,Nat.lt_of_le_of_lt (putF_le (putF_le (putF_le (putF_le (putF_le (putF_le (Nat.le_refl _))))))) (by decide),?_⟩
 obtain ⟨sb6,ht7,hen6,k6,nen,ten,d6⟩:=step_new (o:= .lst []) (f:=Str.ofString "entries") sb5 ht6 henn
 have hsi6:=k6 _ _ hsi5 tsi
 have ne_en_si:en≠si:=(d6 _ _ hsi5).symm
 have hro6:=k6 _ _ hro5 tro
 have ne_en_ro:en≠ro:=(d6 _ _ hro5).symm
 have hhe6:=k6 _ _ hhe5 the
 have ne_en_he:en≠he:=(d6 _ _ hhe5).symm
 have hla6:=k6 _ _ hla5 tla
 have ne_en_la:en≠la:=(d6 _ _ hla5).symm
 have hso6:=k6 _ _ hso5 tso
 have ne_en_so:en≠so:=(d6 _ _ hso5).symm
 walk_at "go"
 show _
 generalize upd (upd HB4 en (.lst [])) t (.ins Z0 dx (putF (Str.ofString "entries") (V.ref en) (putF (Str.ofString "store") (V.ref so) (putF (Str.ofString "late") (V.ref la) (putF (Str.ofString "held") (V.ref he) (putF (Str.ofString "row") (V.ref ro) (putF (Str.ofString "sizes") (V.ref si) (putF (Str.ofString "stock") (V.ref p) []))))))))=HB5 at sb6 ht7 k6 hsi6 hro6 hhe6 hla6 hso6 hen6 ⊢
 intro l0 hl0
 have hS5:=SqL.but sb6 ht1 hS1
 have smz:Same HB5 (upd HB5 l0 (.lst [V.int 0])):=Same.new hl0
 have sbz:SameBut t H1 (upd HB5 l0 (.lst [V.int 0])):=sb6.trans (.of smz)
 have hlz:upd HB5 l0 (.lst [V.int 0]) l0=some (.lst [V.int 0]):=upd_same
 have htz:=smz _ _ ht7
 have hsiz:=smz _ _ hsi6
 have hroz:=smz _ _ hro6
 have hhez:=smz _ _ hhe6
 have hlaz:=smz _ _ hla6
 have hsoz:=smz _ _ hso6
 have henz:=smz _ _ hen6
 have hSz:=smz.seq hS5
 generalize upd HB5 l0 (.lst [V.int 0])=HZ at sbz hlz htz hsiz hroz hhez hlaz hsoz henz hSz ⊢
 refine ⟨_,.inl hSz,?_⟩
 rw [List.length_map]
 refine ⟨l0,_,_,rfl,rfl,hlz,by omega,by omega,by simp;omega,fun fi hfi=>?_⟩
 rw [rep0]
 refine ⟨Z0,dx,_,by rw [upd_ne (ne_of_none htz hfi)];exact htz,T.Z6,T.Z01,Nat.lt_of_le_of_lt (putF_le (putF_le (putF_le (putF_le (putF_le (putF_le (putF_le (Nat.le_refl _)))))))) (by decide),?_⟩
 obtain ⟨sb7,ht8,hfi7,k7,nfi,tfi,d7⟩:=step_new (o:= .lst ((List.replicate (zs.length+1) (0:Int)).map V.int)) (f:=Str.ofString "finds") sbz htz hfi
 have hsi7:=k7 _ _ hsiz tsi
 have hro7:=k7 _ _ hroz tro
 have hhe7:=k7 _ _ hhez the
 have hla7:=k7 _ _ hlaz tla
 have hso7:=k7 _ _ hsoz tso
 have hen7:=k7 _ _ henz ten
 have ne_fi_si:=(d7 _ _ hsiz).symm
 have ne_fi_ro:=(d7 _ _ hroz).symm
 have ne_fi_en:=(d7 _ _ henz).symm
 walk_at "go"
 refine ⟨Z0,dx,_,ht8,T.Z6,T.Z0j,Nat.lt_of_le_of_lt (putF_le (putF_le (putF_le (putF_le (putF_le (putF_le (putF_le (putF_le (Nat.le_refl _))))))))) (by decide),?_⟩
 have kz:∀b u,HZ b=some u→upd HZ fi (.lst ((List.replicate (zs.length+1) (0:Int)).map V.int)) b=some u:=fun b u e=>by rw [upd_ne (ne_of_none e hfi)];exact e
 refine q ⟨p,si,ro,he,la,so,en,fi⟩ ⟨zs,[],[],[],[],[],List.replicate (zs.length+1) 0,0⟩ _ (fun b o e nb=>?_) ⟨?_,?_⟩ rfl rfl rfl rfl rfl (fun b hb=>?_)
 · rw [upd_ne nb];exact kz _ _ (sbz _ _ (sm1 _ _ e) nb)
 · have hfin:∀u:HO,SameBut t H1 (upd (upd HZ fi (.lst ((List.replicate (zs.length+1) (0:Int)).map V.int))) t u):=fun u b o e nb=>by rw [upd_ne nb];exact kz _ _ (sbz _ _ e nb)
   refine ⟨⟨⟨dx,f6 ⟨p,si,ro,he,la,so,en,fi⟩,upd_same,tfs_init _⟩,by rw [upd_ne tsi];exact kz _ _ hsiz,by rw [upd_ne tro];exact kz _ _ hroz,by rw [upd_ne the];exact kz _ _ hhez,by rw [upd_ne tla];exact kz _ _ hlaz,by rw [upd_ne tso];exact kz _ _ hsoz,by rw [upd_ne ten];exact kz _ _ henz,by rw [upd_ne tfi];exact upd_same,ne_la_he.symm,ne_so_he.symm,ne_so_la.symm,ne_ro_si,ne_en_ro.symm,ne_fi_ro.symm,ne_en_si.symm,ne_fi_si.symm,ne_fi_en.symm⟩,?_,⟨(fun y hy=>by cases hy),(fun y hy=>by cases hy),(fun y v hv=>by cases hv),Nat.zero_le _,Nat.zero_le _,Nat.zero_le _,Nat.zero_le _,by decide⟩,List.nodup_nil,?_,hz1,hz6,hzz,(fun y hy=>by cases hy),nd,htl,by simp⟩
   · refine ((hs1.ins ht1).mono fun b hb=>?_).off fun b o e n=>hfin _ b o e fun z=>n (by rw [z];simp [own])
     have hb':b=t∨b=ro∨b=he∨b=la∨b=so∨b=en∨b=fi:=by simpa [own] using hb
     rcases hb' with h | h | h | h | h | h | h <;> rw [h]
     · exact .inl List.mem_cons_self
     · exact .inr nro
     · exact .inr nhe
     · exact .inr nla
     · exact .inr nso
     · exact .inr nen
     · exact .inr nfi
   · have h4:=pre_nn (zs:=zs) (fun z hz=>(hzz z hz).1) zs.length
     unfold pre at h4
     rw [List.take_length]at h4
     exact h4
 · exact ⟨(fun y hy=>by cases hy),(fun y=>rfl),(fun y hy=>by cases hy),(fun y=>rfl),⟨[],rfl,rfl,fun i u e h=>by simp at h⟩,Nat.zero_le _,Nat.zero_le _,Nat.zero_le _,Nat.zero_le _,by decide,(fun e he=>by cases he)⟩
 · have hb':b=si∨b=t∨b=ro∨b=he∨b=la∨b=so∨b=en∨b=fi:=by simpa [own] using hb
   rcases hb' with h | h | h | h | h | h | h | h <;> rw [h]
   · exact .inr (nw _ nsi)
   · exact .inl rfl
   · exact .inr (nw _ nro)
   · exact .inr (nw _ nhe)
   · exact .inr (nw _ nla)
   · exact .inr (nw _ nso)
   · exact .inr (nw _ nen)
   · exact .inr (nw _ nfi)
theorem Z6y{f:Addr}{fd:FuncData}(F:Fun K "_law_cell_at" "_law_cell_at" Z2a f fd)(T:Txt K mg Z5 Z3 Z4 Z7 Z2 Z1 Z0):FnOk P w K mg base (CXF P w) 1 f fd ["_law_script","_law_k"] (sp_cell K):=by
 have sc:FnScope ["_law_script","_law_k"] ["_law_script","_law_k"] (defScope Z2a):=⟨rfl,rfl,rfl,by decide+kernel,rfl,by decide+kernel,by decide+kernel⟩
 refine F.okF sc (fun vs H Q E h=>?_) (fun cdv A outer s H vs Q E hr h=>?_)
 · obtain ⟨a,ns,k,rfl,hS,h0,hl,q⟩:=h;rfl
 obtain ⟨a,ns,k,rfl,hS,h0,hl,q⟩:=h
 refine ⟨_,(@pss_cons _ _ _ _ _ (ps_if (pt_cmpR op_lt (pv 1) (pe_callB call_len_seq rfl T.Zw PySem.boot_len (pa_cons (pv 0) pa_nil)) (nomark _))
  (@pss_one _ _ _ (@ps_ret _ _ _ _ (@pe_ix _ _ _ _ _ _ _ ix_list (pv 0) (pv 1) (fun _ _=>rfl))))
  pss_nil)
  (@pss_one _ _ _ (@ps_ret _ _ _ _ pe_int))),?_⟩
 rw [show start ["_law_script","_law_k"] [V.ref a,V.int k]=[some (V.ref a),some (V.int k)] from rfl]
 walk_at "go"
 rw [List.length_map]
 split
 · rename_i hk
   exact ixL_of hS (atI_of h0 (getMap (by omega))) q
 · rename_i hk
   rw [List.getD_eq_getElem?_getD,List.getElem?_eq_none (by omega)]at q
   walk_at "go"
   exact q
theorem Z8y{f:Addr}{fd:FuncData}(F:Fun K "_law_mix" "_law_mix" Z3m f fd)(T:Txt K mg Z5 Z3 Z4 Z7 Z2 Z1 Z0):FnOk P w K mg base (CXF P w) 1 f fd ["_law_cell","_law_k"] (sp75_mix):=by
 have sc:FnScope ["_law_cell","_law_k","_law_number"] ["_law_cell","_law_k"] (defScope Z3m):=⟨rfl,rfl,rfl,by decide+kernel,rfl,by decide+kernel,by decide+kernel⟩
 refine F.okF sc (fun vs H Q E h=>?_) (fun cdv A outer s H vs Q E hr h=>?_)
 · obtain ⟨c,k,rfl,hk0,hk1,q⟩:=h;rfl
 obtain ⟨c,k,rfl,hk0,hk1,q⟩:=h
 refine ⟨_,(@pss_cons _ _ _ _ _ (ps_set (i:=2) sc.nd rfl (Or.inl rfl) (pe_op op_add (pe_op op_add (pe_op op_mod (pv 0) pe_int) (pe_op op_mul pe_int (pv 1))) pe_int))
  (@pss_one _ _ _ (@ps_ret _ _ _ _ (pe_op op_mod (pe_op op_mul (pe_op op_mod (pe_op op_mulB (pv 2) (pv 2)) pe_int) pe_int) pe_int)))),?_⟩
 rw [show start ["_law_cell","_law_k","_law_number"] [V.int c,V.int k]=[some (V.int c),some (V.int k),none] from rfl]
 have hx0:=Int.emod_nonneg c (show (1000000007:Int)≠0 by decide)
 have hx1:=Int.emod_lt_of_pos c (show (0:Int) < 1000000007 by decide)
 unfold mixF at q
 walk_at "go"
 have big:(c % 1000000007+7919 * k+1).natAbs < 10 ^ 100:=by omega
 generalize c % 1000000007+7919 * k+1=u at big q ⊢
 have hy0:=Int.emod_nonneg (u * u) (show (2147483647:Int)≠0 by decide)
 have hy1:=Int.emod_lt_of_pos (u * u) (show (0:Int) < 2147483647 by decide)
 exact ⟨⟨big,big⟩,by decide,cmul_r (by omega) (by omega),by decide,q (Int.emod_nonneg _ (by decide)) (Int.emod_lt_of_pos _ (by decide))⟩
theorem Z7o{f:Addr}{fd:FuncData}(F:Fun K "_law_names" "_law_names" Z2t f fd)(T:Txt K mg Z5 Z3 Z4 Z7 Z2 Z1 Z0):FnOk P w K mg base (CXF P w) 1 f fd ["_law_cell","_law_many"] (sp12_names):=by
 have sc:FnScope ["_law_cell","_law_many","_law_letters","_law_long","_law_at","_law_names_here","_law_k","_law_name","_law_j","_law_signs","_law_sign"] ["_law_cell","_law_many"] (defScope Z2t):=⟨rfl,rfl,rfl,by decide+kernel,rfl,by decide+kernel,by decide+kernel⟩
 refine F.okF sc (fun vs H Q E h=>?_) (fun cdv A outer s H vs Q E hr h=>?_)
 · obtain ⟨i,m,rfl,hm,q⟩:=h;rfl
 obtain ⟨i,m,rfl,hm,q⟩:=h
 refine ⟨_,(@pss_cons _ _ _ _ _ (ps_set (i:=2) sc.nd rfl (Or.inl rfl) pe_str)
  (@pss_cons _ _ _ _ _ (ps_set (i:=3) sc.nd rfl (Or.inl rfl) (pe_op op_add pe_int (pe_op op_mod (pv 0) pe_int)))
  (@pss_cons _ _ _ _ _ (ps_set (i:=4) sc.nd rfl (Or.inl rfl) (pe_op op_mod (pe_op op_fdiv (pv 0) pe_int) (pv 3)))
  (@pss_cons _ _ _ _ _ (ps_set (i:=5) sc.nd rfl (Or.inl rfl) (@pe_lst _ _ _ _ pa_nil))
  (@pss_cons _ _ _ _ _ (ps_for own_outF rfl (pi_range1 rfl T.Z2p (pa_cons (pv 1) pa_nil)) (pg_name (i:=6) sc.nd rfl (Or.inl rfl))
   (@pss_cons _ _ _ _ _ (ps_set (i:=7) sc.nd rfl (Or.inl rfl) pe_str)
   (@pss_cons _ _ _ _ _ (ps_for own_outF rfl (pi_range1 rfl T.Z2p (pa_cons (pv 3) pa_nil)) (pg_name (i:=8) sc.nd rfl (Or.inl rfl))
    (@pss_cons _ _ _ _ _ (ps_set (i:=9) sc.nd rfl (Or.inl rfl) (pv 2))
    (@pss_cons _ _ _ _ _ (ps_if (pt_cmpR op_gt (pv 8) pe_int (nomark _))
     (@pss_one _ _ _ (ps_set (i:=9) sc.nd rfl (Or.inl rfl) (pe_op op_add_str (pv 2) pe_str)))
     pss_nil)
    (@pss_cons _ _ _ _ _ (ps_set (i:=10) sc.nd rfl (Or.inl rfl) (pe_op op_add (pe_op op_fdivB (pv 0) (pe_op op_add pe_int (pe_op op_mul pe_int (pv 8)))) (pe_op op_mulB (pe_callTy call_int1 rfl T.Z42 (by first | rfl | decide+kernel) (pa_cons (pe_cmpR op_eq (pv 8) (pv 4) (nomark _)) pa_nil)) (pv 6))))
    (@pss_one _ _ _ (ps_set (i:=7) sc.nd rfl (Or.inl rfl) (pe_op op_add_str (pv 7) (@pe_ix _ _ _ _ _ _ _ ix_str (pv 9) (pe_op op_mod (pv 10) (pe_callB call_len_str rfl T.Zw PySem.boot_len (pa_cons (pv 9) pa_nil))) (fun _ _=>rfl)))))))))
   (@pss_one _ _ _ (ps_expr (pe_bm PySem.F.plainAttrs_list PySem.F.slot_list_append PySem.F.type_list_append mt_append (pv 5) (pa_cons (pv 7) pa_nil)))))))
  (@pss_cons _ _ _ _ _ (ps_if (PW.pt (pw_and (pt_cmpR op_gt (pv 1) pe_int (nomark _)) (pw_and (pt_cmpR op_lt (pv 3) pe_int (nomark _)) (pw_and1 (pt_cmpR op_eq (pe_op op_mod (pe_op op_fdiv (pv 0) pe_int) pe_int) pe_int (nomark _))))))
   (@pss_one _ _ _ (ps_asg (pe_op op_add_str (@pe_ix _ _ _ _ _ _ _ ix_list (pv 5) pe_int (fun _ _=>rfl)) pe_str) (pg_sub (pv 5) (pe_op op_sub (pv 1) pe_int) set_list)))
   pss_nil)
  (@pss_one _ _ _ (@ps_ret _ _ _ _ (pv 5))))))))),?_⟩
 rw [show start ["_law_cell","_law_many","_law_letters","_law_long","_law_at","_law_names_here","_law_k","_law_name","_law_j","_law_signs","_law_sign"] [V.int i,V.int m]=[some (V.int i),some (V.int m),none,none,none,none,none,none,none,none,none] from rfl]
 have line:=line_val
 have ll:=let_len
 have fl:=fig_len
 have bl:=both_length
 have hL1:1≤(1+i % 8).toNat:=by omega
 have hL8:(1+i % 8).toNat≤8:=by omega
 have h8:(1+i % 8)=((1+i % 8).toNat:Int):=by omega
 walk_at "go"
 rw [h8]
 clear h8
 generalize (1+i % 8).toNat=L at hL1 hL8 ⊢
 have ha0:=Int.emod_nonneg (i / 8) (show (L:Int)≠0 by omega)
 have ha1:=Int.emod_lt_of_pos (i / 8) (show (0:Int) < L by omega)
 walk_at "go"
 generalize i / 8 % (L:Int)=at' at ha0 ha1 ⊢
 intro p hp
 walk_at "go"
 refine forR_by (fun k σ H'=>∃(v6 v7 v8 v9 v10:Option V),σ=[some (V.int i),some (V.int m),some (V.str (Str.ofString "abcdefghijklmnopqrstuvwxyz")),some (V.int L),some (V.int at'),some (V.ref p),v6,v7,v8,v9,v10]∧H'=upd H p (.lst (((List.range k).map fun k=>tx (nm3 (fun j:Nat=>i.fdiv (64+7 * (j:Int))) at' L k)).map V.str))) ⟨none,none,none,none,none,rfl,rfl⟩ ?_ ?_
 · rintro k σ H' hk ⟨v6,v7,v8,v9,v10,rfl,rfl⟩
   have hlen:(((List.range k).map fun k=>tx (nm3 (fun j:Nat=>i.fdiv (64+7 * (j:Int))) at' L k)).map V.str).length=k:=by simp
   walk_at "go"
   rename_i rest hrest
   refine forR_by (fun j σ H'=>∃(v8 v9 v10:Option V),σ=[some (V.int i),some (V.int m),some (V.str (Str.ofString "abcdefghijklmnopqrstuvwxyz")),some (V.int L),some (V.int at'),some (V.ref p),some (V.int k),some (V.str (tx (nmL (fun j:Nat=>i.fdiv (64+7 * (j:Int))) at' j k))),v8,v9,v10]∧H'=upd H p (.lst (((List.range k).map fun k=>tx (nm3 (fun j:Nat=>i.fdiv (64+7 * (j:Int))) at' L k)).map V.str))) ⟨v8,v9,v10,rfl,rfl⟩ ?_ ?_
   · rintro j σ H' hj ⟨v8,v9,v10,rfl,rfl⟩
     have hzl:(tx (nmL (fun j:Nat=>i.fdiv (64+7 * (j:Int))) at' j k)).length≤8:=by rw [T_len,nmL_len];omega
     rw [nmL_succ]
     generalize upd H p (.lst (((List.range k).map fun k=>tx (nm3 (fun j:Nat=>i.fdiv (64+7 * (j:Int))) at' L k)).map V.str))=Hp'
     generalize nmL (fun j:Nat=>i.fdiv (64+7 * (j:Int))) at' j k=zl at hzl ⊢
     unfold sgn md
     walk_at "go"
     rename_i rest hrest
     have key2:∀(z:Str) (M:Nat),0 < M→M≤36→z.length=M→(∀x:Int,atI z.cps.toList (x % M)=some (bc (x % M)))→(M:Int)=(if j=0 then 26 else 36)→rest [some (V.int i),some (V.int m),some (V.str (Str.ofString "abcdefghijklmnopqrstuvwxyz")),some (V.int L),some (V.int at'),some (V.ref p),some (V.int k),some (V.str (tx zl)),some (V.int j),some (V.str z),v10] Hp':=by
      intro z M hM0 hM1 hzM hix hMj
      subst hrest
      rw [← hMj]
      clear hMj
      walk_at "go"
      refine ⟨⟨by split <;> decide,by omega⟩,?_⟩
      walk_at "go"
      refine ixS_of (by omega) (hix _) ⟨_,rfl,by rw [len_one];omega,?_,rfl⟩
      have e:(if (j:Int)=at' then (1:Int) else 0) * k=if (j:Int)=at' then (k:Int) else 0:=by split <;> simp
      rw [T_one,T_app,e]
     clear hrest
     split
     · rename_i hj0
       refine ⟨by omega,?_⟩
       rw [both_app]
       exact key2 _ 36 (by decide) (by decide) bl (fun x=>ix_bc x (by decide) (by decide)) (by rw [if_neg (by omega)];rfl)
     · rename_i hj0
       exact key2 _ 26 (by decide) (by decide) ll (fun x=>ix_let x) (by rw [if_pos (by omega)];rfl)
   · rintro σ H' ⟨v8,v9,v10,rfl,rfl⟩
     subst hrest
     walk_at "go"
     have hz3:tx (nmL (fun j:Nat=>i.fdiv (64+7 * (j:Int))) at' L k)=tx (nm3 (fun j:Nat=>i.fdiv (64+7 * (j:Int))) at' L k)∧True:=by
      unfold nm3
      rw [if_neg (by omega),List.append_nil]
      exact ⟨rfl,trivial⟩
     rw [hz3.1]
     refine ⟨.inl ⟨rfl,_,SqL.of upd_same⟩,p,_,_,rfl,rfl,upd_same,by rw [hlen];omega,?_⟩
     walk_at "go"
     congr 2
     rw [List.range_succ,List.map_append,List.map_append]
     rfl
 · rintro σ H' ⟨v6,v7,v8,v9,v10,rfl,rfl⟩
   have ndA:((List.range m).map fun k=>tx (nm3 (fun j:Nat=>i.fdiv (64+7 * (j:Int))) at' L k)).Nodup:=tx_nodup fun a b ha hb e=>nm3_inj ha0 ha1 (by omega) (by omega) e
   have nmA:∀y∈(List.range m).map fun k=>tx (nm3 (fun j:Nat=>i.fdiv (64+7 * (j:Int))) at' L k),nameB y.cps.toList=true∧y.length≤L∧L≤y.length:=fun y hy=>by
    obtain ⟨k,hk,rfl⟩:=List.mem_map.mp hy
    have:=List.mem_range.mp hk
    rw [T_list,T_len]
    have e:nm3 (fun j:Nat=>i.fdiv (64+7 * (j:Int))) at' L k=nmL (fun j:Nat=>i.fdiv (64+7 * (j:Int))) at' L k:=by unfold nm3;rw [if_neg (by omega),List.append_nil]
    refine ⟨nm3_name hL1 hL8 (fun h=>by omega) (by omega),?_⟩
    rw [e,nmL_len];omega
   have lnA:((List.range m).map fun k=>tx (nm3 (fun j:Nat=>i.fdiv (64+7 * (j:Int))) at' L k)).length≤m∧m≤((List.range m).map fun k=>tx (nm3 (fun j:Nat=>i.fdiv (64+7 * (j:Int))) at' L k)).length:=by simp
   generalize ((List.range m).map fun k=>tx (nm3 (fun j:Nat=>i.fdiv (64+7 * (j:Int))) at' L k))=ys at ndA nmA lnA ⊢
   walk_at "go"
   rename_i rest hrest
   have key:∀zs:List Str,zs.length≤m→m≤zs.length→zs.Nodup→(∀y∈zs,nameB y.cps.toList=true)→rest [some (V.int i),some (V.int m),some (V.str (Str.ofString "abcdefghijklmnopqrstuvwxyz")),some (V.int L),some (V.int at'),some (V.ref p),v6,v7,v8,v9,v10] (upd H p (.lst (zs.map V.str))):=by
    intro zs g1 g2 g3 g4
    subst hrest
    walk_at "go"
    exact q p zs _ hp (Same.new hp) upd_same g1 g2 g3 g4
   clear hrest
   have key0:=key ys lnA.1 lnA.2 ndA fun y hy=>(nmA y hy).1
   split
   · rename_i hm1
     split
     · rename_i hL7
       refine ⟨cdiv_of (by decide) (by decide),by decide,?_⟩
       split
       · have h0:ys[0]?=some (ys.getD 0 Str.empty):=by rw [List.getD_eq_getElem?_getD,List.getElem?_eq_getElem (by omega)];rfl
         have hin:=List.mem_of_getElem? h0
         obtain ⟨n1,n2,n3⟩:=nmA _ hin
         obtain ⟨sv,sl⟩:=seven
         refine ixL_of (SqL.of upd_same) (v:=V.str (ys.getD 0 Str.empty)) (atI_of (by decide) (by rw [show (0:Int).toNat=0 from rfl,List.getElem?_map,h0];rfl)) ⟨_,rfl,by omega,?_⟩
         generalize ys.getD 0 Str.empty=y0 at n1 n2 n3 ⊢
         walk_at "go"
         refine ⟨_,upd_same,m - 1,?_,?_⟩
         · rw [List.length_map,show ((m:Int) - 1)=((m - 1:Nat):Int) by omega]
           exact ixN_at (by omega)
         · walk_at "go"
           have hzl:(y0++Str.ofString "7").length=y0.length+1∧True:=⟨by rw [← str_len,app_list,List.length_append,str_len,sv];rfl,trivial⟩
           rw [← List.map_set]
           refine key _ (by rw [List.length_set];omega) (by rw [List.length_set];omega) (nodup_set ndA (fun h=>by have:=nmA _ h;omega) _) fun y hy=>?_
           rcases List.mem_or_eq_of_mem_set hy with h | h
           · exact (nmA y h).1
           · rw [h,app_list,sv]
             exact name_more n1 (by rw [str_len];omega) (by decide)
       · exact key0
     · exact key0
   · exact key0
theorem Z7p{f:Addr}{fd:FuncData}(F:Fun K "_law_value" "_law_value" Z2u f fd)(T:Txt K mg Z5 Z3 Z4 Z7 Z2 Z1 Z0)(Z3n:Def P w K mg base (CXF P w) 1 "_law_mix" ["_law_cell","_law_k"] (sp75_mix)):FnOk P w K mg base (CXF P w) 2 f fd ["_law_cell","_law_k"] (sp75_value):=by
 have sc:FnScope ["_law_cell","_law_k","_law_number"] ["_law_cell","_law_k"] (defScope Z2u):=⟨rfl,rfl,rfl,by decide+kernel,rfl,by decide+kernel,by decide+kernel⟩
 refine F.okF sc (fun vs H Q E h=>?_) (fun cdv A outer s H vs Q E hr h=>?_)
 · obtain ⟨c,k,rfl,hk,q⟩:=h;rfl
 obtain ⟨c,k,rfl,hk,q⟩:=h
 refine ⟨_,(@pss_cons _ _ _ _ _ (ps_set (i:=2) sc.nd rfl (Or.inl rfl) (pe_callD Z3n hr rfl pass_onF (pa_cons (pv 0) (pa_cons (pv 1) pa_nil))))
  (@pss_cons _ _ _ _ _ (ps_if (pt_cmpR op_eq (pe_op op_mod (pv 2) pe_int) pe_int (nomark _))
   (@pss_one _ _ _ (@ps_ret _ _ _ _ (@pe_ix _ _ _ _ _ _ _ ix_list (@pe_lst _ _ _ _ (pa_cons (pe_op op_pow pe_int pe_int) (pa_cons (pe_un un_neg (pe_op op_pow pe_int pe_int)) (pa_cons pe_int pa_nil)))) (pe_op op_mod (pe_op op_fdiv (pv 2) pe_int) pe_int) (fun _ _=>rfl))))
   pss_nil)
  (@pss_cons _ _ _ _ _ (ps_if (pt_cmpR op_eq (pe_op op_mod (pv 2) pe_int) pe_int (nomark _))
   (@pss_one _ _ _ (@ps_ret _ _ _ _ (pe_op op_sub (pe_op op_mod (pe_op op_fdiv (pv 2) pe_int) pe_int) pe_int)))
   pss_nil)
  (@pss_one _ _ _ (@ps_ret _ _ _ _ (pe_op op_sub (pe_op op_mod (pe_op op_pow (pv 2) pe_int) (pe_op op_add (pe_op op_mul pe_int (pe_op op_pow pe_int pe_int)) pe_int)) (pe_op op_pow pe_int pe_int))))))),?_⟩
 rw [show start ["_law_cell","_law_k","_law_number"] [V.int c,V.int k]=[some (V.int c),some (V.int k),none] from rfl]
 have line:=line_val
 walk_at "go"
 intro hv hv1
 generalize mixF c (k:Int)=v at hv hv1 q ⊢
 walk_at "go"
 by_cases h5:v % 11=5
 · rw [if_pos h5]
   have hq:∀(H':Hp),Same H H'→Q (.int (valL (v / 11 % 3))) H':=fun H' sm=>by
    have e:valM v=valL (v / 11 % 3):=if_pos h5
    rw [e]at q
    refine q H' ?_ ?_ sm
    · unfold valL;split;(· decide);split;(· decide);decide
    · unfold valL;split;(· decide);split;(· decide);decide
   refine ⟨cpow_of (by omega) (by omega) (by decide),cpow_of (by omega) (by omega) (by decide),by omega,fun p hp=>⟨cdiv_of (by omega) (by omega),by decide,?_⟩⟩
   have h3:v / 11 % 3=0∨v / 11 % 3=1∨v / 11 % 3=2:=by omega
   rcases h3 with e | e | e
   · rw [e]at hq ⊢;exact ixL_of (SqL.of upd_same) (v:=V.int (10 ^ 30)) rfl (hq _ (Same.new hp))
   · rw [e]at hq ⊢;exact ixL_of (SqL.of upd_same) (v:=V.int (-10 ^ 30)) rfl (hq _ (Same.new hp))
   · rw [e]at hq ⊢;exact ixL_of (SqL.of upd_same) (v:=V.int 0) rfl (hq _ (Same.new hp))
 · rw [if_neg h5]
   rename_i rest hrest
   subst hrest
   walk_at "go"
   by_cases h3:v % 3=0
   · rw [if_pos h3]
     have e:valM v=v / 3 % 7 - 3:=by unfold valM;rw [if_neg h5,if_pos h3]
     rw [e]at q
     exact ⟨cdiv_of (by omega) (by omega),by decide,q _ (by omega) (by omega) (Same.refl H)⟩
   · rw [if_neg h3]
     have e:valM v=v ^ 5 % (2 * 10 ^ 30+1) - 10 ^ 30:=by unfold valM;rw [if_neg h5,if_neg h3]
     rw [e]at q
     have hb0:=Int.emod_nonneg (v ^ 5) (show (2 * 10 ^ 30+1:Int)≠0 by decide)
     have hb1:=Int.emod_lt_of_pos (v ^ 5) (show (0:Int) < 2 * 10 ^ 30+1 by decide)
     rename_i rest hrest
     subst hrest
     walk_at "go"
     refine ⟨cpow_of (by omega) (by omega) (by omega),cpow_of (by omega) (by omega) (by decide),.inl ⟨by decide,by decide⟩,by decide,cpow_of (by omega) (by omega) (by decide),?_⟩
     generalize v ^ 5 % (2 * 10 ^ 30+1)=u at hb0 hb1 q ⊢
     exact q _ (by omega) (by omega) (Same.refl H)
theorem Z7q{f:Addr}{fd:FuncData}(F:Fun K "_law_tower" "_law_tower" Z2v f fd)(T:Txt K mg Z5 Z3 Z4 Z7 Z2 Z1 Z0)(Z3o:DefI P w K mg base (CXF P w) 6 "Tower" Z1 ["self","stock","sizes"] (sp78_init K Z1 Z2 Z4 Z7))(Z3d:DefI P w K mg base (CXF P w) 6 "Prompt" Z0 ["self","stock","sizes"] (sp78_init K Z0 Z2 Z4 Z7)):FnOk P w K mg base (CXF P w) 8 f fd ["_law_stock","_law_sizes","_law_prompt"] (sp78_ltower K Z1 Z0 Z2 Z4 Z7):=by
 have sc:FnScope ["_law_stock","_law_sizes","_law_prompt"] ["_law_stock","_law_sizes","_law_prompt"] (defScope Z2v):=⟨rfl,rfl,rfl,by decide+kernel,rfl,by decide+kernel,by decide+kernel⟩
 refine F.okF sc (fun vs H Q E h=>?_) (fun cdv A outer s H vs Q E hr h=>?_)
 · obtain ⟨p,a,i,ts,xs,rfl,mp,hcase⟩:=h;rfl
 obtain ⟨p,a,i,ts,xs,rfl,mp,hcase⟩:=h
 refine ⟨_,(@pss_cons _ _ _ _ _ (ps_if (pt_cmpR op_eq (pv 2) pe_int (nomark _))
  (@pss_one _ _ _ (@ps_ret _ _ _ _ (pe_makeS Z3d hr rfl (passS pass_onF) (pa_cons (pv 0) (pa_cons (pv 1) pa_nil)))))
  pss_nil)
  (@pss_one _ _ _ (@ps_ret _ _ _ _ (pe_makeS Z3o hr rfl (passS pass_onF) (pa_cons (pv 0) (pa_cons (pv 1) pa_nil)))))),?_⟩
 rw [show start ["_law_stock","_law_sizes","_law_prompt"] [V.ref p,V.ref a,V.int i]=[some (V.ref p),some (V.ref a),some (V.int i)] from rfl]
 have line:=line_val
 walk_at "go"
 split
 · rename_i hi1
   walk_at "go"
   intro t dx ht hdx ne
   have smx:Same H (upd (upd H dx (.own t)) t (.ins Z0 dx [])):=fun b o e=>by rw [upd_ne (ne_of_none e ht),upd_ne (ne_of_none e hdx)];exact e
   refine ⟨dx,upd_same,ts,mp.s.same smx,mp.nd,mp.tl,xs,smx.seq mp.a,mp.xl,fun v hv=>(mp.xn v hv).same smx,mp.nl,?_⟩
   rcases hcase with ⟨zs,⟨ez,hr1,hz1,hz6,hzz⟩,q⟩ | ⟨hbad,qe⟩ | ⟨hok,hbad,qe⟩
   · refine .inl ⟨zs,ez,hr1,hz1,hz6,hzz,fun x s H' sb tow e1 e2 e3 e4 e5 hown=>q Z0 t x s H' (same_made ht hdx sb) ⟨.inl ⟨hi1,rfl⟩,tow,e1,e2,e3,e4,e5,fun b hb=>?_⟩⟩
     rcases hown b hb with h | h
     · rw [h];exact ht
     · cases e:H b with
       | none=>rfl
       | some o=>rw [smx _ _ e]at h;cases h
   · exact .inr (.inl ⟨hbad,qe.same smx⟩)
   · exact .inr (.inr ⟨hok,hbad,qe.same smx⟩)
 · rename_i hi1
   walk_at "go"
   intro t dx ht hdx ne
   have smx:Same H (upd (upd H dx (.own t)) t (.ins Z1 dx [])):=fun b o e=>by rw [upd_ne (ne_of_none e ht),upd_ne (ne_of_none e hdx)];exact e
   refine ⟨dx,upd_same,ts,mp.s.same smx,mp.nd,mp.tl,xs,smx.seq mp.a,mp.xl,fun v hv=>(mp.xn v hv).same smx,mp.nl,?_⟩
   rcases hcase with ⟨zs,⟨ez,hr1,hz1,hz6,hzz⟩,q⟩ | ⟨hbad,qe⟩ | ⟨hok,hbad,qe⟩
   · refine .inl ⟨zs,ez,hr1,hz1,hz6,hzz,fun x s H' sb tow e1 e2 e3 e4 e5 hown=>q Z1 t x s H' (same_made ht hdx sb) ⟨.inr ⟨hi1,rfl⟩,tow,e1,e2,e3,e4,e5,fun b hb=>?_⟩⟩
     rcases hown b hb with h | h
     · rw [h];exact ht
     · cases e:H b with
       | none=>rfl
       | some o=>rw [smx _ _ e]at h;cases h
   · exact .inr (.inl ⟨hbad,qe.same smx⟩)
   · exact .inr (.inr ⟨hok,hbad,qe.same smx⟩)
theorem Z5c{f:Addr}{fd:FuncData}(F:Fun K "_law_drawn_sizes" "_law_drawn_sizes" Z0h f fd)(T:Txt K mg Z5 Z3 Z4 Z7 Z2 Z1 Z0)(Z3n:Def P w K mg base (CXF P w) 1 "_law_mix" ["_law_cell","_law_k"] (sp75_mix)):FnOk P w K mg base (CXF P w) 2 f fd ["_law_cell"] (sp78_sizesD K):=by
 have sc:FnScope ["_law_cell","_law_good","_law_at","_law_some"] ["_law_cell"] (defScope Z0h):=⟨rfl,rfl,rfl,by decide+kernel,rfl,by decide+kernel,by decide+kernel⟩
 refine F.okF sc (fun vs H Q E h=>?_) (fun cdv A outer s H vs Q E hr h=>?_)
 · obtain ⟨c,rfl,q⟩:=h;rfl
 obtain ⟨c,rfl,q⟩:=h
 refine ⟨_,(@pss_cons _ _ _ _ _ (ps_comp1 (i:=1) "_law_k" [0] sc.nd rfl rfl rfl rfl (pi_range1 rfl T.Z2p (pa_cons (pe_op op_add pe_int (pe_op op_mod (pe_op op_fdiv (pv 0) pe_int) pe_int)) pa_nil)) (fun b=>(pe_op op_add pe_int (pe_op op_mod (pe_callD Z3n hr rfl pass_noF (pa_cons (pv 1) (pa_cons (pv 0) pa_nil))) pe_int))))
  (@pss_cons _ _ _ _ _ (ps_set (i:=2) sc.nd rfl (Or.inl rfl) (pe_op op_mod (pe_op op_fdiv (pv 0) pe_int) (pe_callB call_len_seq rfl T.Zw PySem.boot_len (pa_cons (pv 1) pa_nil))))
  (@pss_cons _ _ _ _ _ (ps_if (pt_cmpR op_eq (pe_op op_mod (pv 0) pe_int) pe_int (nomark _))
   (@pss_one _ _ _ (@ps_ret _ _ _ _ (@pe_ix _ _ _ _ _ _ _ ix_list (@pe_lst _ _ _ _ (pa_cons (@pe_lst _ _ _ _ pa_nil) (pa_cons (pe_op op_cat (pv 1) (pe_op op_rep (@pe_lst _ _ _ _ (pa_cons pe_int pa_nil)) (pe_op op_sub pe_int (pe_callB call_len_seq rfl T.Zw PySem.boot_len (pa_cons (pv 1) pa_nil))))) (pa_cons (pe_op op_rep (@pe_lst _ _ _ _ (pa_cons pe_int pa_nil)) pe_int) pa_nil)))) (pe_op op_mod (pe_op op_fdiv (pv 0) pe_int) pe_int) (fun _ _=>rfl))))
   pss_nil)
  (@pss_cons _ _ _ _ _ (ps_if (pt_cmpR op_eq (pe_op op_mod (pv 0) pe_int) pe_int (nomark _))
   (@pss_cons _ _ _ _ _ (@ps_set _ _ 3 _ _ _ _ sc.nd rfl (Or.inl rfl) (@pe_lst _ _ _ _ (@pa_consK _ _ _ _ _ _ _ pe_int (@pa_consB _ _ _ _ _ _ _ _ (pe_op op_sub (pe_un un_neg pe_int) (pe_op op_mod (pe_op op_fdiv (pv 0) pe_int) (pe_op op_pow pe_int pe_int))) (@pa_consB _ _ _ _ _ _ _ _ (pe_op op_add (pe_op op_pow pe_int pe_int) pe_int) (@pa_consK _ _ _ _ _ _ _ pe_bl (@pa_consK _ _ _ _ _ _ _ pe_non (@pa_consK _ _ _ _ _ _ _ pe_str (pa_cons (@pe_lst _ _ _ _ (pa_cons pe_int pa_nil)) (@pa_consT _ _ _ _ _ _ _ (pe_tup (pa_cons pe_int pa_nil)) pa_nil))))))))) (by rfl) (by first | exact .inl rfl | exact .inr rfl))
   (@pss_one _ _ _ (@ps_ret _ _ _ _ (pe_op op_cat (pe_op op_cat (pe_slice sl_list (pv 1) po_none (po_some (pv 2))) (@pe_lst _ _ _ _ (pa_cons (@pe_ix _ _ _ _ _ _ _ ix_list (pv 3) (pe_op op_mod (pe_op op_fdiv (pv 0) pe_int) pe_int) (fun _ _=>rfl)) pa_nil))) (pe_slice sl_list (pv 1) (po_some (pe_op op_add (pv 2) pe_int)) po_none)))))
   pss_nil)
  (@pss_one _ _ _ (@ps_ret _ _ _ _ (pv 1))))))),?_⟩
 rw [show start ["_law_cell","_law_good","_law_at","_law_some"] [V.int c]=[some (V.int c),none,none,none] from rfl]
 have line:=line_val
 walk_at "go"
 obtain ⟨m,hm⟩:∃m:Nat,(m:Int)=1+c / 4 % 6∧True:=⟨(1+c / 4 % 6).toNat,by omega,trivial⟩
 have hm1:1≤m:=by omega
 have hm6:m≤6:=by omega
 rw [← hm.1,Int.toNat_natCast]
 refine compR_mk (fun i y _=>∃z:Int,y=V.int z∧1≤z∧z≤3) (fun i y H H' l zs h hl sb=>h) (by omega) (fun b i H' Q' hi sm' q'=>?_) fun D yl H1 hD sm1 hD1 hyl hall=>?_
 · walk_at "go"
   intro h0 h1
   exact ⟨by decide,q' _ _ (Same.refl H') ⟨_,rfl,by omega,by omega⟩⟩
 obtain ⟨zs,rfl,hz⟩:=ints78 yl hall
 rw [List.length_map]at hyl
 clear hall hm
 have hzl:zs.length≤m∧m≤zs.length:=by omega
 clear hyl
 rename_i rest hrest
 subst hrest
 walk_at "go"
 refine ⟨_,.inl (SqL.of hD1),by rw [List.length_map];omega,?_⟩
 rw [List.length_map,show (zs.length:Int)=(m:Int) by omega]
 have ha0:=Int.emod_nonneg (c / 24) (show (m:Int)≠0 by omega)
 have ha1:=Int.emod_lt_of_pos (c / 24) (show (0:Int) < m by omega)
 obtain ⟨n,hn⟩:∃n:Nat,(n:Int)=c / 24 % (m:Int)∧True:=⟨(c / 24 % (m:Int)).toNat,by omega,trivial⟩
 rw [← hn.1]
 have hnm:n < m:=by omega
 clear hn ha0 ha1
 rename_i rest hrest
 subst hrest
 walk_at "go"
 rename_i rest hrest
 by_cases h1:c % 4=1
 · rw [if_pos h1]
   clear hrest
   have bad:∀(p:Addr) (xs:List V) (H':Hp),H p=none→Same H H'→H' p=some (.lst xs)→xs.length≤60→(∀v∈xs,NumV K H' v)→¬SzOk xs→Q (.ref p) H':=fun p xs H' a b d e f g=>q p xs H' a b d e f (fun _=>g) (fun h=>absurd (.inl h1) h)
   refine ⟨by omega,fun e1 he1=>⟨by omega,fun o1 ho1=>?_⟩⟩
   have s1:Same H1 (upd (upd H1 e1 (.lst [])) o1 (.lst [V.int 1])):=(Same.new he1).trans (Same.new ho1)
   have k1:upd (upd H1 e1 (.lst [])) o1 (.lst [V.int 1]) e1=some (.lst []):=(Same.new ho1) _ _ upd_same
   have ko:upd (upd H1 e1 (.lst [])) o1 (.lst [V.int 1]) o1=some (.lst [V.int 1]):=upd_same
   generalize upd (upd H1 e1 (.lst [])) o1 (.lst [V.int 1])=H2 at s1 k1 ko ⊢
   refine ⟨_,.inl (SqL.of (s1 _ _ hD1)),o1,_,_,rfl,rfl,ko,by rw [List.length_map];omega,by rw [List.length_map];omega,by rw [List.length_map];show 1 * _≤_;omega,fun r1 hr1=>?_⟩
   rw [List.length_map,show (7 - (zs.length:Int)).toNat=7 - m by omega]
   have s2:Same H2 (upd H2 r1 (.lst (List.replicate (7 - m) [V.int 1]).flatten)):=Same.new hr1
   have kr:upd H2 r1 (.lst (List.replicate (7 - m) [V.int 1]).flatten) r1=some (.lst (List.replicate (7 - m) [V.int 1]).flatten):=upd_same
   generalize upd H2 r1 (.lst (List.replicate (7 - m) [V.int 1]).flatten)=H3 at s2 kr ⊢
   refine ⟨D,r1,_,_,rfl,rfl,s2 _ _ (s1 _ _ hD1),kr,by rw [List.length_map,ones_len];omega,fun c1 hc1=>⟨by omega,fun o2 ho2=>?_⟩⟩
   have s3:Same H3 (upd (upd H3 c1 (.lst (zs.map V.int++(List.replicate (7 - m) [V.int 1]).flatten))) o2 (.lst [V.int 1])):=(Same.new hc1).trans (Same.new ho2)
   have k2:upd (upd H3 c1 (.lst (zs.map V.int++(List.replicate (7 - m) [V.int 1]).flatten))) o2 (.lst [V.int 1]) c1=some (.lst (zs.map V.int++(List.replicate (7 - m) [V.int 1]).flatten)):=(Same.new ho2) _ _ upd_same
   have ko2:upd (upd H3 c1 (.lst (zs.map V.int++(List.replicate (7 - m) [V.int 1]).flatten))) o2 (.lst [V.int 1]) o2=some (.lst [V.int 1]):=upd_same
   have n2:H c1=none:=N53.none_of (sm1.trans (s1.trans s2)) hc1
   generalize upd (upd H3 c1 (.lst (zs.map V.int++(List.replicate (7 - m) [V.int 1]).flatten))) o2 (.lst [V.int 1])=H4 at s3 k2 ko2 ⊢
   refine ⟨o2,_,_,rfl,rfl,ko2,by decide,by decide,by show 1 * 9≤_;omega,fun r2 hr2=>⟨by omega,fun ls hls=>⟨cdiv_of (by decide) (by decide),by decide,?_⟩⟩⟩
   have n3:H r2=none:=N53.none_of (((sm1.trans s1).trans s2).trans s3) hr2
   have n1:H e1=none:=N53.none_of sm1 he1
   have s4:Same H4 (upd (upd H4 r2 (.lst (List.replicate (9:Int).toNat [V.int 1]).flatten)) ls (.lst [V.ref e1,V.ref c1,V.ref r2])):=(Same.new hr2).trans (Same.new hls)
   have k3:upd (upd H4 r2 (.lst (List.replicate (9:Int).toNat [V.int 1]).flatten)) ls (.lst [V.ref e1,V.ref c1,V.ref r2]) r2=some (.lst (List.replicate (9:Int).toNat [V.int 1]).flatten):=(Same.new hls) _ _ upd_same
   have kl:upd (upd H4 r2 (.lst (List.replicate (9:Int).toNat [V.int 1]).flatten)) ls (.lst [V.ref e1,V.ref c1,V.ref r2]) ls=some (.lst [V.ref e1,V.ref c1,V.ref r2]):=upd_same
   generalize upd (upd H4 r2 (.lst (List.replicate (9:Int).toNat [V.int 1]).flatten)) ls (.lst [V.ref e1,V.ref c1,V.ref r2])=H5 at s4 k3 kl ⊢
   have sm:=(((sm1.trans s1).trans s2).trans s3).trans s4
   have hj:c / 4 % 3=0∨c / 4 % 3=1∨c / 4 % 3=2:=by omega
   rcases hj with e | e | e <;> rw [e]
   · exact ixL_of (SqL.of kl) (atI_nat (j:=0) rfl) (bad e1 [] H5 n1 sm (s4 _ _ (s3 _ _ (s2 _ _ k1))) (by decide) (fun v hv=>by cases hv) (fun h=>by have:=h.1;simp at this))
   · refine ixL_of (SqL.of kl) (atI_nat (j:=1) rfl) (bad c1 _ H5 n2 sm (s4 _ _ k2) (by rw [List.length_append,List.length_map,ones_len];omega) (fun v hv=>?_) (fun h=>by have:=h.2.1;rw [List.length_append,List.length_map,ones_len]at this;omega))
     rcases List.mem_append.mp hv with h | h
     · exact int_num h
     · rw [ones_mem h];exact NumV.flat rfl
   · refine ixL_of (SqL.of kl) (atI_nat (j:=2) rfl) (bad r2 _ H5 n3 sm k3 (by rw [ones_len];decide) (fun v hv=>by rw [ones_mem hv];exact NumV.flat rfl) (fun h=>by have:=h.2.1;rw [ones_len]at this;exact absurd this (by decide)))
 · rw [if_neg h1]
   subst hrest
   walk_at "go"
   rename_i rest hrest
   by_cases h2:c % 4=2
   · rw [if_pos h2]
     clear hrest
     have bad:∀(p:Addr) (xs:List V) (H':Hp),H p=none→Same H H'→H' p=some (.lst xs)→xs.length≤60→(∀v∈xs,NumV K H' v)→¬SzOk xs→Q (.ref p) H':=fun p xs H' a b d e f g=>q p xs H' a b d e f (fun _=>g) (fun h=>absurd (.inr h2) h)
     have hm0:=Int.emod_nonneg (c / 192) (show (10 ^ 9:Int)≠0 by decide)
     walk_at "go"
     intro p1 hp1
     refine ⟨by omega,fun p2 hp2=>⟨by omega,fun p3 hp3=>?_⟩⟩
     rename_i rest hrest
     suffices key:∀(H2:Hp) (L:List V),Same H1 H2→L.length=8→H2 p3=some (.lst L)→(∀v∈L,NumV K H2 v∧wIn 1 1000000 v=false)→rest [some (V.int c),some (V.ref D),some (V.int n),some (V.ref p3)] H2 by
      have h12:=ne_of_none (show upd H1 p1 (.lst [V.int 1]) p1=some (.lst [V.int 1]) from upd_same) hp2
      have h13:=ne_of_none (show upd (upd H1 p1 (.lst [V.int 1])) p2 (.tup [V.int 3]) p1=some (.lst [V.int 1]) by rw [upd_ne h12];exact upd_same) hp3
      have h23:=ne_of_none (show upd (upd H1 p1 (.lst [V.int 1])) p2 (.tup [V.int 3]) p2=some (.tup [V.int 3]) from upd_same) hp3
      refine key _ _ (((Same.new hp1).trans (Same.new hp2)).trans (Same.new hp3)) rfl upd_same (fun v hv=>?_)
      simp only [List.mem_cons,List.not_mem_nil,or_false]at hv
      rcases hv with e | e | e | e | e | e | e | e <;> rw [e]
      · exact ⟨NumV.flat rfl,by simp [wIn]⟩
      · exact ⟨NumV.flat rfl,by simp [wIn];omega⟩
      · exact ⟨NumV.flat rfl,by simp [wIn]⟩
      · exact ⟨NumV.flat rfl,rfl⟩
      · exact ⟨NumV.flat rfl,rfl⟩
      · exact ⟨NumV.flat rfl,rfl⟩
      · exact ⟨NumV.lst (xs:=[V.int 1]) (by rw [upd_ne h13,upd_ne h12];exact upd_same),rfl⟩
      · exact ⟨NumV.tup (xs:=[V.int 3]) (by rw [upd_ne h23];exact upd_same),rfl⟩
     intro H2 L s2 hL hp hodd
     subst hrest
     clear hp1 hp2 hp3
     have hD2:=s2 _ _ hD1
     walk_at "go"
     refine ⟨_,SqL.of hD2,fun sp hsp=>⟨cdiv_of (by decide) (by decide),by decide,?_⟩⟩
     obtain ⟨cs,hcs,hcl⟩:=cut78 zs none (some (n:Int))
     rw [hcs]
     clear hcs
     have s3:Same H2 (upd H2 sp (.lst (cs.map V.int))):=Same.new hsp
     have k3:upd H2 sp (.lst (cs.map V.int)) sp=some (.lst (cs.map V.int)):=upd_same
     generalize upd H2 sp (.lst (cs.map V.int))=H3 at s3 k3 ⊢
     have hj0:0≤c / 24 % 8∧c / 24 % 8 < 8:=⟨by omega,by omega⟩
     generalize c / 24 % 8=j at hj0 ⊢
     obtain ⟨v,hv⟩:∃v,L[j.toNat]?=some v:=⟨_,List.getElem?_eq_getElem (by omega)⟩
     rw [show j=((j.toNat:Nat):Int) by omega]
     have hvv:=hodd v (List.mem_of_getElem? hv)
     refine ixL_of (SqL.of (s3 _ _ hp)) (v:=v) (atI_nat hv) ⟨by omega,fun o1 ho1=>?_⟩
     have s4:Same H3 (upd H3 o1 (.lst [v])):=Same.new ho1
     have k4:upd H3 o1 (.lst [v]) o1=some (.lst [v]):=upd_same
     generalize upd H3 o1 (.lst [v])=H4 at s4 k4 ⊢
     refine ⟨sp,o1,_,_,rfl,rfl,s4 _ _ k3,k4,by rw [List.length_map];show _+1≤_;omega,fun r1 hr1=>⟨_,SqL.of ((Same.new hr1) _ _ (s4 _ _ (s3 _ _ hD2))),fun sp2 hsp2=>?_⟩⟩
     obtain ⟨ds,hds,hdl⟩:=cut78 zs (some ((n:Int)+1)) none
     rw [hds]
     clear hds
     have s5:Same H4 (upd (upd H4 r1 (.lst (cs.map V.int++[v]))) sp2 (.lst (ds.map V.int))):=(Same.new hr1).trans (Same.new hsp2)
     have k5:upd (upd H4 r1 (.lst (cs.map V.int++[v]))) sp2 (.lst (ds.map V.int)) r1=some (.lst (cs.map V.int++[v])):=(Same.new hsp2) _ _ upd_same
     have k6:upd (upd H4 r1 (.lst (cs.map V.int++[v]))) sp2 (.lst (ds.map V.int)) sp2=some (.lst (ds.map V.int)):=upd_same
     generalize upd (upd H4 r1 (.lst (cs.map V.int++[v]))) sp2 (.lst (ds.map V.int))=H5 at s5 k5 k6 ⊢
     refine ⟨r1,sp2,_,_,rfl,rfl,k5,k6,by rw [List.length_append,List.length_map,List.length_map];show _+1+_≤_;omega,fun r2 hr2=>?_⟩
     have s6:=(((s2.trans s3).trans s4).trans s5)
     refine bad r2 _ _ (N53.none_of (sm1.trans s6) hr2) ((sm1.trans s6).trans (Same.new hr2)) upd_same (by rw [List.length_append,List.length_append,List.length_map,List.length_map];show _+1+_≤_;omega) (fun u hu=>?_) (fun h=>?_)
     · rcases List.mem_append.mp hu with h | h
       · rcases List.mem_append.mp h with h | h
         · exact int_num h
         · rw [List.mem_singleton.mp h];exact (((hvv.1.same s3).same s4).same s5).same (Same.new hr2)
       · exact int_num h
     · have:=h.2.2 v (by simp)
       rw [hvv.2]at this;cases this
   · rw [if_neg h2]
     subst hrest
     walk_at "go"
     exact q D _ H1 hD sm1 hD1 (by rw [List.length_map];omega) (fun v hv=>int_num hv) (fun h=>absurd h (fun k=>k.elim h1 h2)) (fun _=>⟨zs,rfl,by omega,by omega,fun z h=>by have:=hz z h;omega⟩)
theorem Z8e{f:Addr}{fd:FuncData}(F:Fun K "_law_made" "_law_made" Z33 f fd)(T:Txt K mg Z5 Z3 Z4 Z7 Z2 Z1 Z0)(Z1w:Def P w K mg base (CXF P w) 8 "_law_tower" ["_law_stock","_law_sizes","_law_prompt"] (sp78_ltower K Z1 Z0 Z2 Z4 Z7)):FnOk P w K mg base (CXF P w) 9 f fd ["_law_stock","_law_sizes","_law_prompt"] (sp78_made K Z1 Z0 Z2):=by
 have sc:FnScope ["_law_stock","_law_sizes","_law_prompt","_law_tower_here","_law_word"] ["_law_stock","_law_sizes","_law_prompt"] (defScope Z33):=⟨rfl,rfl,rfl,by decide+kernel,rfl,by decide+kernel,by decide+kernel⟩
 refine F.okF sc (fun vs H Q E h=>?_) (fun cdv A outer s H vs Q E hr h=>?_)
 · obtain ⟨p,a,i,ts,xs,rfl,mp,hcase⟩:=h;rfl
 obtain ⟨p,a,i,ts,xs,rfl,mp,hcase⟩:=h
 refine ⟨_,(@pss_cons _ _ _ _ _ (ps_set (i:=3) sc.nd rfl (Or.inl rfl) pe_non)
  (@pss_cons _ _ _ _ _ (ps_set (i:=4) sc.nd rfl (Or.inl rfl) pe_str)
  (@pss_cons _ _ _ _ _ (ps_tryF rfl rfl (fun t hp=>(@pss_one _ _ _ (ps_set (i:=3) sc.nd rfl (Or.inl rfl) (pe_callE Z1w hr rfl hp (pa_cons (pv 0) (pa_cons (pv 1) (pa_cons (pv 2) pa_nil)))))))
   (ph_clsF rfl rfl T.Z2h (fun x=>(@pss_one _ _ _ (ps_set (i:=4) sc.nd rfl (Or.inl rfl) pe_str))) (ph_clsF rfl rfl T.Z6w (fun x=>(@pss_one _ _ _ (ps_set (i:=4) sc.nd rfl (Or.inl rfl) pe_str))) ph_nilF)))
  (@pss_one _ _ _ (@ps_ret _ _ _ _ (pe_tup (pa_cons (pv 4) (pa_cons (pv 3) pa_nil)))))))),?_⟩
 rw [show start ["_law_stock","_law_sizes","_law_prompt","_law_tower_here","_law_word"] [V.ref p,V.ref a,V.int i]=[some (V.ref p),some (V.ref a),some (V.int i),none,none] from rfl]
 have line:=line_val
 walk_at "go"
 refine ⟨ts,xs,mp,?_⟩
 rcases hcase with ⟨zs,ok,q⟩ | ⟨hbad,q⟩ | ⟨hok,hbad,q⟩
 · exact .inl ⟨zs,ok,fun C t x s H' sm nw=>⟨by omega,fun tp htp=>q C t tp x s _ (sm.trans (Same.new htp)) (nw.same (Same.new htp)) upd_same⟩⟩
 · refine .inr (.inl ⟨hbad,fun H' e sm he er=>⟨e,rfl,true,T.Z32,?_⟩⟩)
   rw [if_pos rfl]
   exact ⟨by omega,fun tp htp=>q tp _ (sm.trans (Same.new htp)) upd_same⟩
 · refine .inr (.inr ⟨hok,hbad,fun H' e sm he er=>⟨e,rfl,false,T.Z53,?_⟩⟩)
   rw [if_neg (by decide)]
   refine ⟨true,T.Z5o,?_⟩
   rw [if_pos rfl]
   exact ⟨by omega,fun tp htp=>q tp _ (sm.trans (Same.new htp)) upd_same⟩
theorem Z6s{f:Addr}{fd:FuncData}(F:Fun K "_law_no_value" "_law_no_value" Z25 f fd)(T:Txt K mg Z5 Z3 Z4 Z7 Z2 Z1 Z0):FnOk P w K mg base (CXF P w) 1 f fd ["_law_cell"] (sp78_noval K):=by
 have sc:FnScope ["_law_cell","_law_some"] ["_law_cell"] (defScope Z25):=⟨rfl,rfl,rfl,by decide+kernel,rfl,by decide+kernel,by decide+kernel⟩
 refine F.okF sc (fun vs H Q E h=>?_) (fun cdv A outer s H vs Q E hr h=>?_)
 · obtain ⟨c,rfl,q⟩:=h;rfl
 obtain ⟨c,rfl,q⟩:=h
 refine ⟨_,(@pss_cons _ _ _ _ _ (@ps_set _ _ 1 _ _ _ _ sc.nd rfl (Or.inl rfl) (@pe_lst _ _ _ _ (@pa_consB _ _ _ _ _ _ _ _ (pe_op op_add (pe_op op_pow pe_int pe_int) pe_int) (@pa_consB _ _ _ _ _ _ _ _ (pe_op op_sub (pe_un un_neg pe_int) (pe_op op_pow pe_int pe_int)) (@pa_consB _ _ _ _ _ _ _ _ (pe_op op_add (pe_op op_add (pe_op op_pow pe_int pe_int) pe_int) (pe_op op_mod (pv 0) (pe_op op_pow pe_int pe_int))) (@pa_consK _ _ _ _ _ _ _ pe_bl (@pa_consK _ _ _ _ _ _ _ pe_bl (@pa_consK _ _ _ _ _ _ _ pe_non (@pa_consK _ _ _ _ _ _ _ pe_str (pa_cons (@pe_lst _ _ _ _ (pa_cons pe_int pa_nil)) pa_nil))))))))) (by rfl) (by first | exact .inl rfl | exact .inr rfl))
  (@pss_one _ _ _ (@ps_ret _ _ _ _ (@pe_ix _ _ _ _ _ _ _ ix_list (pv 1) (pe_op op_mod (pe_op op_fdiv (pv 0) pe_int) pe_int) (fun _ _=>rfl))))),?_⟩
 rw [show start ["_law_cell","_law_some"] [V.int c]=[some (V.int c),none] from rfl]
 have line:=line_val
 have hm0:=Int.emod_nonneg c (show (10 ^ 40:Int)≠0 by decide)
 walk_at "go"
 intro p1 hp1
 refine ⟨by omega,fun p2 hp2=>?_⟩
 rename_i rest hrest
 suffices key:∀(H1:Hp) (L:List V),Same H H1→L.length=8→H1 p2=some (.lst L)→(∀v∈L,NumV K H1 v∧wIn (-(10 ^ 30)) (10 ^ 30) v=false)→rest [some (V.int c),some (V.ref p2)] H1 by
  refine key _ _ ((Same.new hp1).trans (Same.new hp2)) rfl upd_same (fun v hv=>?_)
  simp only [List.mem_cons,List.not_mem_nil,or_false]at hv
  have h12:p1≠p2:=ne_of_none (show upd H p1 (.lst [V.int 7]) p1=some (.lst [V.int 7]) from upd_same) hp2
  rcases hv with e | e | e | e | e | e | e | e <;> rw [e]
  · exact ⟨NumV.flat rfl,by simp [wIn]⟩
  · exact ⟨NumV.flat rfl,by simp [wIn]⟩
  · exact ⟨NumV.flat rfl,by simp [wIn];omega⟩
  · exact ⟨NumV.flat rfl,rfl⟩
  · exact ⟨NumV.flat rfl,rfl⟩
  · exact ⟨NumV.flat rfl,rfl⟩
  · exact ⟨NumV.flat rfl,rfl⟩
  · exact ⟨NumV.lst (xs:=[V.int 7]) (by rw [upd_ne h12];exact upd_same),rfl⟩
 intro H1 L sm1 hL hp hodd
 subst hrest
 clear hp1 hp2
 walk_at "go"
 have hj0:0≤c / 3 % 8∧c / 3 % 8 < 8:=⟨by omega,by omega⟩
 generalize c / 3 % 8=j at hj0 ⊢
 obtain ⟨v,hv⟩:∃v,L[j.toNat]?=some v:=⟨_,List.getElem?_eq_getElem (by omega)⟩
 rw [show j=((j.toNat:Nat):Int) by omega]
 have hvv:=hodd v (List.mem_of_getElem? hv)
 exact ixL_of (SqL.of hp) (v:=v) (atI_nat hv) (q v H1 sm1 hvv.1 hvv.2)
theorem Z6t{f:Addr}{fd:FuncData}(F:Fun K "_law_expected" "_law_expected" Z26 f fd)(T:Txt K mg Z5 Z3 Z4 Z7 Z2 Z1 Z0):FnOk P w K mg base (CXF P w) 1 f fd ["_law_name","_law_extra","_law_good","_law_deed"] (sp78_expected):=by
 have sc:FnScope ["_law_name","_law_extra","_law_good","_law_deed"] ["_law_name","_law_extra","_law_good","_law_deed"] (defScope Z26):=⟨rfl,rfl,rfl,by decide+kernel,rfl,by decide+kernel,by decide+kernel⟩
 refine F.okF sc (fun vs H Q E h=>?_) (fun cdv A outer s H vs Q E hr h=>?_)
 · obtain ⟨z,y,b,d,rfl,q⟩:=h;rfl
 obtain ⟨z,y,b,d,rfl,q⟩:=h
 refine ⟨_,(@pss_cons _ _ _ _ _ (ps_if (pt_cmpR op_eq (pv 0) (pv 1) (nomark _))
  (@pss_one _ _ _ (@ps_ret _ _ _ _ (pe_tup (pa_cons pe_str (pa_cons (pe_tup (pa_cons (pv 0) (pa_cons (pe_un un_neg pe_int) pa_nil))) pa_nil)))))
  pss_nil)
  (@pss_cons _ _ _ _ _ (ps_if (PW.pt (pw_and (pt_not (pt_val (pv 2))) (pw_and1 (pt_chain op_lt op_lt pe_int (pv 3) pe_int))))
   (@pss_one _ _ _ (@ps_ret _ _ _ _ (pe_tup (pa_cons pe_str (pa_cons pe_non pa_nil)))))
   pss_nil)
  (@pss_one _ _ _ (@ps_ret _ _ _ _ (pe_tup (pa_cons pe_str (pa_cons pe_non pa_nil))))))),?_⟩
 rw [show start ["_law_name","_law_extra","_law_good","_law_deed"] [V.str z,V.str y,V.bl b,V.int d]=[some (V.str z),some (V.str y),some (V.bl b),some (V.int d)] from rfl]
 have line:=line_val
 walk_at "go"
 rename_i rest hrest
 by_cases hzy:z=y
 · rw [if_pos hzy]
   refine ⟨by omega,fun p hp=>⟨by omega,fun p1 hp1=>q p1 _ ((Same.new hp).trans (Same.new hp1)) ?_⟩⟩
   rw [if_pos hzy]
   exact ⟨_,upd_same,p,rfl,by rw [upd_ne (ne_of_none upd_same hp1)];exact upd_same⟩
 · rw [if_neg hzy]
   subst hrest
   walk_at "go"
   rename_i rest hrest
   have key:¬(b=false∧0 < d∧d < 3)→rest [some (V.str z),some (V.str y),some (V.bl b),some (V.int d)] H:=by
    intro hn
    subst hrest
    walk_at "go"
    refine fun p hp=>q p _ (Same.new hp) ?_
    rw [if_neg hzy,if_neg hn]
    exact ⟨_,upd_same,rfl⟩
   by_cases hb:b=false
   · rw [if_pos hb]
     by_cases h0:0 < d
     · rw [if_pos h0]
       by_cases h3:d < 3
       · rw [if_pos h3]
         refine ⟨by omega,fun p hp=>q p _ (Same.new hp) ?_⟩
         rw [if_neg hzy,if_pos ⟨hb,h0,h3⟩]
         exact ⟨_,upd_same,rfl⟩
       · rw [if_neg h3];exact key fun h=>h3 h.2.2
     · rw [if_neg h0];exact key fun h=>h0 h.2.1
   · rw [if_neg hb];exact key fun h=>hb h.1
theorem Z7r{f:Addr}{fd:FuncData}(F:Fun K "_law_tried" "_law_tried" Z2w f fd)(T:Txt K mg Z5 Z3 Z4 Z7 Z2 Z1 Z0)(Z15:DefM P w K mg base (CXF P w) 7 Z1 "read" ["self","name"] (sp78_read K Z1 Z2 Z3))(Z0k:DefM P w K mg base (CXF P w) 7 Z0 "read" ["self","name"] (sp78_read K Z0 Z2 Z3))(Z3p:DefM P w K mg base (CXF P w) 7 Z1 "keep" ["self","name","value"] (sp78_keep K Z1 Z2 Z3 Z4 false))(Z3e:DefM P w K mg base (CXF P w) 7 Z0 "keep" ["self","name","value"] (sp78_keep K Z0 Z2 Z3 Z4 true))(Z3f:DefM P w K mg base (CXF P w) 7 Z1 "ahead" ["self","name"] (sp78_ahead K Z1 Z2 Z3))(Z37:DefM P w K mg base (CXF P w) 7 Z0 "ahead" ["self","name"] (sp78_ahead K Z0 Z2 Z3))(Zb:DefM P w K mg base (CXF P w) 5 Z1 "stored" ["self","name"] (sp78_stored K Z1 Z2 Z3))(Z9:DefM P w K mg base (CXF P w) 5 Z0 "stored" ["self","name"] (sp78_stored K Z0 Z2 Z3)):FnOk P w K mg base (CXF P w) 8 f fd ["_law_tower_here","_law_name","_law_deed","_law_value_here"] (sp78_tried K Z1 Z0 Z2):=by
 have sc:FnScope ["_law_tower_here","_law_name","_law_deed","_law_value_here","_law_word","_law_told","e"] ["_law_tower_here","_law_name","_law_deed","_law_value_here"] (defScope Z2w):=⟨rfl,rfl,rfl,by decide+kernel,rfl,by decide+kernel,by decide+kernel⟩
 refine F.okF sc (fun vs H Q E h=>?_) (fun cdv A outer s H vs Q E hr h=>?_)
 · obtain ⟨C,t,z,d,vv,pr,x,s,g,ts,B,rfl,hC,hW,hB,hd0,hd5,hcase⟩:=h;rfl
 obtain ⟨C,t,z,d,vv,pr,x,s,g,ts,B,rfl,hC,hW,hB,hd0,hd5,hcase⟩:=h
 refine ⟨_,(@pss_cons _ _ _ _ _ (ps_set (i:=4) sc.nd rfl (Or.inl rfl) pe_str)
  (@pss_cons _ _ _ _ _ (ps_set (i:=5) sc.nd rfl (Or.inl rfl) pe_non)
  (@pss_cons _ _ _ _ _ (ps_tryF rfl rfl (fun t hp=>(@pss_one _ _ _ (ps_if (pt_cmpR op_eq (pv 2) pe_int (nomark _))
   (@pss_one _ _ _ (ps_expr (pe_or2 (pe_methS Z15 T.Z8 hr hp (pv 0) (pa_cons (pv 1) pa_nil)) (pe_methS Z0k T.Z6 hr hp (pv 0) (pa_cons (pv 1) pa_nil)))))
   (@pss_one _ _ _ (ps_if (pt_cmpR op_lt (pv 2) pe_int (nomark _))
    (@pss_one _ _ _ (ps_expr (pe_or2 (pe_methS Z3p T.Z8 hr hp (pv 0) (pa_cons (pv 1) (pa_cons (pv 3) pa_nil))) (pe_methS Z3e T.Z6 hr hp (pv 0) (pa_cons (pv 1) (pa_cons (pv 3) pa_nil))))))
    (@pss_one _ _ _ (ps_if (pt_cmpR op_eq (pv 2) pe_int (nomark _))
     (@pss_one _ _ _ (ps_expr (pe_or2 (pe_methS Z3f T.Z8 hr hp (pv 0) (pa_cons (pv 1) pa_nil)) (pe_methS Z37 T.Z6 hr hp (pv 0) (pa_cons (pv 1) pa_nil)))))
     (@pss_one _ _ _ (ps_expr (pe_or2 (pe_methS Zb T.Z8 hr hp (pv 0) (pa_cons (pv 1) pa_nil)) (pe_methS Z9 T.Z6 hr hp (pv 0) (pa_cons (pv 1) pa_nil))))))))))))
   (ph_asF (i:=6) rfl sc.nd rfl rfl rfl T.Z8d (fun x=>(@pss_cons _ _ _ _ _ (ps_set (i:=4) sc.nd rfl (Or.inl rfl) pe_str)
    (@pss_one _ _ _ (ps_set (i:=5) sc.nd rfl (Or.inl rfl) (pe_tup (pa_cons (pe_fldX (pv 6) rfl) (pa_cons (pe_fldX (pv 6) rfl) pa_nil))))))) (ph_clsF rfl rfl T.Z2h (fun x=>(@pss_one _ _ _ (ps_set (i:=4) sc.nd rfl (Or.inl rfl) pe_str))) ph_nilF)))
  (@pss_one _ _ _ (@ps_ret _ _ _ _ (pe_tup (pa_cons (pv 4) (pa_cons (pv 5) pa_nil)))))))),?_⟩
 rw [show start ["_law_tower_here","_law_name","_law_deed","_law_value_here","_law_word","_law_told","e"] [V.ref t,V.str z,V.int d,vv]=[some (V.ref t),some (V.str z),some (V.int d),some (vv),none,none,none] from rfl]
 have line:=line_val
 obtain ⟨dx,fs,ho,hf⟩:=hW.to.tw.o
 rcases hcase with ⟨hz,q⟩ | ⟨hz,h0,h3,hnv,hwv,q⟩ | ⟨hz,v,hv,q⟩
 · have hU:RefU Z3 H z (W78 K Q Z3 Z4 t z d vv):=by
    intro H' e sm he er
    refine ⟨e,rfl,true,T.Z52,?_⟩
    rw [if_pos rfl]
    obtain ⟨ed,er1,er2⟩:=er
    walk_at "go"
    refine ⟨false,Z3,_,ed,er1,_,er2,T.Z2o,T.Z0m,_,rfl,false,Z3,_,ed,er1,_,er2,T.Z2o,T.Z0b,_,rfl,by omega,fun p hp=>⟨by omega,fun p1 hp1=>?_⟩⟩
    exact q p1 _ ((sm.trans (Same.new hp)).trans (Same.new hp1)) ⟨_,upd_same,p,rfl,by rw [upd_ne (ne_of_none upd_same hp1)];exact upd_same⟩
   clear q
   walk_at "go"
   by_cases c0:d=0
   · rw [if_pos c0]
     rcases hC with ⟨rfl,rfl⟩ | ⟨rfl,rfl⟩
     · exact .inr ⟨dx,fs,ho,hf.m _ (by simp),x,s,g,ts,B,hW,.inr ⟨hz,hU⟩⟩
     · exact .inl ⟨dx,fs,ho,hf.m _ (by simp),x,s,g,ts,B,hW,.inr ⟨hz,hU⟩⟩
   rw [if_neg c0]
   by_cases c3:d < 3
   · rw [if_pos c3]
     rcases hC with ⟨rfl,rfl⟩ | ⟨rfl,rfl⟩
     · exact .inr ⟨dx,fs,ho,hf.m _ (by simp),x,s,g,ts,B,hW,.inr (.inl ⟨hz,hU⟩)⟩
     · exact .inl ⟨dx,fs,ho,hf.m _ (by simp),x,s,g,ts,B,hW,.inr (.inl ⟨hz,hU⟩)⟩
   rw [if_neg c3]
   by_cases c4:d=3
   · rw [if_pos c4]
     rcases hC with ⟨rfl,rfl⟩ | ⟨rfl,rfl⟩
     · exact .inr ⟨dx,fs,ho,hf.m _ (by simp),x,s,g,ts,B,hW,.inr ⟨hz,hU⟩⟩
     · exact .inl ⟨dx,fs,ho,hf.m _ (by simp),x,s,g,ts,B,hW,.inr ⟨hz,hU⟩⟩
   rw [if_neg c4]
   rcases hC with ⟨rfl,rfl⟩ | ⟨rfl,rfl⟩
   · exact .inr ⟨dx,fs,ho,hf.m _ (by simp),x,s,hW.to.tw,g,ts,hW.to.sk,hW.to.tn,B,fun _=>True,.inr ⟨hz,hU⟩⟩
   · exact .inl ⟨dx,fs,ho,hf.m _ (by simp),x,s,hW.to.tw,g,ts,hW.to.sk,hW.to.tn,B,fun _=>True,.inr ⟨hz,hU⟩⟩
 · have hN:RefN Z4 H (W78 K Q Z3 Z4 t z d vv):=by
    intro H' e sm he er
    refine ⟨e,rfl,false,T.Z4d,?_⟩
    rw [if_neg (by decide)]
    refine ⟨true,T.Z32,?_⟩
    rw [if_pos rfl]
    exact ⟨by omega,fun p hp=>q p _ (sm.trans (Same.new hp)) ⟨_,upd_same,rfl⟩⟩
   clear q
   walk_at "go"
   rw [if_neg (show ¬d=0 by omega),if_pos h3]
   rcases hC with ⟨rfl,rfl⟩ | ⟨rfl,rfl⟩
   · exact .inr ⟨dx,fs,ho,hf.m _ (by simp),x,s,g,ts,B,hW,.inr (.inr ⟨hz,hnv,hwv,hN⟩)⟩
   · exact .inl ⟨dx,fs,ho,hf.m _ (by simp),x,s,g,ts,B,hW,.inr (.inr ⟨hz,hnv,hwv,hN⟩)⟩
 · have fin:∀(s':TwS) (g':Gt) (H':Hp) (n:Nat),n≤3→Off (own t x) H H'→TowG K C Z2 H' t x s' g' ts (B+n)→Stp pr d z v ts s g s' g'→2≤sizeLine∧∀p,H' p=none→Q (.ref p) (upd H' p (.tup [V.str "done",V.non])):=fun s' g' H' n hn o tow st=>⟨by omega,fun p hp=>q s' g' p _ (o.trans (.of (Same.new hp))) ((tow.up (by omega) (by omega)).same (Same.new hp)) st ⟨_,upd_same,rfl⟩⟩
   clear q
   walk_at "go"
   by_cases c0:d=0
   · rw [if_pos c0]
     rcases hC with ⟨rfl,rfl⟩ | ⟨rfl,rfl⟩
     · exact .inr ⟨dx,fs,ho,hf.m _ (by simp),x,s,g,ts,B,hW,.inl ⟨hz,hB,fun s' H' o tow e1 e2 e3 e4=>fin s' _ H' 2 (by omega) o tow (stp_read c0 e1 e2 e3 e4)⟩⟩
     · exact .inl ⟨dx,fs,ho,hf.m _ (by simp),x,s,g,ts,B,hW,.inl ⟨hz,hB,fun s' H' o tow e1 e2 e3 e4=>fin s' _ H' 2 (by omega) o tow (stp_read c0 e1 e2 e3 e4)⟩⟩
   rw [if_neg c0]
   by_cases c3:d < 3
   · rw [if_pos c3]
     obtain ⟨rfl,hv1,hv2⟩:=hv (by omega) c3
     rcases hC with ⟨rfl,rfl⟩ | ⟨rfl,rfl⟩
     · exact .inr ⟨dx,fs,ho,hf.m _ (by simp),x,s,g,ts,B,hW,.inl ⟨v,rfl,hv1,hv2,hz,hB,fun s' H' o tow e1 e2 e3 e4=>fin s' _ H' 3 (by omega) o tow (stp_keep (by omega) c3 e1 e2 e3 e4)⟩⟩
     · exact .inl ⟨dx,fs,ho,hf.m _ (by simp),x,s,g,ts,B,hW,.inl ⟨v,rfl,hv1,hv2,hz,hB,fun s' H' o tow e1 e2 e3 e4=>fin s' _ H' 3 (by omega) o tow (stp_keep (by omega) c3 e1 e2 e3 e4)⟩⟩
   rw [if_neg c3]
   by_cases c4:d=3
   · rw [if_pos c4]
     rcases hC with ⟨rfl,rfl⟩ | ⟨rfl,rfl⟩
     · exact .inr ⟨dx,fs,ho,hf.m _ (by simp),x,s,g,ts,B,hW,.inl ⟨hz,hB,fun s' H' o tow e1 e2 e3 e4=>fin s' _ H' 2 (by omega) o tow (stp_ahead c4 e1 e2 e3 e4)⟩⟩
     · exact .inl ⟨dx,fs,ho,hf.m _ (by simp),x,s,g,ts,B,hW,.inl ⟨hz,hB,fun s' H' o tow e1 e2 e3 e4=>fin s' _ H' 2 (by omega) o tow (stp_ahead c4 e1 e2 e3 e4)⟩⟩
   rw [if_neg c4]
   rcases hC with ⟨rfl,rfl⟩ | ⟨rfl,rfl⟩
   · exact .inr ⟨dx,fs,ho,hf.m _ (by simp),x,s,hW.to.tw,g,ts,hW.to.sk,hW.to.tn,B,_,.inl ⟨hz,hW.g,fin s g H 0 (by omega) (.of (Same.refl H)) hW (stp_stored (by omega))⟩⟩
   · exact .inl ⟨dx,fs,ho,hf.m _ (by simp),x,s,hW.to.tw,g,ts,hW.to.sk,hW.to.tn,B,_,.inl ⟨hz,hW.g,fin s g H 0 (by omega) (.of (Same.refl H)) hW (stp_stored (by omega))⟩⟩
theorem Z7s{f:Addr}{fd:FuncData}(F:Fun K "_law_state" "_law_state" Z2x f fd)(T:Txt K mg Z5 Z3 Z4 Z7 Z2 Z1 Z0)(Zb:DefM P w K mg base (CXF P w) 5 Z1 "stored" ["self","name"] (sp78_stored K Z1 Z2 Z3))(Z9:DefM P w K mg base (CXF P w) 5 Z0 "stored" ["self","name"] (sp78_stored K Z0 Z2 Z3))(Zt:DefM P w K mg base (CXF P w) 1 Z1 "levels" ["self"] (sp71_levels Z1))(Zn:DefM P w K mg base (CXF P w) 1 Z0 "levels" ["self"] (sp71_levels Z0))(Z1t:DefM P w K mg base (CXF P w) 1 Z1 "diary" ["self"] (sp74_diary Z1))(Z10:DefM P w K mg base (CXF P w) 1 Z0 "diary" ["self"] (sp74_diary Z0))(Z1u:DefM P w K mg base (CXF P w) 1 Z1 "found" ["self"] (sp79_found Z1))(Z11:DefM P w K mg base (CXF P w) 1 Z0 "found" ["self"] (sp79_found Z0))(Z1v:DefM P w K mg base (CXF P w) 1 Z1 "spent" ["self"] (sp75_spent Z1))(Z12:DefM P w K mg base (CXF P w) 1 Z0 "spent" ["self"] (sp75_spent Z0)):FnOk P w K mg base (CXF P w) 6 f fd ["_law_tower_here","_law_names_here"] (sp78_state K Z1 Z0 Z2):=by
 have sc:FnScope ["_law_tower_here","_law_names_here","_law_store"] ["_law_tower_here","_law_names_here"] (defScope Z2x):=⟨rfl,rfl,rfl,by decide+kernel,rfl,by decide+kernel,by decide+kernel⟩
 refine F.okF sc (fun vs H Q E h=>?_) (fun cdv A outer s H vs Q E hr h=>?_)
 · obtain ⟨C,t,a,x,s,g,ts,B,ys,rfl,hC,hW,ha,hl,hin,q⟩:=h;rfl
 obtain ⟨C,t,a,x,s,g,ts,B,ys,rfl,hC,hW,ha,hl,hin,q⟩:=h
 refine ⟨_,(@pss_cons _ _ _ _ _ (ps_comp1 (i:=2) "_law_name" [0] sc.nd rfl rfl rfl rfl (pi_list (pv 1)) (fun b=>(pe_or2 (pe_methS Zb T.Z8 hr (passS pass_noF) (pv 1) (pa_cons (pv 0) pa_nil)) (pe_methS Z9 T.Z6 hr (passS pass_noF) (pv 1) (pa_cons (pv 0) pa_nil)))))
  (@pss_one _ _ _ (@ps_ret _ _ _ _ (@pe_lst _ _ _ _ (pa_cons (pe_or2 (pe_methS0 Zt T.Z8 hr (passS pass_onF) (pv 0)) (pe_methS0 Zn T.Z6 hr (passS pass_onF) (pv 0))) (pa_cons (pe_or2 (pe_methS0 Z1t T.Z8 hr (passS pass_onF) (pv 0)) (pe_methS0 Z10 T.Z6 hr (passS pass_onF) (pv 0))) (pa_cons (pe_or2 (pe_methS0 Z1u T.Z8 hr (passS pass_onF) (pv 0)) (pe_methS0 Z11 T.Z6 hr (passS pass_onF) (pv 0))) (pa_cons (pe_or2 (pe_methS0 Z1v T.Z8 hr (passS pass_onF) (pv 0)) (pe_methS0 Z12 T.Z6 hr (passS pass_onF) (pv 0))) (pa_cons (pv 2) pa_nil))))))))),?_⟩
 rw [show start ["_law_tower_here","_law_names_here","_law_store"] [V.ref t,V.ref a]=[some (V.ref t),some (V.ref a),none] from rfl]
 have line:=line_val
 obtain ⟨dx,fs,ho,hf⟩:=hW.to.tw.o
 walk_at "go"
 refine ⟨⟨_,ha⟩,?_⟩
 rename_i rest hrest
 refine compL_pure (fun v=>match v with | .str y=>V.int (g.st y) | _=> .non) ha (by rw [List.length_map];omega) (fun b v H' Q' hv sm' q'=>?_) fun D hD=>?_
 · obtain ⟨y,hy,rfl⟩:=List.mem_map.mp hv
   have hW':=hW.same sm'
   obtain ⟨dx',fs',ho',hf'⟩:=hW'.to.tw.o
   clear hrest
   walk_at "go"
   rcases hC with rfl | rfl
   · exact .inr ⟨dx',fs',ho',hf'.m _ (by simp),x,s,hW'.to.tw,g,ts,hW'.to.sk,hW'.to.tn,B,_,.inl ⟨hin y hy,hW'.g,q'⟩⟩
   · exact .inl ⟨dx',fs',ho',hf'.m _ (by simp),x,s,hW'.to.tw,g,ts,hW'.to.sk,hW'.to.tn,B,_,.inl ⟨hin y hy,hW'.g,q'⟩⟩
 have hL:(ys.map V.str).map (fun v=>match v with | .str y=>V.int (g.st y) | _=> .non)=(ys.map g.st).map V.int:=by rw [List.map_map,List.map_map];rfl
 rw [hL]
 have s1:Same H (upd H D (.lst ((ys.map g.st).map V.int))):=Same.new hD
 have k1:upd H D (.lst ((ys.map g.st).map V.int)) D=some (.lst ((ys.map g.st).map V.int)):=upd_same
 generalize upd H D (.lst ((ys.map g.st).map V.int))=H1 at s1 k1 ⊢
 have hW1:=hW.same s1
 obtain ⟨dx1,fs1,ho1,hf1⟩:=hW1.to.tw.o
 subst hrest
 walk_at "go"
 obtain ⟨us,eu,en⟩:=en_of hW1
 have hel:=hW1.g.es_le
 have zl:=hW1.to.zl
 have zz:=hW1.to.zz
 have tw:=hW1.to.tw
 have fin:∀(lv di fo:Addr) (as:List Addr) (H2 H3 H4:Hp),Same H1 H2→H2 lv=some (.lst (as.map V.ref))→LvAt H2 as s.zs s.R s.zs.length→Same H2 H3→H3 di=some (.lst s.es)→Same H3 H4→H4 fo=some (.lst (s.ff.map V.int))→∀p,H4 p=none→Q (.ref p) (upd H4 p (.lst [.ref lv,.ref di,.ref fo,.int s.pd,.ref D])):=by
  intro lv di fo as H2 H3 H4 s2 klv hA s3 kdi s4 kfo p hp
  rw [eu]at kdi
  have sF:Same H4 (upd H4 p (.lst [.ref lv,.ref di,.ref fo,.int s.pd,.ref D])):=Same.new hp
  have s14:=(s2.trans s3).trans (s4.trans sF)
  exact q p lv di fo D as us _ (s1.trans s14) ⟨upd_same,sF _ _ (s4 _ _ (s3 _ _ klv)),((hA.same s3).same s4).same sF,sF _ _ (s4 _ _ kdi),en.same (fun v e h=>s14 _ _ h),sF _ _ kfo,s14 _ _ k1⟩
 clear q
 rcases hC with rfl | rfl
 · exact .inr ⟨dx1,fs1,ho1,hf1.m _ (by simp),x,s,tw,zl,zz,fun lv as H2 hlv s2 klv hA han nda npa=> .inr ⟨dx1,fs1,s2 _ _ ho1,hf1.m _ (by simp),x,s,tw.same s2,hel,fun di H3 hdi s3 kdi=> .inr ⟨dx1,fs1,s3 _ _ (s2 _ _ ho1),hf1.m _ (by simp),x,s,(tw.same s2).same s3,fun fo H4 hfo s4 kfo=> .inr ⟨dx1,fs1,s4 _ _ (s3 _ _ (s2 _ _ ho1)),hf1.m _ (by simp),x,s,((tw.same s2).same s3).same s4,by omega,fun p hp=>fin lv di fo as H2 H3 H4 s2 klv hA s3 kdi s4 kfo p hp⟩⟩⟩⟩
 · exact .inl ⟨dx1,fs1,ho1,hf1.m _ (by simp),x,s,tw,zl,zz,fun lv as H2 hlv s2 klv hA han nda npa=> .inl ⟨dx1,fs1,s2 _ _ ho1,hf1.m _ (by simp),x,s,tw.same s2,hel,fun di H3 hdi s3 kdi=> .inl ⟨dx1,fs1,s3 _ _ (s2 _ _ ho1),hf1.m _ (by simp),x,s,(tw.same s2).same s3,fun fo H4 hfo s4 kfo=> .inl ⟨dx1,fs1,s4 _ _ (s3 _ _ (s2 _ _ ho1)),hf1.m _ (by simp),x,s,((tw.same s2).same s3).same s4,by omega,fun p hp=>fin lv di fo as H2 H3 H4 s2 klv hA s3 kdi s4 kfo p hp⟩⟩⟩⟩
theorem Z6z{f:Addr}{fd:FuncData}(F:Fun K "_law_nothing" "_law_nothing" Z2b f fd)(T:Txt K mg Z5 Z3 Z4 Z7 Z2 Z1 Z0)(Z1w:Def P w K mg base (CXF P w) 8 "_law_tower" ["_law_stock","_law_sizes","_law_prompt"] (sp78_ltower K Z1 Z0 Z2 Z4 Z7))(Z16:DefI P w K mg base (CXF P w) 4 "Stock" Z2 ["self","rows"] (sp78_stock K Z2))(Z2f:Def P w K mg base (CXF P w) 8 "_law_tried" ["_law_tower_here","_law_name","_law_deed","_law_value_here"] (sp78_tried K Z1 Z0 Z2))(Zt:DefM P w K mg base (CXF P w) 1 Z1 "levels" ["self"] (sp71_levels Z1))(Zn:DefM P w K mg base (CXF P w) 1 Z0 "levels" ["self"] (sp71_levels Z0))(Z1u:DefM P w K mg base (CXF P w) 1 Z1 "found" ["self"] (sp79_found Z1))(Z11:DefM P w K mg base (CXF P w) 1 Z0 "found" ["self"] (sp79_found Z0))(Z1v:DefM P w K mg base (CXF P w) 1 Z1 "spent" ["self"] (sp75_spent Z1))(Z12:DefM P w K mg base (CXF P w) 1 Z0 "spent" ["self"] (sp75_spent Z0))(Z17:DefM P w K mg base (CXF P w) 4 Z1 "rest" ["self"] (sp79_rest K Z1 Z2))(Z0l:DefM P w K mg base (CXF P w) 4 Z0 "rest" ["self"] (sp79_rest K Z0 Z2))(Z1t:DefM P w K mg base (CXF P w) 1 Z1 "diary" ["self"] (sp74_diary Z1))(Z10:DefM P w K mg base (CXF P w) 1 Z0 "diary" ["self"] (sp74_diary Z0)):FnOk P w K mg base (CXF P w) 10 f fd ["_law_prompt"] (sp78_nothing):=by
 have sc:FnScope ["_law_prompt","_law_tower_here","_law_deed","_law_told"] ["_law_prompt"] (defScope Z2b):=⟨rfl,rfl,rfl,by decide+kernel,rfl,by decide+kernel,by decide+kernel⟩
 refine F.okF sc (fun vs H Q E h=>?_) (fun cdv A outer s H vs Q E hr h=>?_)
 · obtain ⟨i,rfl,q⟩:=h;rfl
 obtain ⟨i,rfl,q⟩:=h
 refine ⟨_,(@pss_cons _ _ _ _ _ (ps_set (i:=1) sc.nd rfl (Or.inl rfl) (pe_callD Z1w hr rfl pass_onF (pa_cons (pe_makeS Z16 hr rfl (passS pass_onF) (pa_cons (@pe_lst _ _ _ _ pa_nil) pa_nil)) (pa_cons (@pe_lst _ _ _ _ (pa_cons pe_int (pa_cons pe_int pa_nil))) (pa_cons (pv 0) pa_nil)))))
  (@pss_cons _ _ _ _ _ (ps_for own_outF rfl (pi_range1 rfl T.Z2p (pa_cons pe_int pa_nil)) (pg_name (i:=2) sc.nd rfl (Or.inl rfl))
   (@pss_one _ _ _ (ps_if (pt_cmpR (op_neN 3 hr) (pe_callD Z2f hr rfl pass_onF (pa_cons (pv 1) (@pa_consK _ _ _ _ _ _ _ pe_str (pa_cons (pv 2) (@pa_consK _ _ _ _ _ _ _ pe_int pa_nil))))) (pe_tup (pa_cons pe_str (pa_cons (pe_tup (pa_cons pe_str (pa_cons (pe_un un_neg pe_int) pa_nil))) pa_nil))) (nomark _))
    (@pss_one _ _ _ (@ps_ret _ _ _ _ pe_bl))
    pss_nil)))
  (@pss_cons _ _ _ _ _ (ps_set (i:=3) sc.nd rfl (Or.inl rfl) (@pe_lst _ _ _ _ (pa_cons (pe_or2 (pe_methS0 Zt T.Z8 hr (passS pass_onF) (pv 1)) (pe_methS0 Zn T.Z6 hr (passS pass_onF) (pv 1))) (pa_cons (pe_or2 (pe_methS0 Z1u T.Z8 hr (passS pass_onF) (pv 1)) (pe_methS0 Z11 T.Z6 hr (passS pass_onF) (pv 1))) (pa_cons (pe_or2 (pe_methS0 Z1v T.Z8 hr (passS pass_onF) (pv 1)) (pe_methS0 Z12 T.Z6 hr (passS pass_onF) (pv 1))) (pa_cons (pe_or2 (pe_methS0 Z17 T.Z8 hr (passS pass_onF) (pv 1)) (pe_methS0 Z0l T.Z6 hr (passS pass_onF) (pv 1))) (pa_cons (pe_or2 (pe_methS0 Z1t T.Z8 hr (passS pass_onF) (pv 1)) (pe_methS0 Z10 T.Z6 hr (passS pass_onF) (pv 1))) pa_nil)))))))
  (@pss_one _ _ _ (@ps_ret _ _ _ _ (pe_cmpR (op_eqN 3 hr) (pv 3) (@pe_lst _ _ _ _ (pa_cons (@pe_lst _ _ _ _ (pa_cons (@pe_lst _ _ _ _ pa_nil) (pa_cons (@pe_lst _ _ _ _ pa_nil) pa_nil))) (pa_cons (@pe_lst _ _ _ _ (pa_cons pe_int (pa_cons pe_int (pa_cons pe_int pa_nil)))) (@pa_consK _ _ _ _ _ _ _ pe_int (@pa_consK _ _ _ _ _ _ _ pe_int (pa_cons (@pe_lst _ _ _ _ pa_nil) pa_nil)))))) (nomark _))))))),?_⟩
 rw [show start ["_law_prompt","_law_tower_here","_law_deed","_law_told"] [V.int i]=[some (V.int i),none,none,none] from rfl]
 have line:=line_val
 walk_at "go"
 intro e0 he0 st dx hst hdx ne1
 have nse:st≠e0:=fun e=>by rw [e,upd_same]at hst;cases hst
 have nde:dx≠e0:=fun e=>by rw [e,upd_same]at hdx;cases hdx
 refine ⟨dx,upd_same,[],SqL.of (by rw [upd_ne nse.symm,upd_ne nde.symm];exact upd_same),(fun t ht=>by cases ht),rfl,fun H1 d sb stk hp1 hd1=>⟨by omega,fun sp hsp=>?_⟩⟩
 have sm1:Same H H1:=(Same.new he0).trans (same_made hst hdx sb)
 have s2:Same H1 (upd H1 sp (.lst [V.int 3,V.int 2])):=Same.new hsp
 have k2:upd H1 sp (.lst [V.int 3,V.int 2]) sp=some (.lst [V.int 3,V.int 2]):=upd_same
 generalize upd H1 sp (.lst [V.int 3,V.int 2])=H2 at s2 k2 ⊢
 refine ⟨[],[V.int 3,V.int 2],⟨stk.same s2,by simp,by simp,SqL.of k2,by simp,(fun v hv=>int_num (zs:=[3,2]) hv),(fun y hy=>by cases hy)⟩,.inl ⟨[3,2],⟨rfl,(fun t ht=>by cases ht),by decide,by decide,by decide⟩,fun C t x s H3 s3 nw=>?_⟩⟩
 have smA:Same H H3:=(sm1.trans s2).trans s3
 have hnew:∀b∈x.si::own t x,H b=none:=fun b hb=>N53.none_of (sm1.trans s2) (nw.n b hb)
 clear sb stk hp1 hd1 hsp hst hdx ne1 he0 k2 nse nde
 obtain ⟨pr,hC⟩:∃pr:Bool,pr=true∧C=Z0∨pr=false∧C=Z1:=by
  rcases nw.c with h | h
  · exact ⟨true,.inl ⟨rfl,h.2⟩⟩
  · exact ⟨false,.inr ⟨rfl,h.2⟩⟩
 rename_i rest hrest
 subst hrest
 walk_at "go"
 rename_i rest hrest
 refine forR_by (fun k σ H'=>∃v2:Option V,σ=[some (V.int i),some (V.ref t),v2,none]∧Same H3 H') ⟨none,rfl,Same.refl H3⟩ ?_ ?_
 · clear hrest
   rintro k σ H' hk ⟨v2,rfl,sm⟩
   have hW:=nw.w.same sm
   walk_at "go"
   refine ⟨C,pr,hC,x,s,g0,[],1,hW,by decide,by omega,by omega,.inl ⟨by simp,fun tp H4 s4 tr=>?_⟩⟩
   refine ⟨by omega,fun p hp=>⟨by omega,fun p1 hp1=>?_⟩⟩
   have s5:=(Same.new (o:= .tup [V.str "x",V.int (-1)]) hp).trans (Same.new (o:= .tup [V.str "unknown",V.ref p]) hp1)
   exact ⟨tr_like (tr.same s5) ⟨_,upd_same,p,rfl,by rw [upd_ne (ne_of_none upd_same hp1)];exact upd_same⟩,(sm.trans s4).trans s5⟩
 · rintro σ H' ⟨v2,rfl,sm⟩
   subst hrest
   have hW:=nw.w.same sm
   obtain ⟨dx,fs,ho,hf⟩:=hW.to.tw.o
   walk_at "go"
   rename_i rest hrest
   have live:∀b∈own t x,∃o,H' b=some o:=fun b hb=>own_some hW.to.tw b (List.mem_cons_of_mem _ hb)
   have fin:∀(lv fo di p:Addr) (as us:List Addr) (x':TwA) (s':TwS) (H2 H4 H5 H6:Hp),Same H' H2→H' lv=none→H2 lv=some (.lst (as.map V.ref))→LvAt H2 as s.zs s.R s.zs.length→(∀a∈as,H' a=none)→Same H2 H4→H2 fo=none→H4 fo=some (.lst (s.ff.map V.int))→Off (own t x) H4 H5→Same H5 H6→H6 di=some (.lst (us.map V.ref))→us.length=(restG s.R g0).es.length→H6 p=none→rest [some (V.int i),some (V.ref t),v2,some (V.ref p)] (upd H6 p (.lst [V.ref lv,V.ref fo,V.int s.pd,V.int ((s.R.filter g0.l).length:Nat),V.ref di])):=by
    intro lv fo di p as us x' s' H2 H4 H5 H6 s2 hlv klv hA han s4 hfo kfo o5 s6 kdi hul hp
    rw [nw.r,nw.z]at hA
    rw [nw.ff]at kfo
    rw [nw.r]at hul ⊢
    rw [nw.pd]
    have hus:us=[]:=List.length_eq_zero_iff.mp hul
    rw [hus]at kdi
    have far:∀b,H' b=none→b∉own t x:=fun b e hb=>by obtain ⟨o,k⟩:=live b hb;rw [e]at k;cases k
    have k1:H6 lv=some (.lst (as.map V.ref)):=s6 _ _ (o5 _ _ (s4 _ _ klv) (far lv hlv))
    have k2:LvAt H6 as [3,2] [] 2:=⟨hA.1,fun j a ha=>s6 _ _ (o5 _ _ (s4 _ _ (hA.2 j a ha)) (far a (han a (List.mem_of_getElem? ha))))⟩
    have k3:H6 fo=some (.lst [V.int 0,V.int 0,V.int 0]):=s6 _ _ (o5 _ _ kfo (far fo (N53.none_of s2 hfo)))
    have smF:Same H H6:=fun b o e=>s6 _ _ (o5 _ _ (s4 _ _ (s2 _ _ (sm _ _ (smA _ _ e)))) (fun hb=>by rw [hnew b (List.mem_cons_of_mem _ hb)]at e;cases e))
    clear klv hA kfo o5 s6 s4 s2 hul hus far hfo hlv han
    subst hrest
    walk_at "go"
    intro p1 hp1
    have s0:Same H6 (upd H6 p (.lst [V.ref lv,V.ref fo,V.int 0,V.int ((([]:List Str).filter g0.l).length:Nat),V.ref di])):=Same.new hp
    have j0:upd H6 p (.lst [V.ref lv,V.ref fo,V.int 0,V.int ((([]:List Str).filter g0.l).length:Nat),V.ref di]) p=some (.lst [V.ref lv,V.ref fo,V.int 0,V.int 0,V.ref di]):=upd_same
    generalize upd H6 p (.lst [V.ref lv,V.ref fo,V.int 0,V.int ((([]:List Str).filter g0.l).length:Nat),V.ref di])=G0 at s0 j0 hp1 ⊢
    refine ⟨by omega,fun p2 hp2=>?_⟩
    have s1:Same G0 (upd G0 p1 (.lst [])):=Same.new hp1
    have j1:upd G0 p1 (.lst []) p1=some (.lst []):=upd_same
    generalize upd G0 p1 (.lst [])=G1 at s1 j1 hp2 ⊢
    refine ⟨by omega,fun p3 hp3=>?_⟩
    have t2:Same G1 (upd G1 p2 (.lst [])):=Same.new hp2
    have j2:upd G1 p2 (.lst []) p2=some (.lst []):=upd_same
    generalize upd G1 p2 (.lst [])=G2 at t2 j2 hp3 ⊢
    refine ⟨by omega,fun p4 hp4=>?_⟩
    have t3:Same G2 (upd G2 p3 (.lst [V.ref p1,V.ref p2])):=Same.new hp3
    have j3:upd G2 p3 (.lst [V.ref p1,V.ref p2]) p3=some (.lst [V.ref p1,V.ref p2]):=upd_same
    generalize upd G2 p3 (.lst [V.ref p1,V.ref p2])=G3 at t3 j3 hp4 ⊢
    refine ⟨by omega,fun p5 hp5=>?_⟩
    have t4:Same G3 (upd G3 p4 (.lst [V.int 0,V.int 0,V.int 0])):=Same.new hp4
    have j4:upd G3 p4 (.lst [V.int 0,V.int 0,V.int 0]) p4=some (.lst [V.int 0,V.int 0,V.int 0]):=upd_same
    generalize upd G3 p4 (.lst [V.int 0,V.int 0,V.int 0])=G4 at t4 j4 hp5 ⊢
    refine ⟨by omega,fun p6 hp6=>?_⟩
    have t56:Same G4 (upd (upd G4 p5 (.lst [])) p6 (.lst [V.ref p3,V.ref p4,V.int 0,V.int 0,V.ref p5])):=(Same.new hp5).trans (Same.new hp6)
    have j5:upd (upd G4 p5 (.lst [])) p6 (.lst [V.ref p3,V.ref p4,V.int 0,V.int 0,V.ref p5]) p5=some (.lst []):=(Same.new hp6) _ _ upd_same
    have j6:upd (upd G4 p5 (.lst [])) p6 (.lst [V.ref p3,V.ref p4,V.int 0,V.int 0,V.ref p5]) p6=some (.lst [V.ref p3,V.ref p4,V.int 0,V.int 0,V.ref p5]):=upd_same
    generalize upd (upd G4 p5 (.lst [])) p6 (.lst [V.ref p3,V.ref p4,V.int 0,V.int 0,V.ref p5])=G6 at t56 j5 j6 ⊢
    have u4:=t4.trans t56
    have u3:=t3.trans u4
    have u2:=t2.trans u3
    have u1:=s1.trans u2
    have u0:=s0.trans u1
    have lv2:LvAt G6 [p1,p2] [3,2] [] 2:=⟨rfl,fun k a ha=>by
     match k,ha with
     | 0,ha=>cases ha;exact u2 _ _ j1
     | 1,ha=>cases ha;exact u3 _ _ j2⟩
    refine ⟨five_like (u1 _ _ j0) j6 (lv_like (u0 _ _ k1) (k2.same u0) (u4 _ _ j3) lv2) (list_like (u0 _ _ k3) (t56 _ _ j4) (by decide)) (list_like (u0 _ _ kdi) j5 (by decide)),q _ (smF.trans u0)⟩
   clear hrest
   rcases hC with ⟨rfl,rfl⟩ | ⟨rfl,rfl⟩
   · refine (Or.inr ?_:_∨_)
     refine ⟨_,rfl,t,dx,fs,rfl,ho,hf.m _ (by simp),t,x,s,rfl,hW.to.tw,hW.to.zl,hW.to.zz,fun lv as H2 hlv s2 klv hA han nda npa=>?_⟩
     refine (Or.inr ?_:_∨_)
     refine ⟨_,rfl,t,dx,fs,rfl,s2 _ _ ho,hf.m _ (by simp),t,x,s,rfl,(hW.same s2).to.tw,fun fo H4 hfo s4 kfo=>?_⟩
     refine (Or.inr ?_:_∨_)
     refine ⟨_,rfl,t,dx,fs,rfl,s4 _ _ (s2 _ _ ho),hf.m _ (by simp),t,x,s,rfl,((hW.same s2).same s4).to.tw,?_⟩
     refine (Or.inr ?_:_∨_)
     refine ⟨_,rfl,t,dx,fs,rfl,s4 _ _ (s2 _ _ ho),hf.m _ (by simp),t,x,s,g0,[],1,rfl,(hW.same s2).same s4,by decide,fun x' s' H5 o5 own5 tow5 eR eZ eP eF est esi=>?_⟩
     obtain ⟨dx5,fs5,ho5,hf5⟩:=tow5.to.tw.o
     refine (Or.inr ?_:_∨_)
     refine ⟨_,rfl,t,dx5,fs5,rfl,ho5,hf5.m _ (by simp),t,x',s',rfl,tow5.to.tw,tow5.g.es_le,fun di H6 hdi s6 kdi=>?_⟩
     refine ⟨by show 5≤sizeLine;omega,fun p hp=>?_⟩
     obtain ⟨us,eu,en⟩:=en_of tow5
     exact fin lv fo di p as us x' s' H2 H4 H5 H6 s2 hlv klv hA han s4 hfo kfo o5 s6 (by rw [← eu];exact kdi) en.1 hp
   · refine (Or.inl ?_:_∨_)
     refine ⟨_,rfl,t,dx,fs,rfl,ho,hf.m _ (by simp),t,x,s,rfl,hW.to.tw,hW.to.zl,hW.to.zz,fun lv as H2 hlv s2 klv hA han nda npa=>?_⟩
     refine (Or.inl ?_:_∨_)
     refine ⟨_,rfl,t,dx,fs,rfl,s2 _ _ ho,hf.m _ (by simp),t,x,s,rfl,(hW.same s2).to.tw,fun fo H4 hfo s4 kfo=>?_⟩
     refine (Or.inl ?_:_∨_)
     refine ⟨_,rfl,t,dx,fs,rfl,s4 _ _ (s2 _ _ ho),hf.m _ (by simp),t,x,s,rfl,((hW.same s2).same s4).to.tw,?_⟩
     refine (Or.inl ?_:_∨_)
     refine ⟨_,rfl,t,dx,fs,rfl,s4 _ _ (s2 _ _ ho),hf.m _ (by simp),t,x,s,g0,[],1,rfl,(hW.same s2).same s4,by decide,fun x' s' H5 o5 own5 tow5 eR eZ eP eF est esi=>?_⟩
     obtain ⟨dx5,fs5,ho5,hf5⟩:=tow5.to.tw.o
     refine (Or.inl ?_:_∨_)
     refine ⟨_,rfl,t,dx5,fs5,rfl,ho5,hf5.m _ (by simp),t,x',s',rfl,tow5.to.tw,tow5.g.es_le,fun di H6 hdi s6 kdi=>?_⟩
     refine ⟨by show 5≤sizeLine;omega,fun p hp=>?_⟩
     obtain ⟨us,eu,en⟩:=en_of tow5
     exact fin lv fo di p as us x' s' H2 H4 H5 H6 s2 hlv klv hA han s4 hfo kfo o5 s6 (by rw [← eu];exact kdi) en.1 hp
theorem Z70{f:Addr}{fd:FuncData}(F:Fun K "_law_at_last" "_law_at_last" Z2c f fd)(T:Txt K mg Z5 Z3 Z4 Z7 Z2 Z1 Z0)(Z15:DefM P w K mg base (CXF P w) 7 Z1 "read" ["self","name"] (sp78_read K Z1 Z2 Z3))(Z0k:DefM P w K mg base (CXF P w) 7 Z0 "read" ["self","name"] (sp78_read K Z0 Z2 Z3))(Z17:DefM P w K mg base (CXF P w) 4 Z1 "rest" ["self"] (sp79_rest K Z1 Z2))(Z0l:DefM P w K mg base (CXF P w) 4 Z0 "rest" ["self"] (sp79_rest K Z0 Z2))(Z27:Def P w K mg base (CXF P w) 6 "_law_state" ["_law_tower_here","_law_names_here"] (sp78_state K Z1 Z0 Z2))(Zb:DefM P w K mg base (CXF P w) 5 Z1 "stored" ["self","name"] (sp78_stored K Z1 Z2 Z3))(Z9:DefM P w K mg base (CXF P w) 5 Z0 "stored" ["self","name"] (sp78_stored K Z0 Z2 Z3)):FnOk P w K mg base (CXF P w) 8 f fd ["_law_tower_here","_law_twin","_law_values"] (sp78_last K Z1 Z0 Z2):=by
 have sc:FnScope ["_law_tower_here","_law_twin","_law_values","_law_name"] ["_law_tower_here","_law_twin","_law_values"] (defScope Z2c):=⟨rfl,rfl,rfl,by decide+kernel,rfl,by decide+kernel,by decide+kernel⟩
 refine F.okF sc (fun vs H Q E h=>?_) (fun cdv A outer s H vs Q E hr h=>?_)
 · obtain ⟨w1,w2,vd,sts,ts,B,ys,cv,rfl,hC,tz,al,hB,cu,hvd,hyl,hyin,hyn,q⟩:=h;rfl
 obtain ⟨w1,w2,vd,sts,ts,B,ys,cv,rfl,hC,tz,al,hB,cu,hvd,hyl,hyin,hyn,q⟩:=h
 refine ⟨_,(@pss_cons _ _ _ _ _ (ps_thaw (ps_for own_outF rfl (pi_dict (pv 2)) (pg_name (i:=3) sc.nd rfl (Or.inl rfl))
  (@pss_one _ _ _ (ps_if (PW.pt (pw_or (pt_cmpR op_ne (pe_or2 (pe_methS Z15 T.Z8 hr (passS pass_onF) (pv 0) (pa_cons (pv 3) pa_nil)) (pe_methS Z0k T.Z6 hr (passS pass_onF) (pv 0) (pa_cons (pv 3) pa_nil))) (pe_dget (hu_of hr) (pv 2) (pv 3) (fun _ _=>rfl)) (nomark _)) (pw_or1 (pt_cmpR op_ne (pe_or2 (pe_methS Z15 T.Z8 hr (passS pass_onF) (pv 1) (pa_cons (pv 3) pa_nil)) (pe_methS Z0k T.Z6 hr (passS pass_onF) (pv 1) (pa_cons (pv 3) pa_nil))) (pe_dget (hu_of hr) (pv 2) (pv 3) (fun _ _=>rfl)) (nomark _)))))
   (@pss_one _ _ _ (@ps_ret _ _ _ _ pe_bl))
   pss_nil))))
  (@pss_cons _ _ _ _ _ (ps_if (PW.pt (pw_or (pt_cmpR op_ne (pe_or2 (pe_methS0 Z17 T.Z8 hr (passS pass_onF) (pv 0)) (pe_methS0 Z0l T.Z6 hr (passS pass_onF) (pv 0))) (pe_or2 (pe_methS0 Z17 T.Z8 hr (passS pass_onF) (pv 1)) (pe_methS0 Z0l T.Z6 hr (passS pass_onF) (pv 1))) (nomark _)) (pw_or1 (pt_cmpR (op_neN 3 hr) (pe_callD Z27 hr rfl pass_onF (pa_cons (pv 0) (pa_cons (pe_callTy (call_listD rfl) rfl T.Z1y (by first | rfl | decide+kernel) (pa_cons (pv 2) pa_nil)) pa_nil))) (pe_callD Z27 hr rfl pass_onF (pa_cons (pv 1) (pa_cons (pe_callTy (call_listD rfl) rfl T.Z1y (by first | rfl | decide+kernel) (pa_cons (pv 2) pa_nil)) pa_nil))) (nomark _)))))
   (@pss_one _ _ _ (@ps_ret _ _ _ _ pe_bl))
   pss_nil)
  (@pss_cons _ _ _ _ _ (ps_thaw (ps_for own_outF rfl (pi_dict (pv 2)) (pg_name (i:=3) sc.nd rfl (Or.inl rfl))
   (@pss_one _ _ _ (ps_if (pt_cmpR op_ne (pe_or2 (pe_methS Zb T.Z8 hr (passS pass_onF) (pv 0) (pa_cons (pv 3) pa_nil)) (pe_methS Z9 T.Z6 hr (passS pass_onF) (pv 0) (pa_cons (pv 3) pa_nil))) (pe_dget (hu_of hr) (pv 2) (pv 3) (fun _ _=>rfl)) (nomark _))
    (@pss_one _ _ _ (@ps_ret _ _ _ _ pe_bl))
    pss_nil))))
  (@pss_one _ _ _ (@ps_ret _ _ _ _ pe_bl))))),?_⟩
 rw [show start ["_law_tower_here","_law_twin","_law_values","_law_name"] [V.ref w1.t,V.ref w2.t,V.ref vd]=[some (V.ref w1.t),some (V.ref w2.t),some (V.ref vd),none] from rfl]
 have line:=line_val
 obtain ⟨C,t1,x1,s1,g⟩:=w1
 obtain ⟨C',t2,x2,s2,g'⟩:=w2
 obtain ⟨a1,a2,a3,a4,a5,a6⟩:=al
 replace a1:C'=C:=a1
 replace a6:g'=g:=a6
 subst a1
 subst a6
 have e5:Eq5 s1 s2:=⟨a2,a3,a4,a5⟩
 clear a2 a3 a4 a5
 replace cu:Cur s1.R g' cv:=cu
 replace hC:C'=Z0∨C'=Z1:=hC
 walk_at "go"
 refine ⟨_,.inl ⟨hvd,fun o=>?_⟩⟩
 rcases hC with rfl | rfl
 · skip
   have tzF:=(tz.put (c:=vd) (u:= .frz o (.dK (kv78 ys cv))) (by simp) (fun e=>by intro z;cases z) (fun b u e n=>by rw [upd_ne n];exact e) upd_same).1
   rename_i rest hrest
   refine forK_by (kvs:=kv78 ys cv) (fun i σ H'=>∃(v3:Option V) (s3 s4:TwS) (gg:Gt),σ=[some (V.ref t1),some (V.ref t2),some (V.ref vd),v3]∧Twz K Z2 sts ts (B+4 * i) H' [vd] [⟨C',t1,x1,s3,gg⟩,⟨C',t2,x2,s4,gg⟩]∧Eq5 s3 s4∧Cur s3.R gg cv∧H' vd=some (.frz o (.dK (kv78 ys cv)))) ⟨none,s1,s2,g',rfl,tzF,e5,cu,upd_same⟩ (fun i σ H' _ h_=>by obtain ⟨_,_,_,_,_,_,_,_,h⟩:=h_;exact h) ?_ ?_
   · clear hrest
     rintro i p σ H' hp ⟨v3,s3,s4,gg,rfl,tz3,f5,cu3,hfz3⟩
     obtain ⟨y,hy,rfl⟩:∃y,y∈ys∧p=(Sum.inr y,V.int (cv y)):=by
      obtain ⟨y,hy,e⟩:=List.mem_map.mp (List.mem_of_getElem? hp)
      exact ⟨y,hy,e.symm⟩
     have hil:i < ys.length:=by have:=(List.getElem?_eq_some_iff.mp hp).1;rw [kv78_len]at this;exact this
     have hyt:=hyin y hy
     have W1:=tz3.ok ⟨C',t1,x1,s3,gg⟩ (by simp)
     obtain ⟨dx1,fs1,ho1,hf1⟩:=W1.to.tw.o
     have cr:=cur_read (S:=s3.zs.sum) (z:=y) cu3 W1.g.lh
     rw [show kV ((Sum.inr y:Key),V.int (cv y)).1=V.str y from rfl]
     walk_at "go"
     refine .inr ⟨dx1,fs1,ho1,hf1.m _ (by simp),x1,s3,gg,ts,B+4 * i,W1,.inl ⟨hyt,by omega,fun s5 H5 o5 W5 a1 a2 a3 a4=>?_⟩⟩
     obtain ⟨tz5,sr5,kk5⟩:=Twz.deed (l1:=[]) (w':=⟨C',t1,x1,s5,readG s3.zs.sum s3.R y gg⟩) (l2:=[⟨C',t2,x2,s4,gg⟩]) tz3 o5 (fun b hb=> .inl hb) W5 (by omega) rfl rfl
     have hfz5:=kk5 vd (by simp) _ hfz3
     refine ⟨V.int (cv y),kv78_get hy hfz5,rfl,?_⟩
     rw [if_neg (fun h=>h (by rw [cr.2]))]
     have W2:=tz5.ok ⟨C',t2,x2,s4,gg⟩ (by simp)
     obtain ⟨dx2,fs2,ho2,hf2⟩:=W2.to.tw.o
     refine .inr ⟨dx2,fs2,ho2,hf2.m _ (by simp),x2,s4,gg,ts,B+4 * i+2,W2,.inl ⟨hyt,by omega,fun s6 H6 o6 W6 b1 b2 b3 b4=>?_⟩⟩
     rw [f5.1,f5.2.1]at W6 b4 ⊢
     rw [f5.2.1]at b3
     obtain ⟨tz6,sr6,kk6⟩:=Twz.deed (l1:=[⟨C',t1,x1,s5,readG s3.zs.sum s3.R y gg⟩]) (w':=⟨C',t2,x2,s6,readG s3.zs.sum s3.R y gg⟩) (l2:=[]) tz5 o6 (fun b hb=> .inl hb) W6 (by omega) rfl rfl
     have hfz6:=kk6 vd (by simp) _ hfz5
     refine ⟨V.int (cv y),kv78_get hy hfz6,rfl,?_⟩
     rw [if_neg (fun h=>h (by rw [cr.2]))]
     have eR:s6.R=s5.R:=by rw [b1,a1];unfold cameR;rw [f5.1,f5.2.1]
     exact ⟨s5,s6,readG s3.zs.sum s3.R y gg,by rw [show B+4 * (i+1)=B+4 * i+2+2 by omega];exact tz6,⟨by rw [b2,a2,f5.1],eR,by rw [b3,a3,f5.2.2.1],by rw [b4,a4,f5.2.2.2]⟩,by rw [a1];exact cr.1,hfz6⟩
   · rintro σ H' ⟨v3,s3,s4,gg,rfl,tz3,f5,cu3,hfz3⟩
     rw [kv78_len]at tz3
     subst hrest
     refine .inr ⟨vd,o,_,hfz3,(fun o' u' z=>by have z':H vd=some (.frz o' u'):=z;rw [hvd]at z';cases z'),?_⟩
     have tz3':=(tz3.put (c:=vd) (u:= .dK (kv78 ys cv)) (by simp) (fun e=>by intro z;cases z) (fun b u e n=>by rw [upd_ne n];exact e) upd_same).1
     have hv3:upd H' vd (.dK (kv78 ys cv)) vd=some (.dK (kv78 ys cv)):=upd_same
     generalize upd H' vd (.dK (kv78 ys cv))=H7 at tz3' hv3 ⊢
     clear tz3 hfz3
     have tz3:=tz3'
     clear tz3'
     have W1:=tz3.ok ⟨C',t1,x1,s3,gg⟩ (by simp)
     obtain ⟨dx1,fs1,ho1,hf1⟩:=W1.to.tw.o
     have cr:=cur_rest cu3 W1.g.lh
     walk_at "go"
     refine .inr ⟨dx1,fs1,ho1,hf1.m _ (by simp),x1,s3,gg,ts,_,W1,by omega,fun x5 s5 H5 o5 n5 W5 a1 a2 a3 a4 a5 a6=>?_⟩
     obtain ⟨tz5,sr5,kk5⟩:=Twz.deed (l1:=[]) (w':=⟨C',t1,x5,s5,restG s3.R gg⟩) (l2:=[⟨C',t2,x2,s4,gg⟩]) tz3 o5 n5 W5 (by omega) a5 a6
     have hv5:=kk5 vd (by simp) _ hv3
     have W2:=tz5.ok ⟨C',t2,x2,s4,gg⟩ (by simp)
     obtain ⟨dx2,fs2,ho2,hf2⟩:=W2.to.tw.o
     refine .inr ⟨dx2,fs2,ho2,hf2.m _ (by simp),x2,s4,gg,ts,_,W2,by omega,fun x6 s6 H6 o6 n6 W6 b1 b2 b3 b4 b5 b6=>?_⟩
     rw [f5.2.1]at W6 ⊢
     obtain ⟨tz6,sr6,kk6⟩:=Twz.deed (l1:=[⟨C',t1,x5,s5,restG s3.R gg⟩]) (w':=⟨C',t2,x6,s6,restG s3.R gg⟩) (l2:=[]) tz5 o6 n6 W6 (by omega) b5 b6
     have hv6:=kk6 vd (by simp) _ hv5
     have hkeys:(kv78 ys cv).map (fun p=>kV p.1)=ys.map V.str:=by unfold kv78;rw [List.map_map];rfl
     rw [if_neg (fun h=>h rfl)]
     refine ⟨_,hv6,fun l1 hl1=>?_⟩
     rw [hkeys]
     have u1:Same H6 (upd H6 l1 (.lst (ys.map V.str))):=Same.new hl1
     have kl1:upd H6 l1 (.lst (ys.map V.str)) l1=some (.lst (ys.map V.str)):=upd_same
     generalize upd H6 l1 (.lst (ys.map V.str))=H8 at u1 kl1 ⊢
     have tz8:=tz6.same u1
     have W5':=tz8.ok ⟨C',t1,x5,s5,restG s3.R gg⟩ (by simp)
     refine ⟨C',.inl rfl,x5,s5,_,ts,_,W5',ys,SqL.of kl1,hyl,hyin,fun p lv di fo so as us H9 u9 st9=>⟨_,u9 _ _ (u1 _ _ hv6),fun l2 hl2=>?_⟩⟩
     rw [hkeys]
     have u2:Same H9 (upd H9 l2 (.lst (ys.map V.str))):=Same.new hl2
     have kl2:upd H9 l2 (.lst (ys.map V.str)) l2=some (.lst (ys.map V.str)):=upd_same
     generalize upd H9 l2 (.lst (ys.map V.str))=H10 at u2 kl2 ⊢
     have tz10:=(tz8.same u9).same u2
     have W6':=tz10.ok ⟨C',t2,x6,s6,restG s3.R gg⟩ (by simp)
     refine ⟨C',.inl rfl,x6,s6,_,ts,_,W6',ys,SqL.of kl2,hyl,hyin,fun p2 lv2 di2 fo2 so2 as2 us2 H11 u11 st11=>?_⟩
     rw [b2,b1,b4,b3,f5.1,f5.2.1,f5.2.2.1,f5.2.2.2]at st11
     rw [a2,a1,a4,a3]at st9
     refine ⟨state_like (st9.same (u2.trans u11)) st11 W5'.g.fl,?_⟩
     have tz11:=tz10.same u11
     have hv11:=u11 _ _ (u2 _ _ (u9 _ _ (u1 _ _ hv6)))
     clear st9 st11 u11 u9 u2 u1 W6' W5' tz10 tz8 kl1 kl2 hv6 hv5 tz6 tz5 W5 W6 W1 W2 o5 o6 n5 n6 kk5 kk6 sr5 sr6
     rename_i rest hrest
     subst hrest
     walk_at "go"
     refine ⟨_,.inl ⟨hv11,fun o2=>?_⟩⟩
     have tzG:=(tz11.put (c:=vd) (u:= .frz o2 (.dK (kv78 ys cv))) (by simp) (fun e=>by intro z;cases z) (fun b u e n=>by rw [upd_ne n];exact e) upd_same).1
     rename_i rest hrest
     have hfG:upd H11 vd (.frz o2 (.dK (kv78 ys cv))) vd=some (.frz o2 (.dK (kv78 ys cv))):=upd_same
     generalize upd H11 vd (.frz o2 (.dK (kv78 ys cv)))=H12 at tzG hfG ⊢
     refine forK_by (kvs:=kv78 ys cv) (fun i σ H'=>∃v3:Option V,σ=[some (V.ref t1),some (V.ref t2),some (V.ref vd),v3]∧Same H12 H') ⟨_,rfl,Same.refl H12⟩ (fun i σ H' _ h_=>by obtain ⟨_,_,sm⟩:=h_;exact sm _ _ hfG) ?_ ?_
     · clear hrest
       rintro i p σ H' hp ⟨v3,rfl,sm⟩
       obtain ⟨y,hy,rfl⟩:∃y,y∈ys∧p=(Sum.inr y,V.int (cv y)):=by
        obtain ⟨y,hy,e⟩:=List.mem_map.mp (List.mem_of_getElem? hp)
        exact ⟨y,hy,e.symm⟩
       have hyt:=hyin y hy
       have W1:=(tzG.same sm).ok ⟨C',t1,x5,s5,restG s3.R gg⟩ (by simp)
       obtain ⟨dx1,fs1,ho1,hf1⟩:=W1.to.tw.o
       rw [show kV ((Sum.inr y:Key),V.int (cv y)).1=V.str y from rfl]
       walk_at "go"
       refine .inr ⟨dx1,fs1,ho1,hf1.m _ (by simp),x5,s5,W1.to.tw,restG s3.R gg,ts,W1.to.sk,W1.to.tn,_,_,.inl ⟨hyt,W1.g,V.int (cv y),kv78_get hy (sm _ _ hfG),rfl,?_⟩⟩
       rw [if_neg (fun h=>h (by rw [cr y]))]
       exact sm
     · rintro σ H' ⟨v3,rfl,sm⟩
       subst hrest
       refine .inl ?_
       walk_at "go"
       exact q _
 · skip
   have tzF:=(tz.put (c:=vd) (u:= .frz o (.dK (kv78 ys cv))) (by simp) (fun e=>by intro z;cases z) (fun b u e n=>by rw [upd_ne n];exact e) upd_same).1
   rename_i rest hrest
   refine forK_by (kvs:=kv78 ys cv) (fun i σ H'=>∃(v3:Option V) (s3 s4:TwS) (gg:Gt),σ=[some (V.ref t1),some (V.ref t2),some (V.ref vd),v3]∧Twz K Z2 sts ts (B+4 * i) H' [vd] [⟨C',t1,x1,s3,gg⟩,⟨C',t2,x2,s4,gg⟩]∧Eq5 s3 s4∧Cur s3.R gg cv∧H' vd=some (.frz o (.dK (kv78 ys cv)))) ⟨none,s1,s2,g',rfl,tzF,e5,cu,upd_same⟩ (fun i σ H' _ h_=>by obtain ⟨_,_,_,_,_,_,_,_,h⟩:=h_;exact h) ?_ ?_
   · clear hrest
     rintro i p σ H' hp ⟨v3,s3,s4,gg,rfl,tz3,f5,cu3,hfz3⟩
     obtain ⟨y,hy,rfl⟩:∃y,y∈ys∧p=(Sum.inr y,V.int (cv y)):=by
      obtain ⟨y,hy,e⟩:=List.mem_map.mp (List.mem_of_getElem? hp)
      exact ⟨y,hy,e.symm⟩
     have hil:i < ys.length:=by have:=(List.getElem?_eq_some_iff.mp hp).1;rw [kv78_len]at this;exact this
     have hyt:=hyin y hy
     have W1:=tz3.ok ⟨C',t1,x1,s3,gg⟩ (by simp)
     obtain ⟨dx1,fs1,ho1,hf1⟩:=W1.to.tw.o
     have cr:=cur_read (S:=s3.zs.sum) (z:=y) cu3 W1.g.lh
     rw [show kV ((Sum.inr y:Key),V.int (cv y)).1=V.str y from rfl]
     walk_at "go"
     refine .inl ⟨dx1,fs1,ho1,hf1.m _ (by simp),x1,s3,gg,ts,B+4 * i,W1,.inl ⟨hyt,by omega,fun s5 H5 o5 W5 a1 a2 a3 a4=>?_⟩⟩
     obtain ⟨tz5,sr5,kk5⟩:=Twz.deed (l1:=[]) (w':=⟨C',t1,x1,s5,readG s3.zs.sum s3.R y gg⟩) (l2:=[⟨C',t2,x2,s4,gg⟩]) tz3 o5 (fun b hb=> .inl hb) W5 (by omega) rfl rfl
     have hfz5:=kk5 vd (by simp) _ hfz3
     refine ⟨V.int (cv y),kv78_get hy hfz5,rfl,?_⟩
     rw [if_neg (fun h=>h (by rw [cr.2]))]
     have W2:=tz5.ok ⟨C',t2,x2,s4,gg⟩ (by simp)
     obtain ⟨dx2,fs2,ho2,hf2⟩:=W2.to.tw.o
     refine .inl ⟨dx2,fs2,ho2,hf2.m _ (by simp),x2,s4,gg,ts,B+4 * i+2,W2,.inl ⟨hyt,by omega,fun s6 H6 o6 W6 b1 b2 b3 b4=>?_⟩⟩
     rw [f5.1,f5.2.1]at W6 b4 ⊢
     rw [f5.2.1]at b3
     obtain ⟨tz6,sr6,kk6⟩:=Twz.deed (l1:=[⟨C',t1,x1,s5,readG s3.zs.sum s3.R y gg⟩]) (w':=⟨C',t2,x2,s6,readG s3.zs.sum s3.R y gg⟩) (l2:=[]) tz5 o6 (fun b hb=> .inl hb) W6 (by omega) rfl rfl
     have hfz6:=kk6 vd (by simp) _ hfz5
     refine ⟨V.int (cv y),kv78_get hy hfz6,rfl,?_⟩
     rw [if_neg (fun h=>h (by rw [cr.2]))]
     have eR:s6.R=s5.R:=by rw [b1,a1];unfold cameR;rw [f5.1,f5.2.1]
     exact ⟨s5,s6,readG s3.zs.sum s3.R y gg,by rw [show B+4 * (i+1)=B+4 * i+2+2 by omega];exact tz6,⟨by rw [b2,a2,f5.1],eR,by rw [b3,a3,f5.2.2.1],by rw [b4,a4,f5.2.2.2]⟩,by rw [a1];exact cr.1,hfz6⟩
   · rintro σ H' ⟨v3,s3,s4,gg,rfl,tz3,f5,cu3,hfz3⟩
     rw [kv78_len]at tz3
     subst hrest
     refine .inr ⟨vd,o,_,hfz3,(fun o' u' z=>by have z':H vd=some (.frz o' u'):=z;rw [hvd]at z';cases z'),?_⟩
     have tz3':=(tz3.put (c:=vd) (u:= .dK (kv78 ys cv)) (by simp) (fun e=>by intro z;cases z) (fun b u e n=>by rw [upd_ne n];exact e) upd_same).1
     have hv3:upd H' vd (.dK (kv78 ys cv)) vd=some (.dK (kv78 ys cv)):=upd_same
     generalize upd H' vd (.dK (kv78 ys cv))=H7 at tz3' hv3 ⊢
     clear tz3 hfz3
     have tz3:=tz3'
     clear tz3'
     have W1:=tz3.ok ⟨C',t1,x1,s3,gg⟩ (by simp)
     obtain ⟨dx1,fs1,ho1,hf1⟩:=W1.to.tw.o
     have cr:=cur_rest cu3 W1.g.lh
     walk_at "go"
     refine .inl ⟨dx1,fs1,ho1,hf1.m _ (by simp),x1,s3,gg,ts,_,W1,by omega,fun x5 s5 H5 o5 n5 W5 a1 a2 a3 a4 a5 a6=>?_⟩
     obtain ⟨tz5,sr5,kk5⟩:=Twz.deed (l1:=[]) (w':=⟨C',t1,x5,s5,restG s3.R gg⟩) (l2:=[⟨C',t2,x2,s4,gg⟩]) tz3 o5 n5 W5 (by omega) a5 a6
     have hv5:=kk5 vd (by simp) _ hv3
     have W2:=tz5.ok ⟨C',t2,x2,s4,gg⟩ (by simp)
     obtain ⟨dx2,fs2,ho2,hf2⟩:=W2.to.tw.o
     refine .inl ⟨dx2,fs2,ho2,hf2.m _ (by simp),x2,s4,gg,ts,_,W2,by omega,fun x6 s6 H6 o6 n6 W6 b1 b2 b3 b4 b5 b6=>?_⟩
     rw [f5.2.1]at W6 ⊢
     obtain ⟨tz6,sr6,kk6⟩:=Twz.deed (l1:=[⟨C',t1,x5,s5,restG s3.R gg⟩]) (w':=⟨C',t2,x6,s6,restG s3.R gg⟩) (l2:=[]) tz5 o6 n6 W6 (by omega) b5 b6
     have hv6:=kk6 vd (by simp) _ hv5
     have hkeys:(kv78 ys cv).map (fun p=>kV p.1)=ys.map V.str:=by unfold kv78;rw [List.map_map];rfl
     rw [if_neg (fun h=>h rfl)]
     refine ⟨_,hv6,fun l1 hl1=>?_⟩
     rw [hkeys]
     have u1:Same H6 (upd H6 l1 (.lst (ys.map V.str))):=Same.new hl1
     have kl1:upd H6 l1 (.lst (ys.map V.str)) l1=some (.lst (ys.map V.str)):=upd_same
     generalize upd H6 l1 (.lst (ys.map V.str))=H8 at u1 kl1 ⊢
     have tz8:=tz6.same u1
     have W5':=tz8.ok ⟨C',t1,x5,s5,restG s3.R gg⟩ (by simp)
     refine ⟨C',.inr rfl,x5,s5,_,ts,_,W5',ys,SqL.of kl1,hyl,hyin,fun p lv di fo so as us H9 u9 st9=>⟨_,u9 _ _ (u1 _ _ hv6),fun l2 hl2=>?_⟩⟩
     rw [hkeys]
     have u2:Same H9 (upd H9 l2 (.lst (ys.map V.str))):=Same.new hl2
     have kl2:upd H9 l2 (.lst (ys.map V.str)) l2=some (.lst (ys.map V.str)):=upd_same
     generalize upd H9 l2 (.lst (ys.map V.str))=H10 at u2 kl2 ⊢
     have tz10:=(tz8.same u9).same u2
     have W6':=tz10.ok ⟨C',t2,x6,s6,restG s3.R gg⟩ (by simp)
     refine ⟨C',.inr rfl,x6,s6,_,ts,_,W6',ys,SqL.of kl2,hyl,hyin,fun p2 lv2 di2 fo2 so2 as2 us2 H11 u11 st11=>?_⟩
     rw [b2,b1,b4,b3,f5.1,f5.2.1,f5.2.2.1,f5.2.2.2]at st11
     rw [a2,a1,a4,a3]at st9
     refine ⟨state_like (st9.same (u2.trans u11)) st11 W5'.g.fl,?_⟩
     have tz11:=tz10.same u11
     have hv11:=u11 _ _ (u2 _ _ (u9 _ _ (u1 _ _ hv6)))
     clear st9 st11 u11 u9 u2 u1 W6' W5' tz10 tz8 kl1 kl2 hv6 hv5 tz6 tz5 W5 W6 W1 W2 o5 o6 n5 n6 kk5 kk6 sr5 sr6
     rename_i rest hrest
     subst hrest
     walk_at "go"
     refine ⟨_,.inl ⟨hv11,fun o2=>?_⟩⟩
     have tzG:=(tz11.put (c:=vd) (u:= .frz o2 (.dK (kv78 ys cv))) (by simp) (fun e=>by intro z;cases z) (fun b u e n=>by rw [upd_ne n];exact e) upd_same).1
     rename_i rest hrest
     have hfG:upd H11 vd (.frz o2 (.dK (kv78 ys cv))) vd=some (.frz o2 (.dK (kv78 ys cv))):=upd_same
     generalize upd H11 vd (.frz o2 (.dK (kv78 ys cv)))=H12 at tzG hfG ⊢
     refine forK_by (kvs:=kv78 ys cv) (fun i σ H'=>∃v3:Option V,σ=[some (V.ref t1),some (V.ref t2),some (V.ref vd),v3]∧Same H12 H') ⟨_,rfl,Same.refl H12⟩ (fun i σ H' _ h_=>by obtain ⟨_,_,sm⟩:=h_;exact sm _ _ hfG) ?_ ?_
     · clear hrest
       rintro i p σ H' hp ⟨v3,rfl,sm⟩
       obtain ⟨y,hy,rfl⟩:∃y,y∈ys∧p=(Sum.inr y,V.int (cv y)):=by
        obtain ⟨y,hy,e⟩:=List.mem_map.mp (List.mem_of_getElem? hp)
        exact ⟨y,hy,e.symm⟩
       have hyt:=hyin y hy
       have W1:=(tzG.same sm).ok ⟨C',t1,x5,s5,restG s3.R gg⟩ (by simp)
       obtain ⟨dx1,fs1,ho1,hf1⟩:=W1.to.tw.o
       rw [show kV ((Sum.inr y:Key),V.int (cv y)).1=V.str y from rfl]
       walk_at "go"
       refine .inl ⟨dx1,fs1,ho1,hf1.m _ (by simp),x5,s5,W1.to.tw,restG s3.R gg,ts,W1.to.sk,W1.to.tn,_,_,.inl ⟨hyt,W1.g,V.int (cv y),kv78_get hy (sm _ _ hfG),rfl,?_⟩⟩
       rw [if_neg (fun h=>h (by rw [cr y]))]
       exact sm
     · rintro σ H' ⟨v3,rfl,sm⟩
       subst hrest
       refine .inl ?_
       walk_at "go"
       exact q _
theorem Z90{f:Addr}{fd:FuncData}(F:Fun K "law" "law" Z3h f fd)(T:Txt K mg Z5 Z3 Z4 Z7 Z2 Z1 Z0)(Zy:Def P w K mg base (CXF P w) 1 "_law_cell_at" ["_law_script","_law_k"] (sp_cell K))(Z4k:Def P w K mg base (CXF P w) 1 "_law_names" ["_law_cell","_law_many"] (sp12_names))(Z30:Def P w K mg base (CXF P w) 2 "_law_drawn_sizes" ["_law_cell"] (sp78_sizesD K))(Z5d:Def P w K mg base (CXF P w) 9 "_law_made" ["_law_stock","_law_sizes","_law_prompt"] (sp78_made K Z1 Z0 Z2))(Z16:DefI P w K mg base (CXF P w) 4 "Stock" Z2 ["self","rows"] (sp78_stock K Z2))(Z38:Def P w K mg base (CXF P w) 10 "_law_nothing" ["_law_prompt"] (sp78_nothing))(Z1w:Def P w K mg base (CXF P w) 8 "_law_tower" ["_law_stock","_law_sizes","_law_prompt"] (sp78_ltower K Z1 Z0 Z2 Z4 Z7))(Z3q:Def P w K mg base (CXF P w) 1 "_law_no_value" ["_law_cell"] (sp78_noval K))(Z4l:Def P w K mg base (CXF P w) 2 "_law_value" ["_law_cell","_law_k"] (sp75_value))(Z3r:Def P w K mg base (CXF P w) 1 "_law_expected" ["_law_name","_law_extra","_law_good","_law_deed"] (sp78_expected))(Z27:Def P w K mg base (CXF P w) 6 "_law_state" ["_law_tower_here","_law_names_here"] (sp78_state K Z1 Z0 Z2))(Z2f:Def P w K mg base (CXF P w) 8 "_law_tried" ["_law_tower_here","_law_name","_law_deed","_law_value_here"] (sp78_tried K Z1 Z0 Z2))(Z3u:Def P w K mg base (CXF P w) 8 "_law_at_last" ["_law_tower_here","_law_twin","_law_values"] (sp78_last K Z1 Z0 Z2)):FnOk P w K mg base (CXF P w) 12 f fd ["_law_script"] (sp_law K):=by
 have sc:FnScope ["_law_script","_law_many","_law_names_here","_law_rows","_law_wide","_law_at","_law_sizes","_law_due","_law_prompt","_law_word","_law_tower_here","_law_twin","_law_values","_law_name","_law_k","_law_cell","_law_deed","_law_good","_law_value_here","_law_expected_here","_law_before"] ["_law_script"] (defScope Z3h):=⟨rfl,rfl,rfl,by decide+kernel,rfl,by decide+kernel,by decide+kernel⟩
 refine F.okF sc (fun vs H Q E h=>?_) (fun cdv A outer s H vs Q E hr h=>?_)
 · obtain ⟨a,ns,rfl,hS,hl,q⟩:=h;rfl
 obtain ⟨a,ns,rfl,hS,hl,q⟩:=h
 refine ⟨_,(@pss_cons _ _ _ _ _ (ps_set (i:=1) sc.nd rfl (Or.inl rfl) (pe_op op_add pe_int (pe_op op_mod (pe_callD Zy hr rfl pass_onF (pa_cons (pv 0) (pa_cons pe_int pa_nil))) pe_int)))
  (@pss_cons _ _ _ _ _ (ps_set (i:=2) sc.nd rfl (Or.inl rfl) (pe_callD Z4k hr rfl pass_onF (pa_cons (pe_callD Zy hr rfl pass_onF (pa_cons (pv 0) (pa_cons pe_int pa_nil))) (pa_cons (pe_op op_add (pv 1) pe_int) pa_nil))))
  (@pss_cons _ _ _ _ _ (ps_comp1 (i:=3) "_law_name" [] sc.nd rfl rfl rfl rfl (pi_list (pe_slice sl_list (pv 2) po_none (po_some (pv 1)))) (fun b=>(pe_tup (pa_cons (pv 0) (pa_cons pe_int (pa_cons pe_int pa_nil))))))
  (@pss_cons _ _ _ _ _ (ps_set (i:=4) sc.nd rfl (Or.inl rfl) (pe_cmpR op_eq (pe_op op_mod (pe_op op_fdiv (pe_callD Zy hr rfl pass_onF (pa_cons (pv 0) (pa_cons pe_int pa_nil))) pe_int) pe_int) pe_int (nomark _)))
  (@pss_cons _ _ _ _ _ (ps_if (pt_val (pv 4))
   (@pss_cons _ _ _ _ _ (ps_set (i:=5) sc.nd rfl (Or.inl rfl) (pe_op op_mod (pe_callD Zy hr rfl pass_onF (pa_cons (pv 0) (pa_cons pe_int pa_nil))) (pv 1)))
   (@pss_one _ _ _ (ps_asg (pe_tup (pa_cons (@pe_ix _ _ _ _ _ _ _ ix_list (pv 2) (pv 5) (fun _ _=>rfl)) (pa_cons pe_int (pa_cons (pe_op op_add pe_int (pe_op op_mod (pe_op op_fdiv (pe_callD Zy hr rfl pass_onF (pa_cons (pv 0) (pa_cons pe_int pa_nil))) pe_int) pe_int)) pa_nil)))) (pg_sub (pv 3) (pv 5) set_list))))
   pss_nil)
  (@pss_cons _ _ _ _ _ (ps_set (i:=6) sc.nd rfl (Or.inl rfl) (pe_callD Z30 hr rfl pass_onF (pa_cons (pe_callD Zy hr rfl pass_onF (pa_cons (pv 0) (pa_cons pe_int pa_nil))) pa_nil)))
  (@pss_cons _ _ _ _ _ (ps_set (i:=7) sc.nd rfl (Or.inl rfl) pe_str)
  (@pss_cons _ _ _ _ _ (ps_if (pt_val (pv 4))
   (@pss_one _ _ _ (ps_set (i:=7) sc.nd rfl (Or.inl rfl) pe_str))
   pss_nil)
  (@pss_cons _ _ _ _ _ (ps_if (PW.pt (pw_or (pt_cmpR op_eq (pe_op op_mod (pe_callD Zy hr rfl pass_onF (pa_cons (pv 0) (pa_cons pe_int pa_nil))) pe_int) pe_int (nomark _)) (pw_or1 (pt_cmpR op_eq (pe_op op_mod (pe_callD Zy hr rfl pass_onF (pa_cons (pv 0) (pa_cons pe_int pa_nil))) pe_int) pe_int (nomark _)))))
   (@pss_one _ _ _ (ps_set (i:=7) sc.nd rfl (Or.inl rfl) pe_str))
   pss_nil)
  (@pss_cons _ _ _ _ _ (ps_set (i:=8) sc.nd rfl (Or.inl rfl) (pe_op op_mod (pe_callD Zy hr rfl pass_onF (pa_cons (pv 0) (pa_cons pe_int pa_nil))) pe_int))
  (@pss_cons _ _ _ _ _ (ps_asg (pe_callD Z5d hr rfl pass_onF (pa_cons (pe_makeS Z16 hr rfl (passS pass_onF) (pa_cons (pv 3) pa_nil)) (pa_cons (pv 6) (pa_cons (pv 8) pa_nil)))) (pg_tup rfl (pgs_cons (pg_name (i:=9) sc.nd rfl (Or.inl rfl)) (pgs_cons (pg_name (i:=10) sc.nd rfl (Or.inl rfl)) pgs_nil))))
  (@pss_cons _ _ _ _ _ (ps_if (PW.pt (pw_or (pt_cmpR op_ne (pv 9) (pv 7) (nomark _)) (pw_or1 (pt_cmpR op_isN (pv 10) pe_non (nomark _)))))
   (@pss_one _ _ _ (@ps_ret _ _ _ _ (pe_and (pe_cmpR op_eq (pv 9) (pv 7) (nomark _)) (pe_one (pe_callD Z38 hr rfl pass_onF (pa_cons (pv 8) pa_nil))))))
   pss_nil)
  (@pss_cons _ _ _ _ _ (ps_set (i:=11) sc.nd rfl (Or.inl rfl) (pe_callD Z1w hr rfl pass_onF (pa_cons (pe_makeS Z16 hr rfl (passS pass_onF) (pa_cons (pv 3) pa_nil)) (pa_cons (pv 6) (pa_cons (pv 8) pa_nil)))))
  (@pss_cons _ _ _ _ _ (ps_set (i:=12) sc.nd rfl (Or.inl rfl) pe_dnewK)
  (@pss_cons _ _ _ _ _ (ps_for own_outF rfl (pi_list (pe_slice sl_list (pv 2) po_none (po_some (pv 1)))) (pg_name (i:=13) sc.nd rfl (Or.inl rfl))
   (@pss_one _ _ _ (ps_dput (hu_of hr) (pv 12) (pv 13) pe_int rfl)))
  (@pss_cons _ _ _ _ _ (ps_for own_outF rfl (pi_enum rfl T.Z1x (pa_cons (pe_slice sl_list (pv 0) (po_some pe_int) (po_some pe_int)) pa_nil)) (pg_tup rfl (pgs_cons (pg_name (i:=14) sc.nd rfl (Or.inl rfl)) (pgs_cons (pg_name (i:=15) sc.nd rfl (Or.inl rfl)) pgs_nil)))
   (@pss_cons _ _ _ _ _ (ps_set (i:=13) sc.nd rfl (Or.inl rfl) (@pe_ix _ _ _ _ _ _ _ ix_list (pv 2) (pe_op op_mod (pv 15) (pe_op op_add (pv 1) pe_int)) (fun _ _=>rfl)))
   (@pss_cons _ _ _ _ _ (ps_set (i:=16) sc.nd rfl (Or.inl rfl) (pe_op op_mod (pe_op op_fdivB (pv 15) (pe_op op_add (pv 1) pe_int)) pe_int))
   (@pss_cons _ _ _ _ _ (ps_set (i:=17) sc.nd rfl (Or.inl rfl) (pe_cmpR op_gt (pe_op op_mod (pe_op op_fdiv (pv 15) pe_int) pe_int) pe_int (nomark _)))
   (@pss_cons _ _ _ _ _ (ps_set (i:=18) sc.nd rfl (Or.inl rfl) (@pe_ix _ _ _ _ _ _ _ ix_list (@pe_lst _ _ _ _ (pa_cons (pe_callD Z3q hr rfl pass_onF (pa_cons (pv 15) pa_nil)) (pa_cons (pe_callD Z4l hr rfl pass_onF (pa_cons (pv 15) (pa_cons (pv 14) pa_nil))) pa_nil))) (pe_callTy call_int1 rfl T.Z42 (by first | rfl | decide+kernel) (pa_cons (pv 17) pa_nil)) (fun _ _=>rfl)))
   (@pss_cons _ _ _ _ _ (ps_set (i:=19) sc.nd rfl (Or.inl rfl) (pe_callD Z3r hr rfl pass_onF (pa_cons (pv 13) (pa_cons (@pe_ix _ _ _ _ _ _ _ ix_list (pv 2) (pv 1) (fun _ _=>rfl)) (pa_cons (pv 17) (pa_cons (pv 16) pa_nil))))))
   (@pss_cons _ _ _ _ _ (ps_set (i:=20) sc.nd rfl (Or.inl rfl) (pe_callD Z27 hr rfl pass_onF (pa_cons (pv 10) (pa_cons (pe_slice sl_list (pv 2) po_none (po_some (pv 1))) pa_nil))))
   (@pss_cons _ _ _ _ _ (ps_if (pt_cmpR (op_neN 3 hr) (pe_callD Z2f hr rfl pass_onF (pa_cons (pv 10) (pa_cons (pv 13) (pa_cons (pv 16) (pa_cons (pv 18) pa_nil))))) (pv 19) (nomark _))
    (@pss_one _ _ _ (@ps_ret _ _ _ _ pe_bl))
    pss_nil)
   (@pss_cons _ _ _ _ _ (ps_if (PW.pt (pw_and (pt_cmpR op_ne (@pe_ix _ _ _ _ _ _ _ ix_tup (pv 19) pe_int (fun _ _=>rfl)) pe_str (nomark _)) (pw_and1 (pt_cmpR (op_neN 3 hr) (pe_callD Z27 hr rfl pass_onF (pa_cons (pv 10) (pa_cons (pe_slice sl_list (pv 2) po_none (po_some (pv 1))) pa_nil))) (pv 20) (nomark _)))))
    (@pss_one _ _ _ (@ps_ret _ _ _ _ pe_bl))
    pss_nil)
   (@pss_cons _ _ _ _ _ (ps_if (PW.pt (pw_and (pt_cmpR op_eq (@pe_ix _ _ _ _ _ _ _ ix_tup (pv 19) pe_int (fun _ _=>rfl)) pe_str (nomark _)) (pw_and1 (pt_cmpR (op_neN 3 hr) (pe_callD Z2f hr rfl pass_onF (pa_cons (pv 11) (pa_cons (pv 13) (pa_cons (pv 16) (pa_cons (pv 18) pa_nil))))) (pv 19) (nomark _)))))
    (@pss_one _ _ _ (@ps_ret _ _ _ _ pe_bl))
    pss_nil)
   (@pss_one _ _ _ (ps_if (PW.pt (pw_and (pt_cmpR op_eq (@pe_ix _ _ _ _ _ _ _ ix_tup (pv 19) pe_int (fun _ _=>rfl)) pe_str (nomark _)) (pw_and1 (pt_chain op_lt op_lt pe_int (pv 16) pe_int))))
    (@pss_one _ _ _ (ps_dput (hu_of hr) (pv 12) (pv 13) (pv 18) rfl))
    pss_nil))))))))))))
  (@pss_one _ _ _ (@ps_ret _ _ _ _ (pe_and (pe_callD Z3u hr rfl pass_onF (pa_cons (pv 10) (pa_cons (pv 11) (pa_cons (pv 12) pa_nil)))) (pe_one (pe_callD Z38 hr rfl pass_onF (pa_cons (pv 8) pa_nil)))))))))))))))))))))),?_⟩
 rw [show start ["_law_script","_law_many","_law_names_here","_law_rows","_law_wide","_law_at","_law_sizes","_law_due","_law_prompt","_law_word","_law_tower_here","_law_twin","_law_values","_law_name","_law_k","_law_cell","_law_deed","_law_good","_law_value_here","_law_expected_here","_law_before"] [V.ref a]=[some (V.ref a),none,none,none,none,none,none,none,none,none,none,none,none,none,none,none,none,none,none,none,none] from rfl]
 have line:=line_val
 walk_at "go"
 obtain ⟨m,hm⟩:∃m:Nat,(m:Int)=1+ns.getD 0 0 % 8:=⟨(1+ns.getD 0 0 % 8).toNat,by omega⟩
 have hm1:1≤m:=by omega
 have hm8:m≤8:=by omega
 rw [← hm]
 refine ⟨m+1,by omega,by omega,fun np ys H1 hnp sm1 hny hy1 hy2 ynd hyn=>?_⟩
 clear hm
 have hS1:=sm1.seq hS
 have hlz:(ys.take m).length=m:=by rw [List.length_take];omega
 have zin:∀y∈ys.take m,y∈ys:=fun y hy=>List.mem_of_mem_take hy
 have znd:(ys.take m).Nodup:=List.Nodup.sublist (List.take_sublist _ _) ynd
 have zx:ys.getD m Str.empty∉ys.take m:=fun h=>by
  have e:ys.take (m+1)=ys.take m++[ys.getD m Str.empty]:=by rw [List.take_succ,getD_str (by omega)];rfl
  have h2:(ys.take (m+1)).Nodup:=List.Nodup.sublist (List.take_sublist _ _) ynd
  rw [e,List.nodup_append]at h2
  exact h2.2.2 _ h _ List.mem_cons_self rfl
 rename_i rest hrest
 subst hrest
 walk_at "go"
 refine ⟨_,SqL.of hny,fun zp hzp=>?_⟩
 rw [N6.cut_to ys m (by omega)]
 have s2:Same H1 (upd H1 zp (.lst ((ys.take m).map V.str))):=Same.new hzp
 have k2:upd H1 zp (.lst ((ys.take m).map V.str)) zp=some (.lst ((ys.take m).map V.str)):=upd_same
 generalize upd H1 zp (.lst ((ys.take m).map V.str))=H2 at s2 k2 ⊢
 refine ⟨⟨_,SqL.of k2⟩,compL_mk (fun i y H=>∃t,y=V.ref t∧SqT K H t [.str ((ys.take m).getD i Str.empty),.int 2,.int 1]) (fun _=>True) (fun i y H H' l zs ⟨t,e,h⟩ hl sb=>⟨t,e,SqT.butL sb hl h⟩) (SqL.of k2) (by rw [List.length_map];omega) (fun b i x H' Q' hx sm' _ q'=>?_) (fun D yl H3 hD s3 hD3 hyl hall hG=>?_)⟩
 · rw [List.getElem?_map]at hx
   cases hz:(ys.take m)[i]? with
   | none=>rw [hz]at hx;cases hx
   | some z=>
   rw [hz]at hx
   cases hx
   have ez:(ys.take m).getD i Str.empty=z∧True:=⟨by rw [List.getD_eq_getElem?_getD,hz];rfl,trivial⟩
   rw [ez.1]at q'
   walk_at "go"
   exact fun t ht=>q' _ _ (Same.new ht) ⟨t,rfl,SqT.of upd_same⟩ trivial
 have ey:yl=(yl.map aOf).map V.ref:=by
  rw [List.map_map]
  refine (List.map_id yl).symm.trans (List.map_congr_left fun y hy=>?_)
  obtain ⟨i,hi⟩:=List.mem_iff_getElem?.mp hy
  obtain ⟨t,rfl,_⟩:=hall i y hi
  rfl
 have hal:∀(i:Nat) (a:Addr),(yl.map aOf)[i]?=some a→SqT K H3 a [.str ((ys.take m).getD i Str.empty),.int 2,.int 1]:=fun i a h=>by
  rw [List.getElem?_map]at h
  cases hy':yl[i]? with
  | none=>rw [hy']at h;cases h
  | some y=>
   rw [hy']at h
   obtain ⟨t,rfl,hs⟩:=hall i y hy'
   cases h
   exact hs
 rw [ey]at hD3
 rw [List.length_map,hlz]at hyl
 have hasl:(yl.map aOf).length≤m∧m≤(yl.map aOf).length:=by rw [List.length_map];omega
 generalize yl.map aOf=as at hD3 hal hasl
 have hny2:=s2 _ _ hny
 have hS2:=s2.seq hS1
 have hny3:=s3 _ _ hny2
 have hS3:=s3.seq hS2
 clear hall hG ey hyl hzp k2 hnp sm1 hS hS1 s2 hny
 rename_i rest hrest
 subst hrest
 walk_at "go"
 rename_i rest hrest
 have key:∀(as:List Addr) (R:Nat→Int) (v5:Option V) (H4:Hp),H4 D=some (.lst (as.map V.ref))→as.length≤m→m≤as.length→(∀i,i < m→1≤R i∧R i≤1000)→(∀(i:Nat) (a:Addr),as[i]?=some a→SqT K H4 a [.str ((ys.take m).getD i Str.empty),.int 2,.int (R i)])→(ns.getD 0 0 / 8 % 4=1→∃i,i < m∧R i≠1)→(¬ns.getD 0 0 / 8 % 4=1→∀i,i < m→R i=1)→H4 np=some (.lst (ys.map V.str))→SqL K H4 a (ns.map V.int)→rest [some (V.ref a),some (V.int m),some (V.ref np),some (V.ref D),some (V.bl (decide (ns.getD 0 0 / 8 % 4=1))),v5,none,none,none,none,none,none,none,none,none,none,none,none,none,none,none] H4:=by
  clear hD3 hal hasl hny3 hS3 as hny2 hS2 hD s3
  intro as R v5 H4 hD hl1 hl2 hR hal hw hnw hny hS
  subst hrest
  walk_at "go"
  intro sp xs H5 hsp s5 ksp hxl hxn hbad hgood
  have rows:=rowsR (K:=K) (R:=R) hD (by omega) (by omega) znd (fun y hy=>hyn y (zin y hy)) (fun i hi=>hR i (by omega)) hal
  have hrows5:=rows_same s5 rows
  have hny5:=s5 _ _ hny
  have hS5:=s5.seq hS
  clear rows hal hD hny hS hsp s5
  rename_i rest hrest
  subst hrest
  walk_at "go"
  rename_i rest hrest
  have key2:∀du:Str,(du=if ns.getD 0 0 / 8 % 4=1 then Str.ofString "unlike" else Str.ofString "made")∧True→rest [some (V.ref a),some (V.int m),some (V.ref np),some (V.ref D),some (V.bl (decide (ns.getD 0 0 / 8 % 4=1))),v5,some (V.ref sp),some (V.str du),none,none,none,none,none,none,none,none,none,none,none,none,none] H5:=by
   intro du hdu
   subst hrest
   walk_at "go"
   rename_i rest hrest
   have key3:∀du:Str,(du=if ns.getD 2 0 % 4=1∨ns.getD 2 0 % 4=2 then Str.ofString "number" else if ns.getD 0 0 / 8 % 4=1 then Str.ofString "unlike" else Str.ofString "made")∧True→rest [some (V.ref a),some (V.int m),some (V.ref np),some (V.ref D),some (V.bl (decide (ns.getD 0 0 / 8 % 4=1))),v5,some (V.ref sp),some (V.str du),none,none,none,none,none,none,none,none,none,none,none,none,none] H5:=by
    clear hdu du
    intro du hdu
    subst hrest
    walk_at "go"
    intro st dx hst hdx ne1
    obtain ⟨rws,r1,r2,r3,r4⟩:=hrows5.init
    have smx:Same H5 (upd (upd H5 dx (.own st)) st (.ins Z2 dx [])):=fun b o e=>by rw [upd_ne (ne_of_none e hst),upd_ne (ne_of_none e hdx)];exact e
    refine ⟨dx,upd_same,rws,by rw [r1];exact smx.seq hrows5.l,fun t ht=>smx.tup (r2 t ht),r3,fun H6 d sb6 stk hp6 hd6=>?_⟩
    rw [r4]at stk
    have sm6:Same H5 H6:=same_made hst hdx sb6
    clear r1 r2 r3 r4 smx sb6 ne1 hdx hd6 hp6 hst rws
    have htn:(tsR (ys.take m) R).map (·.1)=ys.take m∧True:=⟨tsR_names _ _,trivial⟩
    have mp:MkP K Z2 H6 st sp (tsR (ys.take m) R) xs:=⟨stk,by rw [htn.1];exact znd,by rw [tsR_len];omega,sm6.seq (SqL.of ksp),hxl,(fun v hv=>(hxn v hv).same sm6),(fun y hy=>by rw [htn.1]at hy;exact name_short (hyn y (zin y hy)))⟩
    refine ⟨_,xs,mp,?_⟩
    rename_i rest hrest
    have no:∀(du':Str) (H7:Hp),du'=du∧True→rest [some (V.ref a),some (V.int m),some (V.ref np),some (V.ref D),some (V.bl (decide (ns.getD 0 0 / 8 % 4=1))),v5,some (V.ref sp),some (V.str du),some (V.int (ns.getD 3 0 % 2)),some (V.str du'),some V.non,none,none,none,none,none,none,none,none,none,none] H7:=by
     intro du' H7 e
     subst hrest
     rw [e.1]
     walk_at "go"
     exact fun H' _=>q H'
    by_cases hb:ns.getD 2 0 % 4=1∨ns.getD 2 0 % 4=2
    · exact .inr (.inl ⟨hbad hb,fun tp H7 s7 ktp=>⟨_,SqT.of ktp,rfl,_,_,rfl,_,_,rfl,rfl,no _ H7 ⟨by rw [hdu.1,if_pos hb],trivial⟩⟩⟩)
    obtain ⟨zs,ez,hz1,hz6,hzz⟩:=hgood hb
    by_cases hwd:ns.getD 0 0 / 8 % 4=1
    · obtain ⟨i0,hi0,hne⟩:=hw hwd
      exact .inr (.inr ⟨by rw [ez];exact szok_of hz1 hz6 hzz,⟨_,List.mem_of_getElem? (tsR_at (R:=R) (show i0 < (ys.take m).length by omega)),hne⟩,fun tp H7 s7 ktp=>⟨_,SqT.of ktp,rfl,_,_,rfl,_,_,rfl,rfl,no _ H7 ⟨by rw [hdu.1,if_neg hb,if_pos hwd],trivial⟩⟩⟩)
    have hr1:∀t∈tsR (ys.take m) R,t.2.2=1:=fun t ht=>by obtain ⟨i,hi,e⟩:=tsR_rooms ht;rw [e];exact hnw hwd i (by omega)
    refine .inl ⟨zs,⟨ez,hr1,hz1,hz6,hzz⟩,fun C t1 tp x1 s1 H7 s7 nw1 ktp=>⟨_,SqT.of ktp,rfl,_,_,rfl,_,_,rfl,rfl,?_⟩⟩
    clear no
    have edu:du=Str.ofString "made"∧True:=⟨by rw [hdu.1,if_neg hb,if_neg hwd],trivial⟩
    clear hdu
    subst ez
    rw [edu.1]
    clear edu
    subst hrest
    walk_at "go"
    have hW1:Twz K Z2 [st] (tsR (ys.take m) R) 1 H7 [] [⟨C,t1,x1,s1,g0⟩]:=Twz.add (ws:=[]) ⟨(fun w hw=>by cases hw),List.Pairwise.nil,(fun st' hs=>by rw [List.mem_singleton.mp hs];exact StockT.of stk),(fun w hw=>by cases hw),(fun c hc=>by cases hc),(fun c hc=>by cases hc)⟩ s7 nw1.w nw1.n (by rw [nw1.st];simp)
    have hny6:=sm6 _ _ hny5
    have hny7:=s7 _ _ hny6
    have hS7:=(sm6.trans s7).seq hS5
    have hrows7:=rows_same (sm6.trans s7) hrows5
    have ksp7:=s7 _ _ (sm6 _ _ ksp)
    have hxn7:∀v∈zs.map V.int,NumV K H7 v:=fun v hv=>(hxn v hv).same (sm6.trans s7)
    clear hny5 hS5 hrows5 ksp hxn stk mp s7 sm6 ktp
    intro st2 dx hst hdx ne1
    obtain ⟨rws,r1,r2,r3,r4⟩:=hrows7.init
    have smx:Same H7 (upd (upd H7 dx (.own st2)) st2 (.ins Z2 dx [])):=fun b o e=>by rw [upd_ne (ne_of_none e hst),upd_ne (ne_of_none e hdx)];exact e
    refine ⟨dx,upd_same,rws,by rw [r1];exact smx.seq hrows7.l,fun t ht=>smx.tup (r2 t ht),r3,fun H8 d sb8 stk2 hp8 hd8=>?_⟩
    rw [r4]at stk2
    have sm8:Same H7 H8:=same_made hst hdx sb8
    have hW2:=hW1.stock sm8 stk2 hp8 hst (N53.none_of smx hd8)
    have mp2:MkP K Z2 H8 st2 sp (tsR (ys.take m) R) (zs.map V.int):=⟨stk2,by rw [htn.1];exact znd,by rw [tsR_len];omega,SqL.of (sm8 _ _ ksp7),hxl,(fun v hv=>(hxn7 v hv).same sm8),(fun y hy=>by rw [htn.1]at hy;exact name_short (hyn y (zin y hy)))⟩
    refine ⟨_,_,mp2,.inl ⟨zs,⟨rfl,hr1,hz1,hz6,hzz⟩,fun C2 t2 x2 s2 H9 s9 nw2=>?_⟩⟩
    have hW3:=hW2.add (w:=⟨C2,t2,x2,s2,g0⟩) s9 nw2.w nw2.n (by rw [nw2.st];simp)
    have hny9:=s9 _ _ (sm8 _ _ hny7)
    have hS9:=(sm8.trans s9).seq hS7
    obtain ⟨pr,hC⟩:∃pr:Bool,pr=true∧C=Z0∨pr=false∧C=Z1:=by
     rcases nw1.c with h | h
     · exact ⟨true,.inl ⟨rfl,h.2⟩⟩
     · exact ⟨false,.inr ⟨rfl,h.2⟩⟩
    have eC:C2=C∧True:=⟨by
     rcases nw1.c with h | h <;> rcases nw2.c with k | k
     · rw [h.2,k.2]
     · exact absurd h.1 k.1
     · exact absurd k.1 h.1
     · rw [h.2,k.2],trivial⟩
    have e5:Eq5 s1 s2:=⟨by rw [nw1.z,nw2.z],by rw [nw1.r,nw2.r],by rw [nw1.pd,nw2.pd],by rw [nw1.ff,nw2.ff]⟩
    have cu:Cur s1.R g0 fun _=>0:=by rw [nw1.r];exact cur_zero
    rw [eC.1]at hW3
    have np1:np∉(Tw.mk C t1 x1 s1 g0).ow∧np∉(Tw.mk C t2 x2 s2 g0).ow:=⟨(fun h=>by have k:=nw1.n np h;rw [hny6]at k;cases k),(fun h=>by have k:=nw2.n np h;rw [sm8 _ _ hny7]at k;cases k)⟩
    clear eC nw2 nw1 mp2 hW2 hW1 s9 sm8 stk2 hp8 hd8 sb8 r1 r2 r3 r4 rws smx hst hdx ne1 ksp7 hxn7 hrows7 hS7 hny7 hxl hbad hgood
    generalize tsR (ys.take m) R=ts at hW3 htn hr1
    rename_i rest hrest
    subst hrest
    walk_at "go"
    intro vd hvd
    have tzv:=hW3.addK (c:=vd) (H':=upd H9 vd (.dK [])) (o:= .dK []) (Same.new hvd) hvd upd_same (fun e=>by intro z;cases z)
    have npL:np∉Lall [vd] [⟨C,t1,x1,s1,g0⟩,⟨C,t2,x2,s2,g0⟩]:=fun h=>by
     rcases mem_Lall.mp h with k | ⟨w,hw,k⟩
     · rw [List.mem_singleton.mp k,hvd]at hny9;cases hny9
     · simp only [List.cons_append,List.nil_append,List.mem_cons,List.not_mem_nil,or_false]at hw
       rcases hw with e | e <;> rw [e]at k
       · exact np1.1 k
       · exact np1.2 k
    have hny10:=(Same.new (o:= .dK []) hvd) _ _ hny9
    have hS10:=(Same.new (o:= .dK []) hvd).seq hS9
    have kvd:upd H9 vd (.dK []) vd=some (.dK (kv78 ((ys.take m).take 0) fun _=>0)):=upd_same
    generalize upd H9 vd (.dK [])=H10 at tzv hny10 hS10 kvd ⊢
    clear hvd hW3 hny9 hS9 np1
    rename_i rest hrest
    subst hrest
    walk_at "go"
    refine ⟨_,SqL.of hny10,fun zp hzp=>?_⟩
    rw [N6.cut_to ys m (by omega)]
    have s11:Same H10 (upd H10 zp (.lst ((ys.take m).map V.str))):=Same.new hzp
    have kzp:upd H10 zp (.lst ((ys.take m).map V.str)) zp=some (.lst ((ys.take m).map V.str)):=upd_same
    have zpL:=tzv.n hzp
    generalize upd H10 zp (.lst ((ys.take m).map V.str))=H11 at s11 kzp ⊢
    have tz11:=tzv.same s11
    have rnp:=Rst.get npL (s11 _ _ hny10)
    have rzp:=Rst.get zpL kzp
    have hS11:=s11.seq hS10
    rename_i rest hrest
    refine ⟨⟨_,SqL.of kzp⟩,forL_by (xs:=(ys.take m).map V.str) (fun i σ H'=>∃v13:Option V,σ=[some (V.ref a),some (V.int m),some (V.ref np),some (V.ref D),some (V.bl (decide (ns.getD 0 0 / 8 % 4=1))),v5,some (V.ref sp),some (V.str (Str.ofString "made")),some (V.int (ns.getD 3 0 % 2)),some (V.str (Str.ofString "made")),some (V.ref t1),some (V.ref t2),some (V.ref vd),v13,none,none,none,none,none,none,none]∧Twz K Z2 [st2,st] ts 1 H' [vd] [⟨C,t1,x1,s1,g0⟩,⟨C,t2,x2,s2,g0⟩]∧SameBut vd H11 H'∧H' vd=some (.dK (kv78 ((ys.take m).take i) fun _=>0))) ⟨none,rfl,tz11,(fun b o e _=>e),s11 _ _ kvd⟩ (fun i σ H' _ h_=>by obtain ⟨_,_,_,sb,_⟩:=h_;exact SqL.of (sb _ _ kzp (fun e=>by rw [e,s11 _ _ kvd]at kzp;cases kzp))) ?_ ?_⟩
    · clear hrest
      rintro i v σ H' hv ⟨v13,rfl,tz',sb',kv'⟩
      rw [List.getElem?_map]at hv
      cases hz:(ys.take m)[i]? with
      | none=>rw [hz]at hv;cases hv
      | some z=>
      rw [hz]at hv
      cases hv
      have hil:i < m:=by have:=(List.getElem?_eq_some_iff.mp hz).1;omega
      have hzn:z∉(ys.take m).take i:=fun h=>by
       have e:(ys.take m).take (i+1)=(ys.take m).take i++[z]:=by rw [List.take_add_one,hz];rfl
       have h2:((ys.take m).take (i+1)).Nodup:=List.Nodup.sublist (List.take_sublist _ _) znd
       rw [e,List.nodup_append]at h2
       exact h2.2.2 _ h _ List.mem_cons_self rfl
      walk_at "go"
      have hput:=DPut.k (k:=Sum.inr z) (v:=V.int 0) kv' (by rw [kv78_len,List.length_take];omega)
      rw [kv78_new hzn]at hput
      refine ⟨_,hput,?_⟩
      have e:(ys.take m).take (i+1)=(ys.take m).take i++[z]:=by rw [List.take_add_one,hz];rfl
      have sbu:SameBut vd H' (upd H' vd (.dK (kv78 ((ys.take m).take i++[z]) fun _=>0))):=fun b o e n=>by rw [upd_ne n];exact e
      rw [e]
      exact ⟨(tz'.put (c:=vd) (u:= .dK (kv78 ((ys.take m).take i++[z]) fun _=>0)) (by simp) (fun e=>by intro z;cases z) sbu upd_same).1,(fun b o e n=>sbu _ _ (sb' _ _ e n) n),upd_same⟩
    · rintro σ H' ⟨v13,rfl,tz',sb',kv'⟩
      rw [List.length_map,List.take_length]at kv'
      subst hrest
      walk_at "go"
      have nvn:np≠vd:=fun e=>npL (by rw [e];exact mem_Lall.mpr (.inl (by simp)))
      refine ⟨_,SqL.butD sb' (s11 _ _ kvd) hS11,fun cp hcp=>?_⟩
      obtain ⟨cs,hcs,hcl⟩:=cut78 ns (some 5) (some 65)
      rw [hcs]
      clear hcs
      have s12:Same H' (upd H' cp (.lst (cs.map V.int))):=Same.new hcp
      have kcp:upd H' cp (.lst (cs.map V.int)) cp=some (.lst (cs.map V.int)):=upd_same
      have cpL:=tz'.n hcp
      generalize upd H' cp (.lst (cs.map V.int))=H12 at s12 kcp ⊢
      have tz12:=tz'.same s12
      have rnp12:Rst (Lall [vd] [⟨C,t1,x1,s1,g0⟩,⟨C,t2,x2,s2,g0⟩]) H12 np=some (.lst (ys.map V.str)):=Rst.get npL (s12 _ _ (sb' _ _ (s11 _ _ hny10) nvn))
      have rcp12:Rst (Lall [vd] [⟨C,t1,x1,s1,g0⟩,⟨C,t2,x2,s2,g0⟩]) H12 cp=some (.lst (cs.map V.int)):=Rst.get cpL kcp
      have kv12:=s12 _ _ kv'
      clear rnp rzp tz11 hS11 s11 kzp zpL hzp hS10 hny10 kvd tzv sb' kv' tz' s12 cpL hcp nvn
      rename_i rest hrest
      refine ⟨⟨_,SqL.of kcp⟩,forE_by (xs:=cs.map V.int) (fun i σ H2=>∃(v13 v14 v15 v16 v17 v18 v19 v20:Option V) (s3 s4:TwS) (gg:Gt) (cv:Str→Int),σ=[some (V.ref a),some (V.int m),some (V.ref np),some (V.ref D),some (V.bl (decide (ns.getD 0 0 / 8 % 4=1))),v5,some (V.ref sp),some (V.str (Str.ofString "made")),some (V.int (ns.getD 3 0 % 2)),some (V.str (Str.ofString "made")),some (V.ref t1),some (V.ref t2),some (V.ref vd),v13,v14,v15,v16,v17,v18,v19,v20]∧Twz K Z2 [st2,st] ts (1+6 * i) H2 [vd] [⟨C,t1,x1,s3,gg⟩,⟨C,t2,x2,s4,gg⟩]∧Eq5 s3 s4∧Cur s3.R gg cv∧H2 vd=some (.dK (kv78 (ys.take m) cv))∧Rst (Lall [vd] [⟨C,t1,x1,s1,g0⟩,⟨C,t2,x2,s2,g0⟩]) H2 np=some (.lst (ys.map V.str))∧Rst (Lall [vd] [⟨C,t1,x1,s1,g0⟩,⟨C,t2,x2,s2,g0⟩]) H2 cp=some (.lst (cs.map V.int))) ⟨v13,none,none,none,none,none,none,none,s1,s2,g0,_,rfl,tz12,e5,cu,kv12,rnp12,rcp12⟩ (fun i σ H2 _ h_=>by obtain ⟨_,_,_,_,_,_,_,_,_,_,_,_,_,_,_,_,_,_,rc⟩:=h_;exact SqL.of (Rst.at rc).2) ?_ ?_⟩
      · clear hrest tz12 e5 cu kv12 rnp12 rcp12 kcp v13
        rintro i u σ H2 t hu ⟨v13,v14,v15,v16,v17,v18,v19,v20,s3,s4,gg,cv,rfl,tz,f5,cu,kv,rnp,rcp⟩ htn
        rw [List.getElem?_map]at hu
        cases hc:cs[i]? with
        | none=>rw [hc]at hu;cases hu
        | some c=>
        rw [hc]at hu
        cases hu
        have hil:i < cs.length:=(List.getElem?_eq_some_iff.mp hc).1
        walk_at "go"
        refine ⟨_,SqT.of upd_same,rfl,_,_,rfl,_,_,rfl,rfl,?_⟩
        have u1:=Same.new (o:= .tup [V.int i,V.int c]) htn
        generalize upd H2 t (.tup [V.int i,V.int c])=H3 at u1 ⊢
        replace tz:=tz.same u1
        replace kv:=u1 _ _ kv
        replace rnp:=Rst.mono u1 _ _ rnp
        replace rcp:=Rst.mono u1 _ _ rcp
        clear u1 htn hc
        have hny:=(Rst.at rnp).2
        obtain ⟨j,hj⟩:∃j:Nat,(j:Int)=c % ((m:Int)+1)∧True:=⟨(c % ((m:Int)+1)).toNat,by have:=Int.emod_nonneg c (show (m:Int)+1≠0 by omega);omega,trivial⟩
        have hjm:j≤m:=by have:=Int.emod_lt_of_pos c (show (0:Int) < (m:Int)+1 by omega);omega
        walk_at "go"
        rw [← hj.1]
        refine ixL_of (SqL.of hny) (v:=V.str (ys.getD j Str.empty)) (atI_nat (by rw [List.getElem?_map,getD_str (by omega)];rfl)) ?_
        clear hj
        rename_i rest2 hrest2
        subst hrest2
        walk_at "go"
        intro vb H4 u4 hnv hwv
        refine ⟨i,rfl,by omega,fun H5 hv1 hv2 u5=>⟨by omega,fun vp hvp=>?_⟩⟩
        generalize valM (mixF c ((i:Nat):Int))=vg at hv1 hv2 ⊢
        obtain ⟨vv,hat,hvv1,hvv2⟩:∃vv,atI [vb,V.int vg] (if 0 < c / 64 % 3 then 1 else 0)=some vv∧(decide (0 < c / 64 % 3)=true→vv=V.int vg)∧(decide (0 < c / 64 % 3)=false→vv=vb):=by
         by_cases k:0 < c / 64 % 3
         · rw [if_pos k];exact ⟨_,rfl,fun _=>rfl,fun h=>by rw [decide_eq_true k]at h;cases h⟩
         · rw [if_neg k];exact ⟨_,rfl,fun h=>absurd (of_decide_eq_true h) k,fun _=>rfl⟩
        refine ixL_of (SqL.of upd_same) hat ?_
        have u6:Same H5 (upd H5 vp (.lst [vb,V.int vg])):=Same.new hvp
        generalize upd H5 vp (.lst [vb,V.int vg])=H6 at u6 ⊢
        have uA:=(u4.trans u5).trans u6
        replace hnv:=(hnv.same u5).same u6
        replace tz:=tz.same uA
        replace kv:=uA _ _ kv
        replace rnp:=Rst.mono uA _ _ rnp
        replace rcp:=Rst.mono uA _ _ rcp
        clear u4 u5 u6 uA hvp hat hny
        have hny:=(Rst.at rnp).2
        have hd0:0≤c.fdiv ((m:Int)+1) % 5∧c.fdiv ((m:Int)+1) % 5 < 5:=⟨by omega,by omega⟩
        generalize c.fdiv ((m:Int)+1) % 5=dd at hd0 ⊢
        generalize decide (0 < c / 64 % 3)=gb at hvv1 hvv2 ⊢
        rename_i rest2 hrest2
        subst hrest2
        walk_at "go"
        refine ixL_of (SqL.of hny) (v:=V.str (ys.getD m Str.empty)) (atI_nat (by rw [List.getElem?_map,getD_str (by omega)];rfl)) ?_
        refine ⟨_,rfl,fun ex H7 u7 hex=>?_⟩
        replace tz:=tz.same u7
        replace kv:=u7 _ _ kv
        replace rnp:=Rst.mono u7 _ _ rnp
        replace rcp:=Rst.mono u7 _ _ rcp
        replace hny:=u7 _ _ hny
        replace hnv:=hnv.same u7
        clear u7
        rename_i rest2 hrest2
        subst hrest2
        walk_at "go"
        refine ⟨_,SqL.of hny,fun zp hzp=>?_⟩
        rw [N6.cut_to ys m (by omega)]
        have u8:Same H7 (upd H7 zp (.lst ((ys.take m).map V.str))):=Same.new hzp
        have kzp:upd H7 zp (.lst ((ys.take m).map V.str)) zp=some (.lst ((ys.take m).map V.str)):=upd_same
        generalize upd H7 zp (.lst ((ys.take m).map V.str))=H8 at u8 kzp ⊢
        replace tz:=tz.same u8
        replace kv:=u8 _ _ kv
        replace rnp:=Rst.mono u8 _ _ rnp
        replace rcp:=Rst.mono u8 _ _ rcp
        replace hny:=u8 _ _ hny
        replace hnv:=hnv.same u8
        have hti:∀y∈ys.take m,y∈ts.map (·.1):=fun y hy=>by rw [htn.1];exact hy
        have hCC:C=Z0∨C=Z1:=hC.imp And.right And.right
        refine ⟨C,hCC,x1,s3,gg,ts,_,tz.ok ⟨C,t1,x1,s3,gg⟩ (by simp),ys.take m,SqL.of kzp,by omega,hti,fun bp lv di fo so as us H9 u9 st9=>?_⟩
        replace tz:=tz.same u9
        replace kv:=u9 _ _ kv
        replace rnp:=Rst.mono u9 _ _ rnp
        replace rcp:=Rst.mono u9 _ _ rcp
        replace hny:=u9 _ _ hny
        replace hnv:=hnv.same u9
        have u79:=u8.trans u9
        clear kzp hzp
        have W1:=tz.ok ⟨C,t1,x1,s3,gg⟩ (by simp)
        rename_i rest2 hrest2
        subst hrest2
        walk_at "go"
        rename_i rest3 hrest3
        obtain ⟨z,hz⟩:∃z,ys.getD j Str.empty=z:=⟨_,rfl⟩
        rw [hz]at hex ⊢
        have hzc:z=ys.getD m Str.empty∨z∈ys.take m:=by
         by_cases e:j=m
         · rw [← hz,e];exact .inl rfl
         · refine .inr ?_
           rw [← hz]
           exact List.mem_of_getElem? (i:=j) (by rw [List.getElem?_take,if_pos (show j < m by omega),getD_str (by omega)])
        have hzx:z=ys.getD m Str.empty→z∉ts.map (·.1):=fun e=>by rw [htn.1,e];exact zx
        clear hz
        have hexs:∀{H10:Hp},Same H9 H10→∀{w u},Tr78 H7 ex w u→Tr78 H10 ex w u:=fun s10 _ _ h=>h.same (u79.trans s10)
        have refd:∀(wd:Str) (u:Option Str) (H10:Hp),Same H9 H10→Tr78 H10 ex wd u→wd≠Str.ofString "done"→rest3 [some (V.ref a),some (V.int m),some (V.ref np),some (V.ref D),some (V.bl (decide (ns.getD 0 0 / 8 % 4=1))),v5,some (V.ref sp),some (V.str (Str.ofString "made")),some (V.int (ns.getD 3 0 % 2)),some (V.str (Str.ofString "made")),some (V.ref t1),some (V.ref t2),some (V.ref vd),some (V.str z),some (V.int i),some (V.int c),some (V.int dd),some (V.bl gb),some vv,some (V.ref ex),some (V.ref bp)] H10:=by
         clear hex hexs hzx hzc hnv hwv hvv1 hvv2
         intro wd u H10 u10 hex hwd
         obtain ⟨vx,kex,_⟩:=hex
         subst hrest3
         replace tz:=tz.same u10
         replace kv:=u10 _ _ kv
         replace rnp:=Rst.mono u10 _ _ rnp
         replace rcp:=Rst.mono u10 _ _ rcp
         replace hny:=u10 _ _ hny
         walk_at "go"
         refine ixT_of (SqT.of kex) (v:=V.str wd) rfl ⟨rfl,?_⟩
         rw [if_pos (fun h=>hwd (by injection h))]
         refine ⟨_,SqL.of hny,fun zp hzp=>?_⟩
         rw [N6.cut_to ys m (by omega)]
         have w1:Same H10 (upd H10 zp (.lst ((ys.take m).map V.str))):=Same.new hzp
         have kzp:upd H10 zp (.lst ((ys.take m).map V.str)) zp=some (.lst ((ys.take m).map V.str)):=upd_same
         generalize upd H10 zp (.lst ((ys.take m).map V.str))=H11 at w1 kzp ⊢
         refine ⟨C,hCC,x1,s3,gg,ts,_,(tz.same w1).ok ⟨C,t1,x1,s3,gg⟩ (by simp),ys.take m,SqL.of kzp,by omega,hti,fun bp2 lv2 di2 fo2 so2 as2 us2 H12 w2 st12=>?_⟩
         have w12:=w1.trans w2
         refine ⟨state_like st12 (st9.same (u10.trans w12)) W1.g.fl,?_⟩
         replace tz:=tz.same w12
         replace kv:=w12 _ _ kv
         replace rnp:=Rst.mono w12 _ _ rnp
         replace rcp:=Rst.mono w12 _ _ rcp
         replace kex:=w12 _ _ kex
         clear st12 w1 w2 w12 kzp hzp hny
         rename_i rest4 hrest4
         subst hrest4
         walk_at "go"
         refine ixT_of (SqT.of kex) (v:=V.str wd) rfl ⟨rfl,?_⟩
         rw [if_neg (fun h=>hwd (by injection h))]
         rename_i rest4 hrest4
         subst hrest4
         walk_at "go"
         refine ixT_of (SqT.of kex) (v:=V.str wd) rfl ⟨rfl,?_⟩
         rw [if_neg (fun h=>hwd (by injection h))]
         exact ⟨s3,s4,gg,tz.up (by omega) (by omega),f5,cv,cu,kv,rnp,rcp⟩
        by_cases cU:z=ys.getD m Str.empty
        · rw [if_pos cU]at hex
          exact ⟨C,pr,hC,x1,s3,gg,ts,_,W1,by omega,hd0.1,hd0.2,.inl ⟨hzx cU,fun tp H10 u10 tr=>⟨tr_like tr (hexs u10 hex),refd _ _ H10 u10 (hexs u10 hex) (by decide)⟩⟩⟩
        rw [if_neg cU]at hex
        have hzin:z∈ts.map (·.1):=by rw [htn.1];exact hzc.resolve_left cU
        by_cases cN:gb=false∧0 < dd∧dd < 3
        · rw [if_pos cN]at hex
          have e:=hvv2 cN.1
          exact ⟨C,pr,hC,x1,s3,gg,ts,_,W1,by omega,hd0.1,hd0.2,.inr (.inl ⟨hzin,cN.2.1,cN.2.2,by rw [e];exact hnv,by rw [e];exact hwv,fun tp H10 u10 tr=>⟨tr_like tr (hexs u10 hex),refd _ _ H10 u10 (hexs u10 hex) (by decide)⟩⟩)⟩
        rw [if_neg cN]at hex
        clear refd
        have hvg:0 < dd→dd < 3→vv=V.int vg∧-(10 ^ 30)≤vg∧vg≤10 ^ 30:=fun k1 k2=>⟨hvv1 (by cases e:gb with | true=>rfl | false=>exact absurd ⟨e,k1,k2⟩ cN),hv1,hv2⟩
        refine ⟨C,pr,hC,x1,s3,gg,ts,_,W1,by omega,hd0.1,hd0.2,.inr (.inr ⟨hzin,vg,hvg,fun s5 g5 tp H10 o10 W10 st10 tr=>?_⟩)⟩
        have kex:H9 ex=some (.tup [V.str (Str.ofString "done"),V.non]):=by
         obtain ⟨vx,e,k⟩:=hexs (Same.refl H9) hex
         rw [e,show vx=V.non from k]
        obtain ⟨tz10,rs10,kk10⟩:=Twz.deed (l1:=[]) (w':=⟨C,t1,x1,s5,g5⟩) (l2:=[⟨C,t2,x2,s4,gg⟩]) tz o10 (fun b hb=> .inl hb) W10 (by omega) rfl rfl
        have kex10:H10 ex=some (.tup [V.str (Str.ofString "done"),V.non]):=o10 _ _ kex (fun hb=>own_notup W1.to.tw ex (List.mem_cons_of_mem _ hb) _ kex)
        have kv10:=kk10 vd (by simp) _ kv
        have rnp10:=rs10 _ _ rnp
        have rcp10:=rs10 _ _ rcp
        refine ⟨tr_like tr ⟨_,kex10,rfl⟩,?_⟩
        clear tr tz kv rnp rcp hny hnv hwv hvv1 hvv2 st9 u79 u8 u9 hexs hex rs10 kk10 kex o10
        subst hrest3
        walk_at "go"
        refine ixT_of (SqT.of kex10) (v:=V.str (Str.ofString "done")) rfl ⟨rfl,?_⟩
        rw [if_neg (fun h=>h rfl)]
        rename_i rest4 hrest4
        subst hrest4
        walk_at "go"
        refine ixT_of (SqT.of kex10) (v:=V.str (Str.ofString "done")) rfl ⟨rfl,?_⟩
        rw [if_pos rfl]
        have W2:=tz10.ok ⟨C,t2,x2,s4,gg⟩ (by simp)
        refine ⟨C,pr,hC,x2,s4,gg,ts,_,W2,by omega,hd0.1,hd0.2,.inr (.inr ⟨hzin,vg,hvg,fun s6 g6 tp2 H11 o11 W11 st11 tr2=>?_⟩)⟩
        have kex11:H11 ex=some (.tup [V.str (Str.ofString "done"),V.non]):=o11 _ _ kex10 (fun hb=>own_notup W2.to.tw ex (List.mem_cons_of_mem _ hb) _ kex10)
        refine ⟨tr_like tr2 ⟨_,kex11,rfl⟩,?_⟩
        have eg:g6=g5:=by rw [st11.g,st10.g,f5.1,f5.2.1]
        subst eg
        obtain ⟨tz11,rs11,kk11⟩:=Twz.deed (l1:=[⟨C,t1,x1,s5,g6⟩]) (w':=⟨C,t2,x2,s6,g6⟩) (l2:=[]) tz10 o11 (fun b hb=> .inl hb) W11 (by omega) rfl rfl
        have kv11:=kk11 vd (by simp) _ kv10
        have rnp11:=rs11 _ _ rnp10
        have rcp11:=rs11 _ _ rcp10
        have f6:Eq5 s5 s6:=⟨by rw [st11.zs,st10.zs,f5.1],by rw [st11.r,st10.r,f5.1,f5.2.1],by rw [st11.pd,st10.pd,f5.2.1,f5.2.2.1],by rw [st11.ff,st10.ff,f5.1,f5.2.1,f5.2.2.2]⟩
        have cu6:Cur s5.R g6 (if 0 < dd∧dd < 3 then setF cv z vg else cv):=by rw [st10.r,st10.g];exact cur_gN cu W1.g.lh hd0.1 hd0.2
        clear tr2 tz10 kv10 rnp10 rcp10 kex10 st10 st11 rs11 kk11 o11 W11 W2 W10 cu f5
        rename_i rest4 hrest4
        subst hrest4
        walk_at "go"
        refine ixT_of (SqT.of kex11) (v:=V.str (Str.ofString "done")) rfl ⟨rfl,?_⟩
        rw [if_pos rfl]
        have tzE:Twz K Z2 [st2,st] ts (1+6 * (i+1)) H11 [vd] [⟨C,t1,x1,s5,g6⟩,⟨C,t2,x2,s6,g6⟩]:=by rw [show 1+6 * (i+1)=1+6 * i+3+3 by omega];exact tz11
        by_cases k0:0 < dd
        · rw [if_pos k0]
          by_cases k3:dd < 3
          · rw [if_pos k3]
            rw [if_pos ⟨k0,k3⟩]at cu6
            rw [(hvg k0 k3).1]
            have hput:=DPut.k (k:=Sum.inr z) (v:=V.int vg) kv11 (by rw [kv78_len];omega)
            rw [kv78_old (hzc.resolve_left cU)]at hput
            have sbu:SameBut vd H11 (upd H11 vd (.dK (kv78 (ys.take m) (setF cv z vg)))):=fun b o e n=>by rw [upd_ne n];exact e
            obtain ⟨tzp,rsp⟩:=tzE.put (c:=vd) (u:= .dK (kv78 (ys.take m) (setF cv z vg))) (by simp) (fun e=>by intro z;cases z) sbu upd_same
            exact ⟨_,hput,s5,s6,g6,tzp,f6,_,cu6,upd_same,rsp _ _ rnp11,rsp _ _ rcp11⟩
          · rw [if_neg k3]
            rw [if_neg (fun h=>k3 h.2)]at cu6
            exact ⟨s5,s6,g6,tzE,f6,cv,cu6,kv11,rnp11,rcp11⟩
        · rw [if_neg k0]
          rw [if_neg (fun h=>k0 h.1)]at cu6
          exact ⟨s5,s6,g6,tzE,f6,cv,cu6,kv11,rnp11,rcp11⟩
      · rintro σ H2 ⟨v13,v14,v15,v16,v17,v18,v19,v20,s3,s4,gg,cv,rfl,tz,f5,cu,kv,rnp,rcp⟩
        subst hrest
        walk_at "go"
        exact ⟨⟨C,t1,x1,s3,gg⟩,rfl,⟨C,t2,x2,s4,gg⟩,rfl,hC.imp And.right And.right,[st2,st],ts,_,tz,⟨rfl,f5.1,f5.2.1,f5.2.2.1,f5.2.2.2,rfl⟩,by rw [List.length_map];omega,ys.take m,cv,cu,kv,by omega,(fun y hy=>by rw [htn.1];exact hy),znd,fun _ H3 _=>q H3⟩
   clear hrest
   by_cases c1:ns.getD 2 0 % 4=1
   · rw [if_pos c1];exact key3 _ ⟨by rw [if_pos (.inl c1)],trivial⟩
   · rw [if_neg c1]
     refine ⟨ns,hS5,by decide,hl,by decide,?_⟩
     by_cases c2:ns.getD 2 0 % 4=2
     · rw [if_pos c2];exact key3 _ ⟨by rw [if_pos (.inr c2)],trivial⟩
     · rw [if_neg c2];exact key3 _ ⟨by rw [if_neg (fun h=>h.elim c1 c2)];exact hdu.1,trivial⟩
  clear hrest
  split
  · rename_i h;exact key2 _ ⟨by rw [if_pos h],trivial⟩
  · rename_i h;exact key2 _ ⟨by rw [if_neg h],trivial⟩
 by_cases hw:ns.getD 0 0 / 8 % 4=1
 · rw [if_pos hw]
   clear hrest
   have hk0:=Int.emod_nonneg (ns.getD 4 0) (show (m:Int)≠0 by omega)
   have hk1:=Int.emod_lt_of_pos (ns.getD 4 0) (show (0:Int) < m by omega)
   walk_at "go"
   obtain ⟨n,hn⟩:∃n:Nat,(n:Int)=ns.getD 4 0 % (m:Int)∧True:=⟨(ns.getD 4 0 % (m:Int)).toNat,by omega,trivial⟩
   rw [← hn.1]
   have hnm:n < m:=by omega
   clear hn hk0 hk1
   refine ixL_of (SqL.of hny3) (v:=V.str (ys.getD n Str.empty)) (atI_nat (by rw [List.getElem?_map,getD_str (by omega)];rfl)) ?_
   refine ⟨ns,hS3,by decide,hl,cdiv_of (by decide) (by decide),by decide,by omega,fun tp htp=>?_⟩
   have hr0:2≤2+ns.getD 4 0 / 8 % 999∧2+ns.getD 4 0 / 8 % 999≤1000:=⟨by omega,by omega⟩
   generalize 2+ns.getD 4 0 / 8 % 999=rr at hr0 ⊢
   have s4:Same H3 (upd H3 tp (.tup [V.str (ys.getD n Str.empty),V.int 2,V.int rr])):=Same.new htp
   have k4:upd H3 tp (.tup [V.str (ys.getD n Str.empty),V.int 2,V.int rr]) tp=some (.tup [V.str (ys.getD n Str.empty),V.int 2,V.int rr]):=upd_same
   generalize upd H3 tp (.tup [V.str (ys.getD n Str.empty),V.int 2,V.int rr])=H4 at s4 k4 ⊢
   refine ⟨_,s4 _ _ hD3,n,by rw [List.length_map];exact ixN_at (by omega),?_⟩
   have eset:(as.map V.ref).set n (V.ref tp)=(as.set n tp).map V.ref:=by rw [List.map_set]
   rw [eset]
   have smW:Same H2 (upd H4 D (.lst ((as.set n tp).map V.ref))):=fun b o e=>by rw [upd_ne (ne_of_none e hD)];exact s4 _ _ (s3 _ _ e)
   have sbW:SameBut D H4 (upd H4 D (.lst ((as.set n tp).map V.ref))):=fun b o e n=>by rw [upd_ne n];exact e
   have hD4:=s4 _ _ hD3
   refine key (as.set n tp) (fun i=>if i=n then rr else 1) _ _ upd_same (by rw [List.length_set];exact hasl.1) (by rw [List.length_set];exact hasl.2) (fun i hi=>by split <;> omega) (fun i c hc=>?_) (fun _=>⟨n,hnm,by rw [if_pos rfl];omega⟩) (fun h=>absurd hw h) (smW _ _ hny2) (smW.seq hS2)
   by_cases e:i=n
   · rw [e]at hc ⊢
     rw [List.getElem?_set_self (by omega)]at hc
     cases hc
     rw [if_pos rfl,show (ys.take m).getD n Str.empty=ys.getD n Str.empty by rw [List.getD_eq_getElem?_getD,List.getD_eq_getElem?_getD,List.getElem?_take,if_pos hnm]]
     exact SqT.butL sbW hD4 (SqT.of k4)
   · rw [List.getElem?_set_ne (fun h=>e h.symm)]at hc
     rw [if_neg e]
     exact SqT.butL sbW hD4 (s4.tup (hal i c hc))
 · rw [if_neg hw]
   exact key as (fun _=>1) none H3 hD3 hasl.1 hasl.2 (fun i _=>⟨by decide,by decide⟩) hal (fun h=>absurd h hw) (fun _ i _=>rfl) hny3 hS3
end
theorem all_mk{l:W.OpenLaw}{w:World}{K:W.Frag}{h:Heap}{mg:Str→Option Value}{fa f0 f1 f2 f3 f4 f5 f6 f7 f8 f9 f10 f11 f12 f13 f14 f15 f16 f17 f18 f19 f20 f21 f22 f23 f24 f25 f26 f27 f28 f29 f30 f31 f32 f33 f34 f35 f36 f37 f38 f39 f40 f41 f42 f43 f44 f45 f46 f47 f48 f49 f50 f51 f52 f53 f54 f55 f56 f57 f58 f59 f60 Z5 Z3 Z4 Z7 Z2 Z1 Z0:Addr}(X:K.In h)(G:h.Ns mainGlobals mg)(hfa:mg "law"=some (.ref fa))
 {od0 an0 od1 an1 od2 an2 od3 an3 od4 an4 od5 an5 od6 an6 od7 an7 od8 an8 od9 an9 od10 an10 od11 an11 od12 an12 od13 an13 od14 an14 od15 an15 od16 an16 od17 an17 od18 an18 od19 an19 od20 an20 od21 an21 od22 an22 od23 an23 od24 an24 od25 an25 od26 an26 od27 an27 od28 an28 od29 an29 od30 an30 od31 an31 od32 an32 od33 an33 od34 an34 od35 an35 od36 an36 od37 an37 od38 an38 od39 an39 od40 an40 od41 an41 od42 an42 od43 an43 od44 an44 od45 an45 od46 an46 od47 an47 od48 an48 od49 an49 od50 an50 od51 an51 od52 an52 od53 an53 od54 an54 od55 an55 od56 an56 od57 an57 od58 an58 od59 an59 od60 an60:Option Addr} {sl0 sl1 sl2 sl3 sl4 sl5 sl6 sl7 sl8 sl9 sl10 sl11 sl12 sl13 sl14 sl15 sl16 sl17 sl18 sl19 sl20 sl21 sl22 sl23 sl24 sl25 sl26 sl27 sl28 sl29 sl30 sl31 sl32 sl33 sl34 sl35 sl36 sl37 sl38 sl39 sl40 sl41 sl42 sl43 sl44 sl45 sl46 sl47 sl48 sl49 sl50 sl51 sl52 sl53 sl54 sl55 sl56 sl57 sl58 sl59 sl60:Array (Option Value)} {oc0 kV0 dc0 pm0 cd0 ct0 oc1 kV1 dc1 pm1 cd1 ct1 oc2 kV2 dc2 pm2 cd2 ct2 oc3 kV3 dc3 pm3 cd3 ct3 oc4 kV4 dc4 pm4 cd4 ct4 oc5 kV5 dc5 pm5 cd5 ct5 oc6 kV6 dc6 pm6 cd6 ct6 oc7 kV7 dc7 pm7 cd7 ct7 oc8 kV8 dc8 pm8 cd8 ct8 oc9 kV9 dc9 pm9 cd9 ct9 oc10 kV10 dc10 pm10 cd10 ct10 oc11 kV11 dc11 pm11 cd11 ct11 oc12 kV12 dc12 pm12 cd12 ct12 oc13 kV13 dc13 pm13 cd13 ct13 oc14 kV14 dc14 pm14 cd14 ct14 oc15 kV15 dc15 pm15 cd15 ct15 oc16 kV16 dc16 pm16 cd16 ct16 oc17 kV17 dc17 pm17 cd17 ct17 oc18 kV18 dc18 pm18 cd18 ct18 oc19 kV19 dc19 pm19 cd19 ct19 oc20 kV20 dc20 pm20 cd20 ct20 oc21 kV21 dc21 pm21 cd21 ct21 oc22 kV22 dc22 pm22 cd22 ct22 oc23 kV23 dc23 pm23 cd23 ct23 oc24 kV24 dc24 pm24 cd24 ct24 oc25 kV25 dc25 pm25 cd25 ct25 oc26 kV26 dc26 pm26 cd26 ct26 oc27 kV27 dc27 pm27 cd27 ct27 oc28 kV28 dc28 pm28 cd28 ct28 oc29 kV29 dc29 pm29 cd29 ct29 oc30 kV30 dc30 pm30 cd30 ct30 oc31 kV31 dc31 pm31 cd31 ct31 oc32 kV32 dc32 pm32 cd32 ct32 oc33 kV33 dc33 pm33 cd33 ct33 oc34 kV34 dc34 pm34 cd34 ct34 oc35 kV35 dc35 pm35 cd35 ct35 oc36 kV36 dc36 pm36 cd36 ct36 oc37 kV37 dc37 pm37 cd37 ct37 oc38 kV38 dc38 pm38 cd38 ct38 oc39 kV39 dc39 pm39 cd39 ct39 oc40 kV40 dc40 pm40 cd40 ct40 oc41 kV41 dc41 pm41 cd41 ct41 oc42 kV42 dc42 pm42 cd42 ct42 oc43 kV43 dc43 pm43 cd43 ct43 oc44 kV44 dc44 pm44 cd44 ct44 oc45 kV45 dc45 pm45 cd45 ct45 oc46 kV46 dc46 pm46 cd46 ct46 oc47 kV47 dc47 pm47 cd47 ct47 oc48 kV48 dc48 pm48 cd48 ct48 oc49 kV49 dc49 pm49 cd49 ct49 oc50 kV50 dc50 pm50 cd50 ct50 oc51 kV51 dc51 pm51 cd51 ct51 oc52 kV52 dc52 pm52 cd52 ct52 oc53 kV53 dc53 pm53 cd53 ct53 oc54 kV54 dc54 pm54 cd54 ct54 oc55 kV55 dc55 pm55 cd55 ct55 oc56 kV56 dc56 pm56 cd56 ct56 oc57 kV57 dc57 pm57 cd57 ct57 oc58 kV58 dc58 pm58 cd58 ct58 oc59 kV59 dc59 pm59 cd59 ct59 oc60 kV60 dc60 pm60 cd60 ct60:Value}
 (a0:W.nsIn K mainGlobals "made_of"=some (some (.ref f0))) (l0:K.lookup f0=some ⟨oc0,od0,.func (W.fnOf "made_of" "made_of" (defArgs Z2r) (defBody Z2r) (defScope Z2r) .none kV0 dc0 pm0 an0 cd0 ct0),sl0⟩) (c0:W.codeIn K cd0 "made_of"=true) (k0:W.keepIn K (.ref f0)=true)
 (a1:W.nsIn K mainGlobals "is_name"=some (some (.ref f1))) (l1:K.lookup f1=some ⟨oc1,od1,.func (W.fnOf "is_name" "is_name" (defArgs Z2s) (defBody Z2s) (defScope Z2s) .none kV1 dc1 pm1 an1 cd1 ct1),sl1⟩) (c1:W.codeIn K cd1 "is_name"=true) (k1:W.keepIn K (.ref f1)=true)
 (a2:W.nsIn K mainGlobals "is_whole"=some (some (.ref f2))) (l2:K.lookup f2=some ⟨oc2,od2,.func (W.fnOf "is_whole" "is_whole" (defArgs Z2i) (defBody Z2i) (defScope Z2i) .none kV2 dc2 pm2 an2 cd2 ct2),sl2⟩) (c2:W.codeIn K cd2 "is_whole"=true) (k2:W.keepIn K (.ref f2)=true)
 (a3:W.nsIn K mainGlobals "is_within"=some (some (.ref f3))) (l3:K.lookup f3=some ⟨oc3,od3,.func (W.fnOf "is_within" "is_within" (defArgs Z29) (defBody Z29) (defScope Z29) .none kV3 dc3 pm3 an3 cd3 ct3),sl3⟩) (c3:W.codeIn K cd3 "is_within"=true) (k3:W.keepIn K (.ref f3)=true)
 (a4:W.nsIn K mainGlobals "check_thing"=some (some (.ref f4))) (l4:K.lookup f4=some ⟨oc4,od4,.func (W.fnOf "check_thing" "check_thing" (defArgs Z19) (defBody Z19) (defScope Z19) .none kV4 dc4 pm4 an4 cd4 ct4),sl4⟩) (c4:W.codeIn K cd4 "check_thing"=true) (k4:W.keepIn K (.ref f4)=true)
 (a5:W.findIn K (.ref Z2) "__init__"=some (some (.ref f5))) (l5:K.lookup f5=some ⟨oc5,od5,.func (W.fnOf "__init__" "Stock.__init__" (defArgs Z1z) (defBody Z1z) (defScope Z1z) .none kV5 dc5 pm5 an5 cd5 ct5),sl5⟩) (c5:W.codeIn K cd5 "Stock.__init__"=true) (n5:W.isFn K (.ref f5)=true) (k5:W.keepIn K (.ref Z2)=true) (m5:W.makesIn K Z2=true) (kf5:W.keepIn K (.ref f5)=true)
 (a6:W.findIn K (.ref Z2) "names"=some (some (.ref f6))) (l6:K.lookup f6=some ⟨oc6,od6,.func (W.fnOf "names" "Stock.names" (defArgs Z1a) (defBody Z1a) (defScope Z1a) .none kV6 dc6 pm6 an6 cd6 ct6),sl6⟩) (c6:W.codeIn K cd6 "Stock.names"=true) (n6:W.isFn K (.ref f6)=true) (k6:W.keepIn K (.ref f6)=true)
 (a7:W.findIn K (.ref Z3) "__init__"=some (some (.ref f7))) (l7:K.lookup f7=some ⟨oc7,od7,.func (W.fnOf "__init__" "Unknown.__init__" (defArgs Z0o) (defBody Z0o) (defScope Z0o) .none kV7 dc7 pm7 an7 cd7 ct7),sl7⟩) (c7:W.codeIn K cd7 "Unknown.__init__"=true) (k7:W.keepIn K (.ref Z3)=true) (kf7:W.keepIn K (.ref f7)=true) (hc7:oc7= .type "function")
 (a8:W.nsIn K mainGlobals "check_places"=some (some (.ref f8))) (l8:K.lookup f8=some ⟨oc8,od8,.func (W.fnOf "check_places" "check_places" (defArgs Z0p) (defBody Z0p) (defScope Z0p) .none kV8 dc8 pm8 an8 cd8 ct8),sl8⟩) (c8:W.codeIn K cd8 "check_places"=true) (k8:W.keepIn K (.ref f8)=true)
 (a9:W.findIn K (.ref Z2) "thing_of"=some (some (.ref f9))) (l9:K.lookup f9=some ⟨oc9,od9,.func (W.fnOf "thing_of" "Stock.thing_of" (defArgs Z08) (defBody Z08) (defScope Z08) .none kV9 dc9 pm9 an9 cd9 ct9),sl9⟩) (c9:W.codeIn K cd9 "Stock.thing_of"=true) (n9:W.isFn K (.ref f9)=true) (k9:W.keepIn K (.ref f9)=true)
 (a10:W.findIn K (.ref Z2) "number_of"=some (some (.ref f10))) (l10:K.lookup f10=some ⟨oc10,od10,.func (W.fnOf "number_of" "Stock.number_of" (defArgs Z03) (defBody Z03) (defScope Z03) .none kV10 dc10 pm10 an10 cd10 ct10),sl10⟩) (c10:W.codeIn K cd10 "Stock.number_of"=true) (n10:W.isFn K (.ref f10)=true) (k10:W.keepIn K (.ref f10)=true)
 (a11:W.findIn K (.ref Z2) "cost_of"=some (some (.ref f11))) (l11:K.lookup f11=some ⟨oc11,od11,.func (W.fnOf "cost_of" "Stock.cost_of" (defArgs Z0c) (defBody Z0c) (defScope Z0c) .none kV11 dc11 pm11 an11 cd11 ct11),sl11⟩) (c11:W.codeIn K cd11 "Stock.cost_of"=true) (n11:W.isFn K (.ref f11)=true) (k11:W.keepIn K (.ref f11)=true)
 (a12:W.findIn K (.ref Z2) "room_of"=some (some (.ref f12))) (l12:K.lookup f12=some ⟨oc12,od12,.func (W.fnOf "room_of" "Stock.room_of" (defArgs Z0d) (defBody Z0d) (defScope Z0d) .none kV12 dc12 pm12 an12 cd12 ct12),sl12⟩) (c12:W.codeIn K cd12 "Stock.room_of"=true) (n12:W.isFn K (.ref f12)=true) (k12:W.keepIn K (.ref f12)=true)
 (a13:W.nsIn K mainGlobals "check_sizes"=some (some (.ref f13))) (l13:K.lookup f13=some ⟨oc13,od13,.func (W.fnOf "check_sizes" "check_sizes" (defArgs Z1b) (defBody Z1b) (defScope Z1b) .none kV13 dc13 pm13 an13 cd13 ct13),sl13⟩) (c13:W.codeIn K cd13 "check_sizes"=true) (k13:W.keepIn K (.ref f13)=true)
 (a14:W.nsIn K mainGlobals "check_rooms"=some (some (.ref f14))) (l14:K.lookup f14=some ⟨oc14,od14,.func (W.fnOf "check_rooms" "check_rooms" (defArgs Z1c) (defBody Z1c) (defScope Z1c) .none kV14 dc14 pm14 an14 cd14 ct14),sl14⟩) (c14:W.codeIn K cd14 "check_rooms"=true) (k14:W.keepIn K (.ref f14)=true)
 (a15:W.findIn K (.ref Z1) "write"=some (some (.ref f15))) (l15:K.lookup f15=some ⟨oc15,od15,.func (W.fnOf "write" "Tower.write" (defArgs Z1d) (defBody Z1d) (defScope Z1d) .none kV15 dc15 pm15 an15 cd15 ct15),sl15⟩) (c15:W.codeIn K cd15 "Tower.write"=true) (n15:W.isFn K (.ref f15)=true) (k15:W.keepIn K (.ref f15)=true)
 (a16:W.findIn K (.ref Z1) "settle"=some (some (.ref f16))) (l16:K.lookup f16=some ⟨oc16,od16,.func (W.fnOf "settle" "Tower.settle" (defArgs Z0q) (defBody Z0q) (defScope Z0q) .none kV16 dc16 pm16 an16 cd16 ct16),sl16⟩) (c16:W.codeIn K cd16 "Tower.settle"=true) (n16:W.isFn K (.ref f16)=true) (k16:W.keepIn K (.ref f16)=true)
 (a17:W.findIn K (.ref Z1) "fall_off"=some (some (.ref f17))) (l17:K.lookup f17=some ⟨oc17,od17,.func (W.fnOf "fall_off" "Tower.fall_off" (defArgs Z09) (defBody Z09) (defScope Z09) .none kV17 dc17 pm17 an17 cd17 ct17),sl17⟩) (c17:W.codeIn K cd17 "Tower.fall_off"=true) (n17:W.isFn K (.ref f17)=true) (k17:W.keepIn K (.ref f17)=true)
 (a18:W.findIn K (.ref Z1) "come"=some (some (.ref f18))) (l18:K.lookup f18=some ⟨oc18,od18,.func (W.fnOf "come" "Tower.come" (defArgs Z20) (defBody Z20) (defScope Z20) .none kV18 dc18 pm18 an18 cd18 ct18),sl18⟩) (c18:W.codeIn K cd18 "Tower.come"=true) (n18:W.isFn K (.ref f18)=true) (k18:W.keepIn K (.ref f18)=true)
 (a19:W.findIn K (.ref Z1) "levels"=some (some (.ref f19))) (l19:K.lookup f19=some ⟨oc19,od19,.func (W.fnOf "levels" "Tower.levels" (defArgs Z0r) (defBody Z0r) (defScope Z0r) .none kV19 dc19 pm19 an19 cd19 ct19),sl19⟩) (c19:W.codeIn K cd19 "Tower.levels"=true) (n19:W.isFn K (.ref f19)=true) (k19:W.keepIn K (.ref f19)=true)
 (a20:W.findIn K (.ref Z1) "shelf_of"=some (some (.ref f20))) (l20:K.lookup f20=some ⟨oc20,od20,.func (W.fnOf "shelf_of" "Tower.shelf_of" (defArgs Z0a) (defBody Z0a) (defScope Z0a) .none kV20 dc20 pm20 an20 cd20 ct20),sl20⟩) (c20:W.codeIn K cd20 "Tower.shelf_of"=true) (n20:W.isFn K (.ref f20)=true) (k20:W.keepIn K (.ref f20)=true)
 (a21:W.findIn K (.ref Z1) "stored"=some (some (.ref f21))) (l21:K.lookup f21=some ⟨oc21,od21,.func (W.fnOf "stored" "Tower.stored" (defArgs Z0s) (defBody Z0s) (defScope Z0s) .none kV21 dc21 pm21 an21 cd21 ct21),sl21⟩) (c21:W.codeIn K cd21 "Tower.stored"=true) (n21:W.isFn K (.ref f21)=true) (k21:W.keepIn K (.ref f21)=true)
 (a22:W.findIn K (.ref Z1) "fetch"=some (some (.ref f22))) (l22:K.lookup f22=some ⟨oc22,od22,.func (W.fnOf "fetch" "Tower.fetch" (defArgs Z1e) (defBody Z1e) (defScope Z1e) .none kV22 dc22 pm22 an22 cd22 ct22),sl22⟩) (c22:W.codeIn K cd22 "Tower.fetch"=true) (n22:W.isFn K (.ref f22)=true) (k22:W.keepIn K (.ref f22)=true)
 (a23:W.findIn K (.ref Z1) "read"=some (some (.ref f23))) (l23:K.lookup f23=some ⟨oc23,od23,.func (W.fnOf "read" "Tower.read" (defArgs Z21) (defBody Z21) (defScope Z21) .none kV23 dc23 pm23 an23 cd23 ct23),sl23⟩) (c23:W.codeIn K cd23 "Tower.read"=true) (n23:W.isFn K (.ref f23)=true) (k23:W.keepIn K (.ref f23)=true)
 (a24:W.findIn K (.ref Z1) "keep"=some (some (.ref f24))) (l24:K.lookup f24=some ⟨oc24,od24,.func (W.fnOf "keep" "Tower.keep" (defArgs Z22) (defBody Z22) (defScope Z22) .none kV24 dc24 pm24 an24 cd24 ct24),sl24⟩) (c24:W.codeIn K cd24 "Tower.keep"=true) (n24:W.isFn K (.ref f24)=true) (k24:W.keepIn K (.ref f24)=true)
 (a25:W.findIn K (.ref Z1) "ahead"=some (some (.ref f25))) (l25:K.lookup f25=some ⟨oc25,od25,.func (W.fnOf "ahead" "Tower.ahead" (defArgs Z1f) (defBody Z1f) (defScope Z1f) .none kV25 dc25 pm25 an25 cd25 ct25),sl25⟩) (c25:W.codeIn K cd25 "Tower.ahead"=true) (n25:W.isFn K (.ref f25)=true) (k25:W.keepIn K (.ref f25)=true)
 (a26:W.findIn K (.ref Z1) "rest"=some (some (.ref f26))) (l26:K.lookup f26=some ⟨oc26,od26,.func (W.fnOf "rest" "Tower.rest" (defArgs Z23) (defBody Z23) (defScope Z23) .none kV26 dc26 pm26 an26 cd26 ct26),sl26⟩) (c26:W.codeIn K cd26 "Tower.rest"=true) (n26:W.isFn K (.ref f26)=true) (k26:W.keepIn K (.ref f26)=true)
 (a27:W.findIn K (.ref Z1) "diary"=some (some (.ref f27))) (l27:K.lookup f27=some ⟨oc27,od27,.func (W.fnOf "diary" "Tower.diary" (defArgs Z1g) (defBody Z1g) (defScope Z1g) .none kV27 dc27 pm27 an27 cd27 ct27),sl27⟩) (c27:W.codeIn K cd27 "Tower.diary"=true) (n27:W.isFn K (.ref f27)=true) (k27:W.keepIn K (.ref f27)=true)
 (a28:W.findIn K (.ref Z1) "found"=some (some (.ref f28))) (l28:K.lookup f28=some ⟨oc28,od28,.func (W.fnOf "found" "Tower.found" (defArgs Z1h) (defBody Z1h) (defScope Z1h) .none kV28 dc28 pm28 an28 cd28 ct28),sl28⟩) (c28:W.codeIn K cd28 "Tower.found"=true) (n28:W.isFn K (.ref f28)=true) (k28:W.keepIn K (.ref f28)=true)
 (a29:W.findIn K (.ref Z1) "spent"=some (some (.ref f29))) (l29:K.lookup f29=some ⟨oc29,od29,.func (W.fnOf "spent" "Tower.spent" (defArgs Z1i) (defBody Z1i) (defScope Z1i) .none kV29 dc29 pm29 an29 cd29 ct29),sl29⟩) (c29:W.codeIn K cd29 "Tower.spent"=true) (n29:W.isFn K (.ref f29)=true) (k29:W.keepIn K (.ref f29)=true)
 (a30:W.findIn K (.ref Z1) "__init__"=some (some (.ref f30))) (l30:K.lookup f30=some ⟨oc30,od30,.func (W.fnOf "__init__" "Tower.__init__" (defArgs Z24) (defBody Z24) (defScope Z24) .none kV30 dc30 pm30 an30 cd30 ct30),sl30⟩) (c30:W.codeIn K cd30 "Tower.__init__"=true) (n30:W.isFn K (.ref f30)=true) (k30:W.keepIn K (.ref Z1)=true) (m30:W.makesIn K Z1=true) (kf30:W.keepIn K (.ref f30)=true)
 (a31:W.findIn K (.ref Z0) "write"=some (some (.ref f31))) (l31:K.lookup f31=some ⟨oc31,od31,.func (W.fnOf "write" "Tower.write" (defArgs Z0t) (defBody Z0t) (defScope Z0t) .none kV31 dc31 pm31 an31 cd31 ct31),sl31⟩) (c31:W.codeIn K cd31 "Tower.write"=true) (n31:W.isFn K (.ref f31)=true) (k31:W.keepIn K (.ref f31)=true)
 (a32:W.findIn K (.ref Z0) "settle"=some (some (.ref f32))) (l32:K.lookup f32=some ⟨oc32,od32,.func (W.fnOf "settle" "Prompt.settle" (defArgs Z0e) (defBody Z0e) (defScope Z0e) .none kV32 dc32 pm32 an32 cd32 ct32),sl32⟩) (c32:W.codeIn K cd32 "Prompt.settle"=true) (n32:W.isFn K (.ref f32)=true) (k32:W.keepIn K (.ref f32)=true)
 (a33:W.findIn K (.ref Z0) "fall_off"=some (some (.ref f33))) (l33:K.lookup f33=some ⟨oc33,od33,.func (W.fnOf "fall_off" "Tower.fall_off" (defArgs Z04) (defBody Z04) (defScope Z04) .none kV33 dc33 pm33 an33 cd33 ct33),sl33⟩) (c33:W.codeIn K cd33 "Tower.fall_off"=true) (n33:W.isFn K (.ref f33)=true) (k33:W.keepIn K (.ref f33)=true)
 (a34:W.findIn K (.ref Z0) "come"=some (some (.ref f34))) (l34:K.lookup f34=some ⟨oc34,od34,.func (W.fnOf "come" "Tower.come" (defArgs Z1j) (defBody Z1j) (defScope Z1j) .none kV34 dc34 pm34 an34 cd34 ct34),sl34⟩) (c34:W.codeIn K cd34 "Tower.come"=true) (n34:W.isFn K (.ref f34)=true) (k34:W.keepIn K (.ref f34)=true)
 (a35:W.findIn K (.ref Z0) "levels"=some (some (.ref f35))) (l35:K.lookup f35=some ⟨oc35,od35,.func (W.fnOf "levels" "Tower.levels" (defArgs Z0f) (defBody Z0f) (defScope Z0f) .none kV35 dc35 pm35 an35 cd35 ct35),sl35⟩) (c35:W.codeIn K cd35 "Tower.levels"=true) (n35:W.isFn K (.ref f35)=true) (k35:W.keepIn K (.ref f35)=true)
 (a36:W.findIn K (.ref Z0) "shelf_of"=some (some (.ref f36))) (l36:K.lookup f36=some ⟨oc36,od36,.func (W.fnOf "shelf_of" "Tower.shelf_of" (defArgs Z05) (defBody Z05) (defScope Z05) .none kV36 dc36 pm36 an36 cd36 ct36),sl36⟩) (c36:W.codeIn K cd36 "Tower.shelf_of"=true) (n36:W.isFn K (.ref f36)=true) (k36:W.keepIn K (.ref f36)=true)
 (a37:W.findIn K (.ref Z0) "stored"=some (some (.ref f37))) (l37:K.lookup f37=some ⟨oc37,od37,.func (W.fnOf "stored" "Tower.stored" (defArgs Z0g) (defBody Z0g) (defScope Z0g) .none kV37 dc37 pm37 an37 cd37 ct37),sl37⟩) (c37:W.codeIn K cd37 "Tower.stored"=true) (n37:W.isFn K (.ref f37)=true) (k37:W.keepIn K (.ref f37)=true)
 (a38:W.findIn K (.ref Z0) "fetch"=some (some (.ref f38))) (l38:K.lookup f38=some ⟨oc38,od38,.func (W.fnOf "fetch" "Tower.fetch" (defArgs Z0u) (defBody Z0u) (defScope Z0u) .none kV38 dc38 pm38 an38 cd38 ct38),sl38⟩) (c38:W.codeIn K cd38 "Tower.fetch"=true) (n38:W.isFn K (.ref f38)=true) (k38:W.keepIn K (.ref f38)=true)
 (a39:W.findIn K (.ref Z0) "read"=some (some (.ref f39))) (l39:K.lookup f39=some ⟨oc39,od39,.func (W.fnOf "read" "Tower.read" (defArgs Z1k) (defBody Z1k) (defScope Z1k) .none kV39 dc39 pm39 an39 cd39 ct39),sl39⟩) (c39:W.codeIn K cd39 "Tower.read"=true) (n39:W.isFn K (.ref f39)=true) (k39:W.keepIn K (.ref f39)=true)
 (a40:W.findIn K (.ref Z0) "keep"=some (some (.ref f40))) (l40:K.lookup f40=some ⟨oc40,od40,.func (W.fnOf "keep" "Tower.keep" (defArgs Z1l) (defBody Z1l) (defScope Z1l) .none kV40 dc40 pm40 an40 cd40 ct40),sl40⟩) (c40:W.codeIn K cd40 "Tower.keep"=true) (n40:W.isFn K (.ref f40)=true) (k40:W.keepIn K (.ref f40)=true)
 (a41:W.findIn K (.ref Z0) "ahead"=some (some (.ref f41))) (l41:K.lookup f41=some ⟨oc41,od41,.func (W.fnOf "ahead" "Tower.ahead" (defArgs Z0v) (defBody Z0v) (defScope Z0v) .none kV41 dc41 pm41 an41 cd41 ct41),sl41⟩) (c41:W.codeIn K cd41 "Tower.ahead"=true) (n41:W.isFn K (.ref f41)=true) (k41:W.keepIn K (.ref f41)=true)
 (a42:W.findIn K (.ref Z0) "rest"=some (some (.ref f42))) (l42:K.lookup f42=some ⟨oc42,od42,.func (W.fnOf "rest" "Tower.rest" (defArgs Z1m) (defBody Z1m) (defScope Z1m) .none kV42 dc42 pm42 an42 cd42 ct42),sl42⟩) (c42:W.codeIn K cd42 "Tower.rest"=true) (n42:W.isFn K (.ref f42)=true) (k42:W.keepIn K (.ref f42)=true)
 (a43:W.findIn K (.ref Z0) "diary"=some (some (.ref f43))) (l43:K.lookup f43=some ⟨oc43,od43,.func (W.fnOf "diary" "Tower.diary" (defArgs Z0w) (defBody Z0w) (defScope Z0w) .none kV43 dc43 pm43 an43 cd43 ct43),sl43⟩) (c43:W.codeIn K cd43 "Tower.diary"=true) (n43:W.isFn K (.ref f43)=true) (k43:W.keepIn K (.ref f43)=true)
 (a44:W.findIn K (.ref Z0) "found"=some (some (.ref f44))) (l44:K.lookup f44=some ⟨oc44,od44,.func (W.fnOf "found" "Tower.found" (defArgs Z0x) (defBody Z0x) (defScope Z0x) .none kV44 dc44 pm44 an44 cd44 ct44),sl44⟩) (c44:W.codeIn K cd44 "Tower.found"=true) (n44:W.isFn K (.ref f44)=true) (k44:W.keepIn K (.ref f44)=true)
 (a45:W.findIn K (.ref Z0) "spent"=some (some (.ref f45))) (l45:K.lookup f45=some ⟨oc45,od45,.func (W.fnOf "spent" "Tower.spent" (defArgs Z0y) (defBody Z0y) (defScope Z0y) .none kV45 dc45 pm45 an45 cd45 ct45),sl45⟩) (c45:W.codeIn K cd45 "Tower.spent"=true) (n45:W.isFn K (.ref f45)=true) (k45:W.keepIn K (.ref f45)=true)
 (a46:W.findIn K (.ref Z0) "__init__"=some (some (.ref f46))) (l46:K.lookup f46=some ⟨oc46,od46,.func (W.fnOf "__init__" "Tower.__init__" (defArgs Z1n) (defBody Z1n) (defScope Z1n) .none kV46 dc46 pm46 an46 cd46 ct46),sl46⟩) (c46:W.codeIn K cd46 "Tower.__init__"=true) (n46:W.isFn K (.ref f46)=true) (k46:W.keepIn K (.ref Z0)=true) (m46:W.makesIn K Z0=true) (kf46:W.keepIn K (.ref f46)=true)
 (a47:W.nsIn K mainGlobals "_law_cell_at"=some (some (.ref f47))) (l47:K.lookup f47=some ⟨oc47,od47,.func (W.fnOf "_law_cell_at" "_law_cell_at" (defArgs Z2a) (defBody Z2a) (defScope Z2a) .none kV47 dc47 pm47 an47 cd47 ct47),sl47⟩) (c47:W.codeIn K cd47 "_law_cell_at"=true) (k47:W.keepIn K (.ref f47)=true)
 (a48:W.nsIn K mainGlobals "_law_mix"=some (some (.ref f48))) (l48:K.lookup f48=some ⟨oc48,od48,.func (W.fnOf "_law_mix" "_law_mix" (defArgs Z3m) (defBody Z3m) (defScope Z3m) .none kV48 dc48 pm48 an48 cd48 ct48),sl48⟩) (c48:W.codeIn K cd48 "_law_mix"=true) (k48:W.keepIn K (.ref f48)=true)
 (a49:W.nsIn K mainGlobals "_law_names"=some (some (.ref f49))) (l49:K.lookup f49=some ⟨oc49,od49,.func (W.fnOf "_law_names" "_law_names" (defArgs Z2t) (defBody Z2t) (defScope Z2t) .none kV49 dc49 pm49 an49 cd49 ct49),sl49⟩) (c49:W.codeIn K cd49 "_law_names"=true) (k49:W.keepIn K (.ref f49)=true)
 (a50:W.nsIn K mainGlobals "_law_value"=some (some (.ref f50))) (l50:K.lookup f50=some ⟨oc50,od50,.func (W.fnOf "_law_value" "_law_value" (defArgs Z2u) (defBody Z2u) (defScope Z2u) .none kV50 dc50 pm50 an50 cd50 ct50),sl50⟩) (c50:W.codeIn K cd50 "_law_value"=true) (k50:W.keepIn K (.ref f50)=true)
 (a51:W.nsIn K mainGlobals "_law_tower"=some (some (.ref f51))) (l51:K.lookup f51=some ⟨oc51,od51,.func (W.fnOf "_law_tower" "_law_tower" (defArgs Z2v) (defBody Z2v) (defScope Z2v) .none kV51 dc51 pm51 an51 cd51 ct51),sl51⟩) (c51:W.codeIn K cd51 "_law_tower"=true) (k51:W.keepIn K (.ref f51)=true)
 (a52:W.nsIn K mainGlobals "_law_drawn_sizes"=some (some (.ref f52))) (l52:K.lookup f52=some ⟨oc52,od52,.func (W.fnOf "_law_drawn_sizes" "_law_drawn_sizes" (defArgs Z0h) (defBody Z0h) (defScope Z0h) .none kV52 dc52 pm52 an52 cd52 ct52),sl52⟩) (c52:W.codeIn K cd52 "_law_drawn_sizes"=true) (k52:W.keepIn K (.ref f52)=true)
 (a53:W.nsIn K mainGlobals "_law_made"=some (some (.ref f53))) (l53:K.lookup f53=some ⟨oc53,od53,.func (W.fnOf "_law_made" "_law_made" (defArgs Z33) (defBody Z33) (defScope Z33) .none kV53 dc53 pm53 an53 cd53 ct53),sl53⟩) (c53:W.codeIn K cd53 "_law_made"=true) (k53:W.keepIn K (.ref f53)=true)
 (a54:W.nsIn K mainGlobals "_law_no_value"=some (some (.ref f54))) (l54:K.lookup f54=some ⟨oc54,od54,.func (W.fnOf "_law_no_value" "_law_no_value" (defArgs Z25) (defBody Z25) (defScope Z25) .none kV54 dc54 pm54 an54 cd54 ct54),sl54⟩) (c54:W.codeIn K cd54 "_law_no_value"=true) (k54:W.keepIn K (.ref f54)=true)
 (a55:W.nsIn K mainGlobals "_law_expected"=some (some (.ref f55))) (l55:K.lookup f55=some ⟨oc55,od55,.func (W.fnOf "_law_expected" "_law_expected" (defArgs Z26) (defBody Z26) (defScope Z26) .none kV55 dc55 pm55 an55 cd55 ct55),sl55⟩) (c55:W.codeIn K cd55 "_law_expected"=true) (k55:W.keepIn K (.ref f55)=true)
 (a56:W.nsIn K mainGlobals "_law_tried"=some (some (.ref f56))) (l56:K.lookup f56=some ⟨oc56,od56,.func (W.fnOf "_law_tried" "_law_tried" (defArgs Z2w) (defBody Z2w) (defScope Z2w) .none kV56 dc56 pm56 an56 cd56 ct56),sl56⟩) (c56:W.codeIn K cd56 "_law_tried"=true) (k56:W.keepIn K (.ref f56)=true)
 (a57:W.nsIn K mainGlobals "_law_state"=some (some (.ref f57))) (l57:K.lookup f57=some ⟨oc57,od57,.func (W.fnOf "_law_state" "_law_state" (defArgs Z2x) (defBody Z2x) (defScope Z2x) .none kV57 dc57 pm57 an57 cd57 ct57),sl57⟩) (c57:W.codeIn K cd57 "_law_state"=true) (k57:W.keepIn K (.ref f57)=true)
 (a58:W.nsIn K mainGlobals "_law_nothing"=some (some (.ref f58))) (l58:K.lookup f58=some ⟨oc58,od58,.func (W.fnOf "_law_nothing" "_law_nothing" (defArgs Z2b) (defBody Z2b) (defScope Z2b) .none kV58 dc58 pm58 an58 cd58 ct58),sl58⟩) (c58:W.codeIn K cd58 "_law_nothing"=true) (k58:W.keepIn K (.ref f58)=true)
 (a59:W.nsIn K mainGlobals "_law_at_last"=some (some (.ref f59))) (l59:K.lookup f59=some ⟨oc59,od59,.func (W.fnOf "_law_at_last" "_law_at_last" (defArgs Z2c) (defBody Z2c) (defScope Z2c) .none kV59 dc59 pm59 an59 cd59 ct59),sl59⟩) (c59:W.codeIn K cd59 "_law_at_last"=true) (k59:W.keepIn K (.ref f59)=true)
 (a60:W.nsIn K mainGlobals "law"=some (some (.ref f60))) (l60:K.lookup f60=some ⟨oc60,od60,.func (W.fnOf "law" "law" (defArgs Z3h) (defBody Z3h) (defScope Z3h) .none kV60 dc60 pm60 an60 cd60 ct60),sl60⟩) (c60:W.codeIn K cd60 "law"=true) (k60:W.keepIn K (.ref f60)=true)
 (Zw:W.nsIn K mainGlobals "len"=some none)
 (Z14:W.nsIn K mainGlobals "isinstance"=some none)
 (Z42:W.nsIn K mainGlobals "int"=some none)
 (Z4e:W.nsIn K mainGlobals "bool"=some none)
 (Z5p:W.nsIn K mainGlobals "str"=some none)
 (Z1y:W.nsIn K mainGlobals "list"=some none)
 (Z5q:W.nsIn K mainGlobals "all"=some none)
 (Z2p:W.nsIn K mainGlobals "range"=some none)
 (Z4y:W.nsIn K mainGlobals "sum"=some none)
 (Z1x:W.nsIn K mainGlobals "enumerate"=some none)
 (Z6v:W.nsIn K mainGlobals "abs"=some none)
 (Z4z:W.nsIn K mainGlobals "tuple"=some none)
 {Z7t:Tok} (Z2q:W.nsIn K mainGlobals "LETTERS"=some (some (.str "abcdefghijklmnopqrstuvwxyz" Z7t)))
 {Z7u:Tok} (Z3b:W.nsIn K mainGlobals "FIGURES"=some (some (.str "0123456789" Z7u)))
 {Z6u:Tok} (Z2e:W.nsIn K mainGlobals "MOST_SIGNS"=some (some (.int 8 Z6u)))
 {Z6j:Tok} (Z28:W.nsIn K mainGlobals "MOST_THINGS"=some (some (.int 60 Z6j)))
 {Z71:Tok} (Z2m:W.nsIn K mainGlobals "MOST_ROOM"=some (some (.int 1000 Z71)))
 {Z6k:Tok} (Z18:W.nsIn K mainGlobals "MOST_PLACES"=some (some (.int 1000000 Z6k)))
 {Z62:Tok} (Z0n:W.nsIn K mainGlobals "MOST_SHELVES"=some (some (.int 6 Z62)))
 (Z50:W.nsIn K mainGlobals "Stock"=some (some (.ref Z2))) (Z5e:W.plainGet K Z2 Str.empty=true) (Z5f:W.hasDictIn K Z2=true) (Z5g:W.plainOver K Z2=true) (Z5h:W.findIn K (.ref Z2) "__setattr__"=some (some (.builtin "object.__setattr__")))
 (Zd:W.findIn K (.ref Z2) "things"=some none)
 (Z51:W.nsIn K mainGlobals "Tower"=some (some (.ref Z1))) (Z5i:W.plainGet K Z1 Str.empty=true) (Z5j:W.hasDictIn K Z1=true) (Z5k:W.plainOver K Z1=true) (Z5l:W.findIn K (.ref Z1) "__setattr__"=some (some (.builtin "object.__setattr__")))
 (Zq:W.findIn K (.ref Z1) "stock"=some none)
 (Zr:W.findIn K (.ref Z1) "sizes"=some none)
 (Zs:W.findIn K (.ref Z1) "row"=some none)
 (Zo:W.findIn K (.ref Z1) "held"=some none)
 (Zx:W.findIn K (.ref Z1) "late"=some none)
 (Z0i:W.findIn K (.ref Z1) "store"=some none)
 (Zv:W.findIn K (.ref Z1) "entries"=some none)
 (Z06:W.findIn K (.ref Z1) "finds"=some none)
 (Z13:W.findIn K (.ref Z1) "paid"=some none)
 (Z44:W.nsIn K mainGlobals "Prompt"=some (some (.ref Z0))) (Z4m:W.plainGet K Z0 Str.empty=true) (Z4n:W.hasDictIn K Z0=true) (Z4o:W.plainOver K Z0=true) (Z4p:W.findIn K (.ref Z0) "__setattr__"=some (some (.builtin "object.__setattr__")))
 (Zk:W.findIn K (.ref Z0) "stock"=some none)
 (Zl:W.findIn K (.ref Z0) "sizes"=some none)
 (Zi:W.findIn K (.ref Z0) "row"=some none)
 (Zj:W.findIn K (.ref Z0) "held"=some none)
 (Zz:W.findIn K (.ref Z0) "late"=some none)
 (Z07:W.findIn K (.ref Z0) "store"=some none)
 (Zp:W.findIn K (.ref Z0) "entries"=some none)
 (Z01:W.findIn K (.ref Z0) "finds"=some none)
 (Z0j:W.findIn K (.ref Z0) "paid"=some none)
 (Z3v:W.nsIn K mainGlobals "CastError"=some (some (.ref Z5)))
 (Z3s:W.nsIn K mainGlobals "Unknown"=some (some (.ref Z3)))
 (Z45:W.nsIn K mainGlobals "NoNumber"=some (some (.ref Z4)))
 (Z5m:W.nsIn K mainGlobals "Unlike"=some (some (.ref Z7)))
 {cA oA:Value} {dA eA:Option Addr} {cdA:ClassData} {slA smA:Array (Option Value)} {esA:Array DictEntry} {epA:Nat} (lA:K.lookup Z5=some ⟨cA,dA,.cls cdA,slA⟩) (lNA:K.lookup cdA.ns=some ⟨oA,eA,.dict esA epA,smA⟩) (sNA:strKeysB esA=true) (iNA:nsFind esA "__init__"=none)
 {Z74 Z7v:Str} {Z63:Addr} {Z75:List Value} {Z76:Bool} {Z77:List Str} {Z78:List Value} {Z79:Bool} {Z7a:Option Bool} {Z7b:Option Addr} {Z7c Z7d Z7e Z7f Z7g:Option Value} {Z7h:Value} {Z7i:Option Addr} {Z3w:Array DictEntry} {Z7j:Nat} {Z7k:Array (Option Value)}
 (Z3x:K.lookup Z4=some (excClassObj Z74 Z7v Z4 Z63 Z75 [.ref Z5,.type "ValueError",.type "Exception",.type "BaseException",.type "object"] Z76 Z77 Z78 Z79 Z7a Z7b Z7c Z7d Z7e Z7f Z7g "ValueError.__new__")) (Z3y:K.lookup Z63=some ⟨Z7h,Z7i,.dict Z3w Z7j,Z7k⟩) (Z3z:strKeysB Z3w=true) (Z40:nsFind Z3w "__init__"=none)
 (Z41:W.keepIn K (.ref Z4)=true)
 {Z8f Z8z:Str} {Z72:Addr} {Z8g:List Value} {Z8h:Bool} {Z8i:List Str} {Z8j:List Value} {Z8k:Bool} {Z8l:Option Bool} {Z8m:Option Addr} {Z8n Z8o Z8p Z8q Z8r:Option Value} {Z8s:Value} {Z8t:Option Addr} {Z4q:Array DictEntry} {Z8u:Nat} {Z8v:Array (Option Value)}
 (Z4r:K.lookup Z7=some (excClassObj Z8f Z8z Z7 Z72 Z8g [.ref Z5,.type "ValueError",.type "Exception",.type "BaseException",.type "object"] Z8h Z8i Z8j Z8k Z8l Z8m Z8n Z8o Z8p Z8q Z8r "ValueError.__new__")) (Z4s:K.lookup Z72=some ⟨Z8s,Z8t,.dict Z4q Z8u,Z8v⟩) (Z4t:strKeysB Z4q=true) (Z4u:nsFind Z4q "__init__"=none)
 (Z4v:W.keepIn K (.ref Z7)=true)
 {Z7w Z2o:Str} {Z6l:Addr} {Z7x:List Value} {Z7y:List Str} {Z7z:List Value} {Z80:Bool} {Z81:Option Bool} {Z82:Option Addr} {Z83 Z84 Z85 Z86 Z87:Option Value} {Z88:Value} {Z89:Option Addr} {Z46:Array DictEntry} {Z8a:Nat} {Z8b:Array (Option Value)}
 (Z3i:K.lookup Z3=some (excClassObj Z7w Z2o Z3 Z6l Z7x [.ref Z5,.type "ValueError",.type "Exception",.type "BaseException",.type "object"] true Z7y Z7z Z80 Z81 Z82 Z83 Z84 Z85 Z86 Z87 "ValueError.__new__")) (Z47:K.lookup Z6l=some ⟨Z88,Z89,.dict Z46 Z8a,Z8b⟩) (Z48:strKeysB Z46=true) (Z49:nsFind Z46 "__init__"=some (.ref f7))
 (Z4a:W.findIn K (.ref Z3) "__getattribute__"=some (some (.builtin "BaseException.__getattribute__"))) (Z4b:W.findIn K (.ref Z3) "__getattr__"=some none) (Z4c:W.findIn K (.ref Z3) "__setattr__"=some (some (.builtin "object.__setattr__")))
 (Z0m:W.findIn K (.ref Z3) "name"=some none)
 (Z0b:W.findIn K (.ref Z3) "place"=some none)
 {Z7l:ClassData} (Z3j:W.subIn K (.ref Z4) (.type "BaseException")=some true) (Z39:W.clsIn K Z4=some Z7l) (Z3a:W.typeIn K (.ref Z4)=some (.type "type"))
 {Z8c:ClassData} (Z3t:W.subIn K (.ref Z3) (.type "BaseException")=some true) (Z3k:W.clsIn K Z3=some Z8c) (Z3l:W.typeIn K (.ref Z3)=some (.type "type"))
 {Z8w:ClassData} (Z5n:W.subIn K (.ref Z7) (.type "BaseException")=some true) (Z4w:W.clsIn K Z7=some Z8w) (Z4x:W.typeIn K (.ref Z7)=some (.type "type"))
 (Z2k:W.subIn K (.ref Z3) (.ref Z3)=some true)
 (Z2g:W.subIn K (.ref Z4) (.ref Z3)=some false)
 (Z2d:W.subIn K (.ref Z4) (.ref Z4)=some true)
 (Z2l:W.subIn K (.ref Z7) (.ref Z4)=some false)
 (Z31:W.subIn K (.ref Z7) (.ref Z7)=some true)
 :∃fd:FuncData,(∀(s:Shared) (v:Value),BindsTo s fd ⟨[v],[]⟩ [("_law_script",v)])∧∀base:Heap,K.In base→base.Ns mainGlobals mg→FnOk l.prog w K mg base (CXF l.prog w) 12 fa fd ["_law_script"] (sp_law K):=by
 have e:=hfa.symm.trans (W.mg_of X G a60)
 cases e
 have T:Txt K mg Z5 Z3 Z4 Z7 Z2 Z1 Z0:=⟨W.mg_of X G Z50,⟨Z5e,Z5f,Z5g,Z5h⟩,Zd,W.mg_of X G Z51,⟨Z5i,Z5j,Z5k,Z5l⟩,Zq,Zr,Zs,Zo,Zx,Z0i,Zv,Z06,Z13,W.mg_of X G Z44,⟨Z4m,Z4n,Z4o,Z4p⟩,Zk,Zl,Zi,Zj,Zz,Z07,Zp,Z01,Z0j,W.mg_of X G Z3v,W.mg_of X G Z3s,W.mg_of X G Z45,excC_of Z3x Z3y Z3z Z40 lA lNA sNA iNA,Z41,W.mg_of X G Z5m,excC_of Z4r Z4s Z4t Z4u lA lNA sNA iNA,Z4v,excQ_of Z3i Z4a Z4b Z4c,Z0m,Z0b,exm_ref Z3t Z3k Z3l Z2k,exm_ref Z3t Z3k Z3l Z2g,exm_ref Z3j Z39 Z3a Z2d,exm_ref Z3j Z39 Z3a Z2l,exm_ref Z5n Z4w Z4x Z31,W.mg_none_of X G Zw,W.mg_none_of X G Z14,W.mg_none_of X G Z42,W.mg_none_of X G Z4e,W.mg_none_of X G Z5p,W.mg_none_of X G Z1y,W.mg_none_of X G Z5q,W.mg_none_of X G Z2p,W.mg_none_of X G Z4y,W.mg_none_of X G Z1x,W.mg_none_of X G Z6v,W.mg_none_of X G Z4z,⟨_,W.mg_of X G Z2q⟩,⟨_,W.mg_of X G Z3b⟩,⟨_,W.mg_of X G Z2e⟩,⟨_,W.mg_of X G Z28⟩,⟨_,W.mg_of X G Z2m⟩,⟨_,W.mg_of X G Z18⟩,⟨_,W.mg_of X G Z0n⟩⟩
 have F0:=fun_mk (st:=Z2r) l0 c0 k0
 have F1:=fun_mk (st:=Z2s) l1 c1 k1
 have F2:=fun_mk (st:=Z2i) l2 c2 k2
 have F3:=fun_mk (st:=Z29) l3 c3 k3
 have F4:=fun_mk (st:=Z19) l4 c4 k4
 have F5:=fun_mk (st:=Z1z) l5 c5 kf5
 have F6:=fun_mk (st:=Z1a) l6 c6 k6
 have F7:=fun_mk (st:=Z0o) l7 c7 kf7
 have F8:=fun_mk (st:=Z0p) l8 c8 k8
 have F9:=fun_mk (st:=Z08) l9 c9 k9
 have F10:=fun_mk (st:=Z03) l10 c10 k10
 have F11:=fun_mk (st:=Z0c) l11 c11 k11
 have F12:=fun_mk (st:=Z0d) l12 c12 k12
 have F13:=fun_mk (st:=Z1b) l13 c13 k13
 have F14:=fun_mk (st:=Z1c) l14 c14 k14
 have F15:=fun_mk (st:=Z1d) l15 c15 k15
 have F16:=fun_mk (st:=Z0q) l16 c16 k16
 have F17:=fun_mk (st:=Z09) l17 c17 k17
 have F18:=fun_mk (st:=Z20) l18 c18 k18
 have F19:=fun_mk (st:=Z0r) l19 c19 k19
 have F20:=fun_mk (st:=Z0a) l20 c20 k20
 have F21:=fun_mk (st:=Z0s) l21 c21 k21
 have F22:=fun_mk (st:=Z1e) l22 c22 k22
 have F23:=fun_mk (st:=Z21) l23 c23 k23
 have F24:=fun_mk (st:=Z22) l24 c24 k24
 have F25:=fun_mk (st:=Z1f) l25 c25 k25
 have F26:=fun_mk (st:=Z23) l26 c26 k26
 have F27:=fun_mk (st:=Z1g) l27 c27 k27
 have F28:=fun_mk (st:=Z1h) l28 c28 k28
 have F29:=fun_mk (st:=Z1i) l29 c29 k29
 have F30:=fun_mk (st:=Z24) l30 c30 kf30
 have F31:=fun_mk (st:=Z0t) l31 c31 k31
 have F32:=fun_mk (st:=Z0e) l32 c32 k32
 have F33:=fun_mk (st:=Z04) l33 c33 k33
 have F34:=fun_mk (st:=Z1j) l34 c34 k34
 have F35:=fun_mk (st:=Z0f) l35 c35 k35
 have F36:=fun_mk (st:=Z05) l36 c36 k36
 have F37:=fun_mk (st:=Z0g) l37 c37 k37
 have F38:=fun_mk (st:=Z0u) l38 c38 k38
 have F39:=fun_mk (st:=Z1k) l39 c39 k39
 have F40:=fun_mk (st:=Z1l) l40 c40 k40
 have F41:=fun_mk (st:=Z0v) l41 c41 k41
 have F42:=fun_mk (st:=Z1m) l42 c42 k42
 have F43:=fun_mk (st:=Z0w) l43 c43 k43
 have F44:=fun_mk (st:=Z0x) l44 c44 k44
 have F45:=fun_mk (st:=Z0y) l45 c45 k45
 have F46:=fun_mk (st:=Z1n) l46 c46 kf46
 have F47:=fun_mk (st:=Z2a) l47 c47 k47
 have F48:=fun_mk (st:=Z3m) l48 c48 k48
 have F49:=fun_mk (st:=Z2t) l49 c49 k49
 have F50:=fun_mk (st:=Z2u) l50 c50 k50
 have F51:=fun_mk (st:=Z2v) l51 c51 k51
 have F52:=fun_mk (st:=Z0h) l52 c52 k52
 have F53:=fun_mk (st:=Z33) l53 c53 k53
 have F54:=fun_mk (st:=Z25) l54 c54 k54
 have F55:=fun_mk (st:=Z26) l55 c55 k55
 have F56:=fun_mk (st:=Z2w) l56 c56 k56
 have F57:=fun_mk (st:=Z2x) l57 c57 k57
 have F58:=fun_mk (st:=Z2b) l58 c58 k58
 have F59:=fun_mk (st:=Z2c) l59 c59 k59
 have F60:=fun_mk (st:=Z3h) l60 c60 k60
 refine ⟨W.fnOf "law" "law" (defArgs Z3h) (defBody Z3h) (defScope Z3h) .none kV60 dc60 pm60 an60 cd60 ct60,fun s v=> .of_eq rfl,fun base _ _=>?_⟩
 have Z4f:Def l.prog w K mg base (CXF l.prog w) 1 "made_of" ["text","signs"] (sp_made):=⟨⟨f0,_,Z7m F0 T,W.mg_of X G a0,k0,F0.binds (ps:=["text","signs"]) fun _ _ _ _ _ _ us hl=>match us,hl with | [_,_],_=>rfl⟩⟩
 have Z4g:Def l.prog w K mg base (CXF l.prog w) 2 "is_name" ["thing"] (sp_is_name K):=⟨⟨f1,_,Z7n F1 T Z4f,W.mg_of X G a1,k1,F1.binds (ps:=["thing"]) fun _ _ _ _ _ _ us hl=>match us,hl with | [_],_=>rfl⟩⟩
 have Z43:Def l.prog w K mg base (CXF l.prog w) 1 "is_whole" ["thing"] (sp_is_whole K):=⟨⟨f2,_,Z73 F2 T,W.mg_of X G a2,k2,F2.binds (ps:=["thing"]) fun _ _ _ _ _ _ us hl=>match us,hl with | [_],_=>rfl⟩⟩
 have Zm:Def l.prog w K mg base (CXF l.prog w) 2 "is_within" ["thing","least","most"] (N53.sp53_within K):=⟨⟨f3,_,Z6x F3 T Z43,W.mg_of X G a3,k3,F3.binds (ps:=["thing","least","most"]) fun _ _ _ _ _ _ us hl=>match us,hl with | [_,_,_],_=>rfl⟩⟩
 have Z3c:Def l.prog w K mg base (CXF l.prog w) 3 "check_thing" ["name","cost","room","earlier"] (sp_checkG K):=⟨⟨f4,_,Z64 F4 T Z4g Zm,W.mg_of X G a4,k4,F4.binds (ps:=["name","cost","room","earlier"]) fun _ _ _ _ _ _ us hl=>match us,hl with | [_,_,_,_],_=>rfl⟩⟩
 have Z16:DefI l.prog w K mg base (CXF l.prog w) 4 "Stock" Z2 ["self","rows"] (sp78_stock K Z2):=⟨⟨f5,_,Z6m F5 T Z3c,⟨m5,a5,n5,k5⟩,W.mg_of X G Z50,F5.binds (ps:=["self","rows"]) fun _ _ _ _ _ _ us hl=>match us,hl with | [_,_],_=>rfl⟩⟩
 have Z1s:DefM l.prog w K mg base (CXF l.prog w) 1 Z2 "names" ["self"] (sp_nms K Z2):=⟨⟨f6,_,Z65 F6 T,⟨a6,n6,k6⟩,F6.binds (ps:=["self"]) fun _ _ _ _ _ _ us hl=>match us,hl with | [_],_=>rfl⟩⟩
 have Z34:DefX l.prog w K mg base (CXF l.prog w) 1 "Unknown" Z3 ["self","name","place"] (sp_unk Z3):=⟨⟨f7,_,Z5r F7 T,mkX_of Z3i Z47 Z48 Z49 lA lNA sNA iNA l7 hc7 k7,W.mg_of X G Z3s,F7.binds (ps:=["self","name","place"]) fun _ _ _ _ _ _ us hl=>match us,hl with | [_,_,_],_=>rfl⟩⟩
 have Z35:Def l.prog w K mg base (CXF l.prog w) 3 "check_places" ["places"] (sp13_check K Z4):=⟨⟨f8,_,Z5s F8 T Zm,W.mg_of X G a8,k8,F8.binds (ps:=["places"]) fun _ _ _ _ _ _ us hl=>match us,hl with | [_],_=>rfl⟩⟩
 have Zg:DefM l.prog w K mg base (CXF l.prog w) 3 Z2 "thing_of" ["self","name"] (sp_thing K Z2 Z3):=⟨⟨f9,_,Z54 F9 T Z34,⟨a9,n9,k9⟩,F9.binds (ps:=["self","name"]) fun _ _ _ _ _ _ us hl=>match us,hl with | [_,_],_=>rfl⟩⟩
 have Za:DefM l.prog w K mg base (CXF l.prog w) 4 Z2 "number_of" ["self","name"] (sp_tell 0 K Z2 Z3):=⟨⟨f10,_,Z4h F10 T Zg,⟨a10,n10,k10⟩,F10.binds (ps:=["self","name"]) fun _ _ _ _ _ _ us hl=>match us,hl with | [_,_],_=>rfl⟩⟩
 have Ze:DefM l.prog w K mg base (CXF l.prog w) 4 Z2 "cost_of" ["self","name"] (sp_tell 1 K Z2 Z3):=⟨⟨f11,_,Z57 F11 T Zg,⟨a11,n11,k11⟩,F11.binds (ps:=["self","name"]) fun _ _ _ _ _ _ us hl=>match us,hl with | [_,_],_=>rfl⟩⟩
 have Z2y:DefM l.prog w K mg base (CXF l.prog w) 4 Z2 "room_of" ["self","name"] (sp_tell 2 K Z2 Z3):=⟨⟨f12,_,Z58 F12 T Zg,⟨a12,n12,k12⟩,F12.binds (ps:=["self","name"]) fun _ _ _ _ _ _ us hl=>match us,hl with | [_,_],_=>rfl⟩⟩
 have Z1q:Def l.prog w K mg base (CXF l.prog w) 4 "check_sizes" ["sizes"] (sp78_sizes K Z4):=⟨⟨f13,_,Z66 F13 T Z35,W.mg_of X G a13,k13,F13.binds (ps:=["sizes"]) fun _ _ _ _ _ _ us hl=>match us,hl with | [_],_=>rfl⟩⟩
 have Z1r:Def l.prog w K mg base (CXF l.prog w) 5 "check_rooms" ["stock","asks"] (sp78_rooms K Z2 Z7):=⟨⟨f14,_,Z67 F14 T Z2y,W.mg_of X G a14,k14,F14.binds (ps:=["stock","asks"]) fun _ _ _ _ _ _ us hl=>match us,hl with | [_,_],_=>rfl⟩⟩
 have Z1o:DefM l.prog w K mg base (CXF l.prog w) 2 Z1 "write" ["self","name"] (sp74_write Z1):=⟨⟨f15,_,Z68 F15 T,⟨a15,n15,k15⟩,F15.binds (ps:=["self","name"]) fun _ _ _ _ _ _ us hl=>match us,hl with | [_,_],_=>rfl⟩⟩
 have Z36:DefM l.prog w K mg base (CXF l.prog w) 1 Z1 "settle" ["self","name"] (sp74_settle Z1 false):=⟨⟨f16,_,Z5t F16 T,⟨a16,n16,k16⟩,F16.binds (ps:=["self","name"]) fun _ _ _ _ _ _ us hl=>match us,hl with | [_,_],_=>rfl⟩⟩
 have Z2n:DefM l.prog w K mg base (CXF l.prog w) 3 Z1 "fall_off" ["self","name"] (sp74_fall Z1):=⟨⟨f17,_,Z55 F17 T Z1o,⟨a17,n17,k17⟩,F17.binds (ps:=["self","name"]) fun _ _ _ _ _ _ us hl=>match us,hl with | [_,_],_=>rfl⟩⟩
 have Z02:DefM l.prog w K mg base (CXF l.prog w) 4 Z1 "come" ["self","name"] (sp74_come Z1):=⟨⟨f18,_,Z6n F18 T Z2n,⟨a18,n18,k18⟩,F18.binds (ps:=["self","name"]) fun _ _ _ _ _ _ us hl=>match us,hl with | [_,_],_=>rfl⟩⟩
 have Zt:DefM l.prog w K mg base (CXF l.prog w) 1 Z1 "levels" ["self"] (sp71_levels Z1):=⟨⟨f19,_,Z5u F19 T,⟨a19,n19,k19⟩,F19.binds (ps:=["self"]) fun _ _ _ _ _ _ us hl=>match us,hl with | [_],_=>rfl⟩⟩
 have Zh:DefM l.prog w K mg base (CXF l.prog w) 5 Z1 "shelf_of" ["self","name"] (sp78_shelf K Z1 Z2 Z3):=⟨⟨f20,_,Z56 F20 T Za Zt,⟨a20,n20,k20⟩,F20.binds (ps:=["self","name"]) fun _ _ _ _ _ _ us hl=>match us,hl with | [_,_],_=>rfl⟩⟩
 have Zb:DefM l.prog w K mg base (CXF l.prog w) 5 Z1 "stored" ["self","name"] (sp78_stored K Z1 Z2 Z3):=⟨⟨f21,_,Z5v F21 T Za,⟨a21,n21,k21⟩,F21.binds (ps:=["self","name"]) fun _ _ _ _ _ _ us hl=>match us,hl with | [_,_],_=>rfl⟩⟩
 have Z1p:DefM l.prog w K mg base (CXF l.prog w) 6 Z1 "fetch" ["self","word","name"] (sp74_fetch K Z1 Z2):=⟨⟨f22,_,Z69 F22 T Ze Zb,⟨a22,n22,k22⟩,F22.binds (ps:=["self","word","name"]) fun _ _ _ _ _ _ us hl=>match us,hl with | [_,_,_],_=>rfl⟩⟩
 have Z15:DefM l.prog w K mg base (CXF l.prog w) 7 Z1 "read" ["self","name"] (sp78_read K Z1 Z2 Z3):=⟨⟨f23,_,Z6o F23 T Zh Z1p Z02,⟨a23,n23,k23⟩,F23.binds (ps:=["self","name"]) fun _ _ _ _ _ _ us hl=>match us,hl with | [_,_],_=>rfl⟩⟩
 have Z3p:DefM l.prog w K mg base (CXF l.prog w) 7 Z1 "keep" ["self","name","value"] (sp78_keep K Z1 Z2 Z3 Z4 false):=⟨⟨f24,_,Z6p F24 T Zh Zm Z36 Z02,⟨a24,n24,k24⟩,F24.binds (ps:=["self","name","value"]) fun _ _ _ _ _ _ us hl=>match us,hl with | [_,_,_],_=>rfl⟩⟩
 have Z3f:DefM l.prog w K mg base (CXF l.prog w) 7 Z1 "ahead" ["self","name"] (sp78_ahead K Z1 Z2 Z3):=⟨⟨f25,_,Z6a F25 T Zh Z1p Z02,⟨a25,n25,k25⟩,F25.binds (ps:=["self","name"]) fun _ _ _ _ _ _ us hl=>match us,hl with | [_,_],_=>rfl⟩⟩
 have Z17:DefM l.prog w K mg base (CXF l.prog w) 4 Z1 "rest" ["self"] (sp79_rest K Z1 Z2):=⟨⟨f26,_,Z6q F26 T Z1o,⟨a26,n26,k26⟩,F26.binds (ps:=["self"]) fun _ _ _ _ _ _ us hl=>match us,hl with | [_],_=>rfl⟩⟩
 have Z1t:DefM l.prog w K mg base (CXF l.prog w) 1 Z1 "diary" ["self"] (sp74_diary Z1):=⟨⟨f27,_,Z6b F27 T,⟨a27,n27,k27⟩,F27.binds (ps:=["self"]) fun _ _ _ _ _ _ us hl=>match us,hl with | [_],_=>rfl⟩⟩
 have Z1u:DefM l.prog w K mg base (CXF l.prog w) 1 Z1 "found" ["self"] (sp79_found Z1):=⟨⟨f28,_,Z6c F28 T,⟨a28,n28,k28⟩,F28.binds (ps:=["self"]) fun _ _ _ _ _ _ us hl=>match us,hl with | [_],_=>rfl⟩⟩
 have Z1v:DefM l.prog w K mg base (CXF l.prog w) 1 Z1 "spent" ["self"] (sp75_spent Z1):=⟨⟨f29,_,Z6d F29 T,⟨a29,n29,k29⟩,F29.binds (ps:=["self"]) fun _ _ _ _ _ _ us hl=>match us,hl with | [_],_=>rfl⟩⟩
 have Z3o:DefI l.prog w K mg base (CXF l.prog w) 6 "Tower" Z1 ["self","stock","sizes"] (sp78_init K Z1 Z2 Z4 Z7):=⟨⟨f30,_,Z6r F30 T Z1q Z1r Z1s,⟨m30,a30,n30,k30⟩,W.mg_of X G Z51,F30.binds (ps:=["self","stock","sizes"]) fun _ _ _ _ _ _ us hl=>match us,hl with | [_,_,_],_=>rfl⟩⟩
 have Zu:DefM l.prog w K mg base (CXF l.prog w) 2 Z0 "write" ["self","name"] (sp74_write Z0):=⟨⟨f31,_,Z5w F31 T,⟨a31,n31,k31⟩,F31.binds (ps:=["self","name"]) fun _ _ _ _ _ _ us hl=>match us,hl with | [_,_],_=>rfl⟩⟩
 have Z2z:DefM l.prog w K mg base (CXF l.prog w) 3 Z0 "settle" ["self","name"] (sp74_settle Z0 true):=⟨⟨f32,_,Z59 F32 T Zu,⟨a32,n32,k32⟩,F32.binds (ps:=["self","name"]) fun _ _ _ _ _ _ us hl=>match us,hl with | [_,_],_=>rfl⟩⟩
 have Z2j:DefM l.prog w K mg base (CXF l.prog w) 3 Z0 "fall_off" ["self","name"] (sp74_fall Z0):=⟨⟨f33,_,Z4i F33 T Zu,⟨a33,n33,k33⟩,F33.binds (ps:=["self","name"]) fun _ _ _ _ _ _ us hl=>match us,hl with | [_,_],_=>rfl⟩⟩
 have Z00:DefM l.prog w K mg base (CXF l.prog w) 4 Z0 "come" ["self","name"] (sp74_come Z0):=⟨⟨f34,_,Z6e F34 T Z2j,⟨a34,n34,k34⟩,F34.binds (ps:=["self","name"]) fun _ _ _ _ _ _ us hl=>match us,hl with | [_,_],_=>rfl⟩⟩
 have Zn:DefM l.prog w K mg base (CXF l.prog w) 1 Z0 "levels" ["self"] (sp71_levels Z0):=⟨⟨f35,_,Z5a F35 T,⟨a35,n35,k35⟩,F35.binds (ps:=["self"]) fun _ _ _ _ _ _ us hl=>match us,hl with | [_],_=>rfl⟩⟩
 have Zc:DefM l.prog w K mg base (CXF l.prog w) 5 Z0 "shelf_of" ["self","name"] (sp78_shelf K Z0 Z2 Z3):=⟨⟨f36,_,Z4j F36 T Za Zn,⟨a36,n36,k36⟩,F36.binds (ps:=["self","name"]) fun _ _ _ _ _ _ us hl=>match us,hl with | [_,_],_=>rfl⟩⟩
 have Z9:DefM l.prog w K mg base (CXF l.prog w) 5 Z0 "stored" ["self","name"] (sp78_stored K Z0 Z2 Z3):=⟨⟨f37,_,Z5b F37 T Za,⟨a37,n37,k37⟩,F37.binds (ps:=["self","name"]) fun _ _ _ _ _ _ us hl=>match us,hl with | [_,_],_=>rfl⟩⟩
 have Z0z:DefM l.prog w K mg base (CXF l.prog w) 6 Z0 "fetch" ["self","word","name"] (sp74_fetch K Z0 Z2):=⟨⟨f38,_,Z5x F38 T Ze Z9,⟨a38,n38,k38⟩,F38.binds (ps:=["self","word","name"]) fun _ _ _ _ _ _ us hl=>match us,hl with | [_,_,_],_=>rfl⟩⟩
 have Z0k:DefM l.prog w K mg base (CXF l.prog w) 7 Z0 "read" ["self","name"] (sp78_read K Z0 Z2 Z3):=⟨⟨f39,_,Z6f F39 T Zc Z0z Z00,⟨a39,n39,k39⟩,F39.binds (ps:=["self","name"]) fun _ _ _ _ _ _ us hl=>match us,hl with | [_,_],_=>rfl⟩⟩
 have Z3e:DefM l.prog w K mg base (CXF l.prog w) 7 Z0 "keep" ["self","name","value"] (sp78_keep K Z0 Z2 Z3 Z4 true):=⟨⟨f40,_,Z6g F40 T Zc Zm Z2z Z00,⟨a40,n40,k40⟩,F40.binds (ps:=["self","name","value"]) fun _ _ _ _ _ _ us hl=>match us,hl with | [_,_,_],_=>rfl⟩⟩
 have Z37:DefM l.prog w K mg base (CXF l.prog w) 7 Z0 "ahead" ["self","name"] (sp78_ahead K Z0 Z2 Z3):=⟨⟨f41,_,Z5y F41 T Zc Z0z Z00,⟨a41,n41,k41⟩,F41.binds (ps:=["self","name"]) fun _ _ _ _ _ _ us hl=>match us,hl with | [_,_],_=>rfl⟩⟩
 have Z0l:DefM l.prog w K mg base (CXF l.prog w) 4 Z0 "rest" ["self"] (sp79_rest K Z0 Z2):=⟨⟨f42,_,Z6h F42 T Zu,⟨a42,n42,k42⟩,F42.binds (ps:=["self"]) fun _ _ _ _ _ _ us hl=>match us,hl with | [_],_=>rfl⟩⟩
 have Z10:DefM l.prog w K mg base (CXF l.prog w) 1 Z0 "diary" ["self"] (sp74_diary Z0):=⟨⟨f43,_,Z5z F43 T,⟨a43,n43,k43⟩,F43.binds (ps:=["self"]) fun _ _ _ _ _ _ us hl=>match us,hl with | [_],_=>rfl⟩⟩
 have Z11:DefM l.prog w K mg base (CXF l.prog w) 1 Z0 "found" ["self"] (sp79_found Z0):=⟨⟨f44,_,Z60 F44 T,⟨a44,n44,k44⟩,F44.binds (ps:=["self"]) fun _ _ _ _ _ _ us hl=>match us,hl with | [_],_=>rfl⟩⟩
 have Z12:DefM l.prog w K mg base (CXF l.prog w) 1 Z0 "spent" ["self"] (sp75_spent Z0):=⟨⟨f45,_,Z61 F45 T,⟨a45,n45,k45⟩,F45.binds (ps:=["self"]) fun _ _ _ _ _ _ us hl=>match us,hl with | [_],_=>rfl⟩⟩
 have Z3d:DefI l.prog w K mg base (CXF l.prog w) 6 "Prompt" Z0 ["self","stock","sizes"] (sp78_init K Z0 Z2 Z4 Z7):=⟨⟨f46,_,Z6i F46 T Z1q Z1r Z1s,⟨m46,a46,n46,k46⟩,W.mg_of X G Z44,F46.binds (ps:=["self","stock","sizes"]) fun _ _ _ _ _ _ us hl=>match us,hl with | [_,_,_],_=>rfl⟩⟩
 have Zy:Def l.prog w K mg base (CXF l.prog w) 1 "_law_cell_at" ["_law_script","_law_k"] (sp_cell K):=⟨⟨f47,_,Z6y F47 T,W.mg_of X G a47,k47,F47.binds (ps:=["_law_script","_law_k"]) fun _ _ _ _ _ _ us hl=>match us,hl with | [_,_],_=>rfl⟩⟩
 have Z3n:Def l.prog w K mg base (CXF l.prog w) 1 "_law_mix" ["_law_cell","_law_k"] (sp75_mix):=⟨⟨f48,_,Z8y F48 T,W.mg_of X G a48,k48,F48.binds (ps:=["_law_cell","_law_k"]) fun _ _ _ _ _ _ us hl=>match us,hl with | [_,_],_=>rfl⟩⟩
 have Z4k:Def l.prog w K mg base (CXF l.prog w) 1 "_law_names" ["_law_cell","_law_many"] (sp12_names):=⟨⟨f49,_,Z7o F49 T,W.mg_of X G a49,k49,F49.binds (ps:=["_law_cell","_law_many"]) fun _ _ _ _ _ _ us hl=>match us,hl with | [_,_],_=>rfl⟩⟩
 have Z4l:Def l.prog w K mg base (CXF l.prog w) 2 "_law_value" ["_law_cell","_law_k"] (sp75_value):=⟨⟨f50,_,Z7p F50 T Z3n,W.mg_of X G a50,k50,F50.binds (ps:=["_law_cell","_law_k"]) fun _ _ _ _ _ _ us hl=>match us,hl with | [_,_],_=>rfl⟩⟩
 have Z1w:Def l.prog w K mg base (CXF l.prog w) 8 "_law_tower" ["_law_stock","_law_sizes","_law_prompt"] (sp78_ltower K Z1 Z0 Z2 Z4 Z7):=⟨⟨f51,_,Z7q F51 T Z3o Z3d,W.mg_of X G a51,k51,F51.binds (ps:=["_law_stock","_law_sizes","_law_prompt"]) fun _ _ _ _ _ _ us hl=>match us,hl with | [_,_,_],_=>rfl⟩⟩
 have Z30:Def l.prog w K mg base (CXF l.prog w) 2 "_law_drawn_sizes" ["_law_cell"] (sp78_sizesD K):=⟨⟨f52,_,Z5c F52 T Z3n,W.mg_of X G a52,k52,F52.binds (ps:=["_law_cell"]) fun _ _ _ _ _ _ us hl=>match us,hl with | [_],_=>rfl⟩⟩
 have Z5d:Def l.prog w K mg base (CXF l.prog w) 9 "_law_made" ["_law_stock","_law_sizes","_law_prompt"] (sp78_made K Z1 Z0 Z2):=⟨⟨f53,_,Z8e F53 T Z1w,W.mg_of X G a53,k53,F53.binds (ps:=["_law_stock","_law_sizes","_law_prompt"]) fun _ _ _ _ _ _ us hl=>match us,hl with | [_,_,_],_=>rfl⟩⟩
 have Z3q:Def l.prog w K mg base (CXF l.prog w) 1 "_law_no_value" ["_law_cell"] (sp78_noval K):=⟨⟨f54,_,Z6s F54 T,W.mg_of X G a54,k54,F54.binds (ps:=["_law_cell"]) fun _ _ _ _ _ _ us hl=>match us,hl with | [_],_=>rfl⟩⟩
 have Z3r:Def l.prog w K mg base (CXF l.prog w) 1 "_law_expected" ["_law_name","_law_extra","_law_good","_law_deed"] (sp78_expected):=⟨⟨f55,_,Z6t F55 T,W.mg_of X G a55,k55,F55.binds (ps:=["_law_name","_law_extra","_law_good","_law_deed"]) fun _ _ _ _ _ _ us hl=>match us,hl with | [_,_,_,_],_=>rfl⟩⟩
 have Z2f:Def l.prog w K mg base (CXF l.prog w) 8 "_law_tried" ["_law_tower_here","_law_name","_law_deed","_law_value_here"] (sp78_tried K Z1 Z0 Z2):=⟨⟨f56,_,Z7r F56 T Z15 Z0k Z3p Z3e Z3f Z37 Zb Z9,W.mg_of X G a56,k56,F56.binds (ps:=["_law_tower_here","_law_name","_law_deed","_law_value_here"]) fun _ _ _ _ _ _ us hl=>match us,hl with | [_,_,_,_],_=>rfl⟩⟩
 have Z27:Def l.prog w K mg base (CXF l.prog w) 6 "_law_state" ["_law_tower_here","_law_names_here"] (sp78_state K Z1 Z0 Z2):=⟨⟨f57,_,Z7s F57 T Zb Z9 Zt Zn Z1t Z10 Z1u Z11 Z1v Z12,W.mg_of X G a57,k57,F57.binds (ps:=["_law_tower_here","_law_names_here"]) fun _ _ _ _ _ _ us hl=>match us,hl with | [_,_],_=>rfl⟩⟩
 have Z38:Def l.prog w K mg base (CXF l.prog w) 10 "_law_nothing" ["_law_prompt"] (sp78_nothing):=⟨⟨f58,_,Z6z F58 T Z1w Z16 Z2f Zt Zn Z1u Z11 Z1v Z12 Z17 Z0l Z1t Z10,W.mg_of X G a58,k58,F58.binds (ps:=["_law_prompt"]) fun _ _ _ _ _ _ us hl=>match us,hl with | [_],_=>rfl⟩⟩
 have Z3u:Def l.prog w K mg base (CXF l.prog w) 8 "_law_at_last" ["_law_tower_here","_law_twin","_law_values"] (sp78_last K Z1 Z0 Z2):=⟨⟨f59,_,Z70 F59 T Z15 Z0k Z17 Z0l Z27 Zb Z9,W.mg_of X G a59,k59,F59.binds (ps:=["_law_tower_here","_law_twin","_law_values"]) fun _ _ _ _ _ _ us hl=>match us,hl with | [_,_,_],_=>rfl⟩⟩
 exact Z90 F60 T Zy Z4k Z30 Z5d Z16 Z38 Z1w Z3q Z4l Z3r Z27 Z2f Z3u
end K78
namespace PySem.W.Fast
theorem tw13548803939756985798:True:=⟨⟩
theorem tw946892157608773859:True:=⟨⟩
theorem tw3975048512908707604:True:=⟨⟩
theorem tw7781419686437069752:True:=⟨⟩
theorem tw15475132704073044719:True:=⟨⟩
theorem tw7694273419369594664:True:=⟨⟩
theorem tw11303979889649719198:True:=⟨⟩
theorem tw16822148546578157033:True:=⟨⟩
theorem tw17543616420348790215:True:=⟨⟩
theorem tw12398734513171772551:True:=⟨⟩
theorem tw6922883253129844636:True:=⟨⟩
theorem tw17242960576943885500:True:=⟨⟩
theorem tw14070540447369169728:True:=⟨⟩
theorem tw8501185923628816891:True:=⟨⟩
theorem tw1352904775345528055:True:=⟨⟩
theorem tw17882701637609116321:True:=⟨⟩
theorem tw437868015041711977:True:=⟨⟩
theorem tw16433823606123811095:True:=⟨⟩
theorem tw10465803594670158020:True:=⟨⟩
theorem tw4994583871296432258:True:=⟨⟩
theorem tw11602691643465860293:True:=⟨⟩
theorem tw18175947916682021802:True:=⟨⟩
theorem tw4442245832828822417:True:=⟨⟩
theorem tw7216841687331099822:True:=⟨⟩
theorem tw14274513103587028719:True:=⟨⟩
theorem tw2066461568383312803:True:=⟨⟩
theorem tw4779309674030427578:True:=⟨⟩
theorem tw15191632362457337461:True:=⟨⟩
theorem tw437865556906454526:True:=⟨⟩
theorem tw2522866216431905469:True:=⟨⟩
theorem tw16649364379219975237:True:=⟨⟩
theorem tw14055808425012826817:True:=⟨⟩
theorem tw3490131140969599507:True:=⟨⟩
theorem tw10071351603028367879:True:=⟨⟩
theorem tw11759647819138125766:True:=⟨⟩
theorem tw9061437324264981463:True:=⟨⟩
theorem tw2549750773698107849:True:=⟨⟩
theorem tw15325470424936724852:True:=⟨⟩
theorem tw12541804392987601954:True:=⟨⟩
theorem tw2376627048578050858:True:=⟨⟩
theorem tw11564632080156981927:True:=⟨⟩
theorem tw16013640679432922395:True:=⟨⟩
theorem tw15275909683183776444:True:=⟨⟩
theorem tw11414968617548472499:True:=⟨⟩
theorem tw5568297490757172545:True:=⟨⟩
theorem tw5967632844356613980:True:=⟨⟩
theorem tw7068646743603434104:True:=⟨⟩
theorem tw13057267916178711731:True:=⟨⟩
theorem tw15557604370933398143:True:=⟨⟩
theorem tw9927301133946086025:True:=⟨⟩
theorem tw11134379524278336718:True:=⟨⟩
theorem tw419497658963049678:True:=⟨⟩
theorem tw10486432743680368003:True:=⟨⟩
theorem tw1132974065448575986:True:=⟨⟩
theorem tw14929525534517317546:True:=⟨⟩
theorem tw14862042600281648453:True:=⟨⟩
theorem tw2835547871940892710:True:=⟨⟩
theorem tw10619033019506855089:True:=⟨⟩
theorem tw5784654713802405699:True:=⟨⟩
theorem tw5891804668660893892:True:=⟨⟩
theorem tw9503184705341101249:True:=⟨⟩
theorem tw11432446433600966072:True:=⟨⟩
theorem tw15025664092182174528:True:=⟨⟩
theorem tw15003992738594714674:True:=⟨⟩
theorem tw11746856801736320129:True:=⟨⟩
theorem tw14440846271395218095:True:=⟨⟩
theorem tw16419375463014222529:True:=⟨⟩
theorem tw4374369297101923293:True:=⟨⟩
theorem tw749187245297595353:True:=⟨⟩
theorem tw13444316008521919872:True:=⟨⟩
theorem tw9308242368003961094:True:=⟨⟩
theorem tw12135792108724812131:True:=⟨⟩
theorem tw9872775081077147084:True:=⟨⟩
theorem tw7609917445310744163:True:=⟨⟩
theorem tw7051973942716170960:True:=⟨⟩
theorem tw9030848318897434789:True:=⟨⟩
theorem tw18094875005006700092:True:=⟨⟩
theorem tw12781814162366690627:True:=⟨⟩
theorem tw3202887936392756922:True:=⟨⟩
theorem tw14048933078045890486:True:=⟨⟩
theorem tw2628648293715665472:True:=⟨⟩
theorem tw6598606122772384211:True:=⟨⟩
theorem tw12068144766401088435:True:=⟨⟩
theorem tw3340444294095312386:True:=⟨⟩
theorem tw4586490725044533494:True:=⟨⟩
theorem tw2918623542962402881:True:=⟨⟩
theorem tw10518448052983677240:True:=⟨⟩
theorem tw463567809590160315:True:=⟨⟩
theorem tw12206502012922898543:True:=⟨⟩
theorem tw12119199071715551915:True:=⟨⟩
theorem tw14390475733584944916:True:=⟨⟩
theorem tw1327342441328564986:True:=⟨⟩
theorem tw11548296301481179331:True:=⟨⟩
theorem tw14739047796250274628:True:=⟨⟩
theorem tw3538100692573475472:True:=⟨⟩
theorem tw15033469418146435301:True:=⟨⟩
theorem tw15301914998863485190:True:=⟨⟩
theorem tw5766450124424901398:True:=⟨⟩
theorem tw4542931842744963828:True:=⟨⟩
theorem tw5981411672618666062:True:=⟨⟩
theorem tw17354729498028708449:True:=⟨⟩
theorem tw12534177296875765683:True:=⟨⟩
theorem tw11662250962201265301:True:=⟨⟩
theorem tw15746739377175469024:True:=⟨⟩
theorem tw16116349702905223594:True:=⟨⟩
theorem tw4808945153980352047:True:=⟨⟩
theorem tw7162688982197901247:True:=⟨⟩
theorem tw11593412277810642702:True:=⟨⟩
theorem tw10593896729553700688:True:=⟨⟩
theorem tw5742399396329246037:True:=⟨⟩
theorem tw15867113089420076648:True:=⟨⟩
theorem tw13215605763506454491:True:=⟨⟩
theorem tw13549734644253209358:True:=⟨⟩
theorem tw15897082262913007967:True:=⟨⟩
theorem tw5599281744306122442:True:=⟨⟩
theorem tw2711210182601691982:True:=⟨⟩
theorem tw3904766335709669007:True:=⟨⟩
theorem tw17691132658583870908:True:=⟨⟩
theorem tw16929223495381601076:True:=⟨⟩
theorem tw15515289861912318946:True:=⟨⟩
theorem tw15351152415826562286:True:=⟨⟩
theorem tw8318221916962273343:True:=⟨⟩
theorem tw15849263699342144113:True:=⟨⟩
theorem tw8927139434824849001:True:=⟨⟩
theorem tw8246091624072663673:True:=⟨⟩
theorem tw9506124475450512499:True:=⟨⟩
theorem tw6650966653055379416:True:=⟨⟩
theorem tw11504373180475126338:True:=⟨⟩
theorem tw15287827377717553612:True:=⟨⟩
theorem tw3452371618127838432:True:=⟨⟩
theorem tw10106390204816326308:True:=⟨⟩
theorem tw7402130150279470670:True:=⟨⟩
theorem tw15997314334978561523:True:=⟨⟩
theorem tw13082723835304641417:True:=⟨⟩
theorem tw17366201421311709745:True:=⟨⟩
theorem tw1903435334662854931:True:=⟨⟩
theorem tw2683818906734712752:True:=⟨⟩
theorem tw13241007273358185080:True:=⟨⟩
theorem tw6678830309950620258:True:=⟨⟩
theorem tw10745548363994654352:True:=⟨⟩
theorem tw853308286404470534:True:=⟨⟩
theorem tw8377472991768239635:True:=⟨⟩
theorem tw15152035865590248090:True:=⟨⟩
theorem tw9408291540845935299:True:=⟨⟩
theorem tw1489611047489519932:True:=⟨⟩
theorem tw13091431176110488058:True:=⟨⟩
theorem tw18272271467090956833:True:=⟨⟩
theorem tw1440183613885567287:True:=⟨⟩
theorem tw17814173336978159102:True:=⟨⟩
theorem tw14047686791968422919:True:=⟨⟩
theorem tw9786687915182854857:True:=⟨⟩
theorem tw16939313228394644776:True:=⟨⟩
theorem tw15600852272750771983:True:=⟨⟩
theorem tw10622026647701127307:True:=⟨⟩
theorem tw3152352627336121466:True:=⟨⟩
theorem tw15209275022612911723:True:=⟨⟩
theorem tw4266053569058138479:True:=⟨⟩
theorem tw18207331492040810936:True:=⟨⟩
theorem tw6906125678200101493:True:=⟨⟩
theorem tw1160840365220556458:True:=⟨⟩
theorem tw7073373225001696759:True:=⟨⟩
theorem tw8601143426964224864:True:=⟨⟩
theorem tw5565259183431400086:True:=⟨⟩
theorem tw8428676290447677161:True:=⟨⟩
theorem tw17241684161568487755:True:=⟨⟩
theorem tw3314832203058481439:True:=⟨⟩
theorem tw10151185529603315705:True:=⟨⟩
theorem tw12092216986339731134:True:=⟨⟩
theorem tw5142371190952246943:True:=⟨⟩
theorem tw16882416038589320630:True:=⟨⟩
theorem tw11037103139513835132:True:=⟨⟩
theorem tw6691629178381692423:True:=⟨⟩
theorem tw8707712821204777999:True:=⟨⟩
theorem tw11962661466073510611:True:=⟨⟩
theorem tw14293938391274194432:True:=⟨⟩
theorem tw15750604190597313925:True:=⟨⟩
theorem tw1083536929646846733:True:=⟨⟩
theorem tw432391390152775117:True:=⟨⟩
theorem tw403103356465152485:True:=⟨⟩
theorem tw10947009575184529489:True:=⟨⟩
theorem tw11011795107557507276:True:=⟨⟩
theorem tw24288280351196224:True:=⟨⟩
theorem tw12645678246442196422:True:=⟨⟩
theorem tw2708502098867504044:True:=⟨⟩
theorem tw17025683461087571616:True:=⟨⟩
theorem tw3350032218632161539:True:=⟨⟩
theorem tw2848175919202580145:True:=⟨⟩
theorem tw15237497551734516818:True:=⟨⟩
theorem tw13335563641354033146:True:=⟨⟩
theorem tw15550797938205193252:True:=⟨⟩
theorem tw18219979970313054967:True:=⟨⟩
theorem tw15799031856965409345:True:=⟨⟩
theorem tw18117115397211690605:True:=⟨⟩
theorem tw8688964595560692864:True:=⟨⟩
theorem tw8093194968114524216:True:=⟨⟩
theorem tw3412691417696679073:True:=⟨⟩
theorem tw15431826808866356550:True:=⟨⟩
theorem tw15753393231311309957:True:=⟨⟩
theorem tw7301054638105908463:True:=⟨⟩
theorem tw13336960602229626503:True:=⟨⟩
theorem tw6739187586861405923:True:=⟨⟩
theorem tw3676696907558477156:True:=⟨⟩
theorem tw865048842186665655:True:=⟨⟩
theorem tw17678237521290585718:True:=⟨⟩
theorem tw5482321438679724958:True:=⟨⟩
theorem tw6771565691841178176:True:=⟨⟩
theorem tw15709875580789654535:True:=⟨⟩
theorem tw4620790870172768833:True:=⟨⟩
theorem tw12620592053666998385:True:=⟨⟩
theorem tw7098469587803848794:True:=⟨⟩
theorem tw16337495707930927530:True:=⟨⟩
theorem tw3628162987903332901:True:=⟨⟩
end PySem.W.Fast
open PySem PySem.W PyProof.Rows
set_option maxRecDepth 100000 in
set_option maxHeartbeats 0 in
theorem PySem.Challenge.cw_castoff_k78_towers_refused_holds : PySem.Challenge.rw_castoff_k78_towers_refused.Holds := by
 w_on;o_law;k_head;(case hw=>w_witness2)
 k_fill
 refine L2.walk_ofKF (l:=PySem.Challenge.rw_castoff_k78_towers_refused) (n:=63) (k:=12) (x:="_law_script") (sp:=N1.sp_law) rfl (by decide) rfl ⟨rfl,by decide,by decide⟩ (fun w h Y=>PySem.W.kIn_of Y) ?F ?S
 case F=>
  intro w mg fa h KX G hmg
  refine' K78.all_mk KX G hmg ?a0 ?l0 ?c0 ?k0 ?a1 ?l1 ?c1 ?k1 ?a2 ?l2 ?c2 ?k2 ?a3 ?l3 ?c3 ?k3 ?a4 ?l4 ?c4 ?k4 ?a5 ?l5 ?c5 ?n5 ?k5 ?m5 ?kf5 ?a6 ?l6 ?c6 ?n6 ?k6 ?a7 ?l7 ?c7 ?k7 ?kf7 ?hc7 ?a8 ?l8 ?c8 ?k8 ?a9 ?l9 ?c9 ?n9 ?k9 ?a10 ?l10 ?c10 ?n10 ?k10 ?a11 ?l11 ?c11 ?n11 ?k11 ?a12 ?l12 ?c12 ?n12 ?k12 ?a13 ?l13 ?c13 ?k13 ?a14 ?l14 ?c14 ?k14 ?a15 ?l15 ?c15 ?n15 ?k15 ?a16 ?l16 ?c16 ?n16 ?k16 ?a17 ?l17 ?c17 ?n17 ?k17 ?a18 ?l18 ?c18 ?n18 ?k18 ?a19 ?l19 ?c19 ?n19 ?k19 ?a20 ?l20 ?c20 ?n20 ?k20 ?a21 ?l21 ?c21 ?n21 ?k21 ?a22 ?l22 ?c22 ?n22 ?k22 ?a23 ?l23 ?c23 ?n23 ?k23 ?a24 ?l24 ?c24 ?n24 ?k24 ?a25 ?l25 ?c25 ?n25 ?k25 ?a26 ?l26 ?c26 ?n26 ?k26 ?a27 ?l27 ?c27 ?n27 ?k27 ?a28 ?l28 ?c28 ?n28 ?k28 ?a29 ?l29 ?c29 ?n29 ?k29 ?a30 ?l30 ?c30 ?n30 ?k30 ?m30 ?kf30 ?a31 ?l31 ?c31 ?n31 ?k31 ?a32 ?l32 ?c32 ?n32 ?k32 ?a33 ?l33 ?c33 ?n33 ?k33 ?a34 ?l34 ?c34 ?n34 ?k34 ?a35 ?l35 ?c35 ?n35 ?k35 ?a36 ?l36 ?c36 ?n36 ?k36 ?a37 ?l37 ?c37 ?n37 ?k37 ?a38 ?l38 ?c38 ?n38 ?k38 ?a39 ?l39 ?c39 ?n39 ?k39 ?a40 ?l40 ?c40 ?n40 ?k40 ?a41 ?l41 ?c41 ?n41 ?k41 ?a42 ?l42 ?c42 ?n42 ?k42 ?a43 ?l43 ?c43 ?n43 ?k43 ?a44 ?l44 ?c44 ?n44 ?k44 ?a45 ?l45 ?c45 ?n45 ?k45 ?a46 ?l46 ?c46 ?n46 ?k46 ?m46 ?kf46 ?a47 ?l47 ?c47 ?k47 ?a48 ?l48 ?c48 ?k48 ?a49 ?l49 ?c49 ?k49 ?a50 ?l50 ?c50 ?k50 ?a51 ?l51 ?c51 ?k51 ?a52 ?l52 ?c52 ?k52 ?a53 ?l53 ?c53 ?k53 ?a54 ?l54 ?c54 ?k54 ?a55 ?l55 ?c55 ?k55 ?a56 ?l56 ?c56 ?k56 ?a57 ?l57 ?c57 ?k57 ?a58 ?l58 ?c58 ?k58 ?a59 ?l59 ?c59 ?k59 ?a60 ?l60 ?c60 ?k60 ?Zw ?Z14 ?Z42 ?Z4e ?Z5p ?Z1y ?Z5q ?Z2p ?Z4y ?Z1x ?Z6v ?Z4z ?Z2q ?Z3b ?Z2e ?Z28 ?Z2m ?Z18 ?Z0n ?Z50 ?Z5e ?Z5f ?Z5g ?Z5h ?Zd ?Z51 ?Z5i ?Z5j ?Z5k ?Z5l ?Zq ?Zr ?Zs ?Zo ?Zx ?Z0i ?Zv ?Z06 ?Z13 ?Z44 ?Z4m ?Z4n ?Z4o ?Z4p ?Zk ?Zl ?Zi ?Zj ?Zz ?Z07 ?Zp ?Z01 ?Z0j ?Z3v ?Z3s ?Z45 ?Z5m ?lA ?lNA ?sNA ?iNA ?Z3x ?Z3y ?Z3z ?Z40 ?Z41 ?Z4r ?Z4s ?Z4t ?Z4u ?Z4v ?Z3i ?Z47 ?Z48 ?Z49 ?Z4a ?Z4b ?Z4c ?Z0m ?Z0b ?Z3j ?Z39 ?Z3a ?Z3t ?Z3k ?Z3l ?Z5n ?Z4w ?Z4x ?Z2k ?Z2g ?Z2d ?Z2l ?Z31
  case Z50|Z51|Z44|Z3v|Z3s|Z45|Z5m|a0|l0|c0|k0|a1|l1|c1|k1|a2|l2|c2|k2|a3|l3|c3|k3|a4|l4|c4|k4|a5|l5|c5|n5|k5|m5|kf5|a6|l6|c6|n6|k6|a7|l7|c7|k7|kf7=>k_is
  case hc7=>rfl
  case a8|l8|c8|k8|a9|l9|c9|n9|k9|a10|l10|c10|n10|k10|a11|l11|c11|n11|k11|a12|l12|c12|n12|k12|a13|l13|c13|k13|a14|l14|c14|k14|a15|l15|c15|n15|k15|a16|l16|c16|n16|k16|a17|l17|c17|n17|k17|a18|l18|c18|n18|k18|a19|l19|c19|n19|k19|a20|l20|c20|n20|k20|a21|l21|c21|n21|k21|a22|l22|c22|n22|k22|a23|l23|c23|n23|k23|a24|l24|c24|n24|k24|a25|l25|c25|n25|k25|a26|l26|c26|n26|k26|a27|l27|c27|n27|k27|a28|l28|c28|n28|k28|a29|l29|c29|n29|k29|a30|l30|c30|n30|k30|m30|kf30|a31|l31|c31|n31|k31|a32|l32|c32|n32|k32|a33|l33|c33|n33|k33|a34|l34|c34|n34|k34|a35|l35|c35|n35|k35|a36|l36|c36|n36|k36|a37|l37|c37|n37|k37|a38|l38|c38|n38|k38|a39|l39|c39|n39|k39|a40|l40|c40|n40|k40|a41|l41|c41|n41|k41|a42|l42|c42|n42|k42|a43|l43|c43|n43|k43|a44|l44|c44|n44|k44|a45|l45|c45|n45|k45|a46|l46|c46|n46|k46|m46|kf46|a47|l47|c47|k47|a48|l48|c48|k48|a49|l49|c49|k49|a50|l50|c50|k50|a51|l51|c51|k51|a52|l52|c52|k52|a53|l53|c53|k53|a54|l54|c54|k54|a55|l55|c55|k55|a56|l56|c56|k56|a57|l57|c57|k57|a58|l58|c58|k58|a59|l59|c59|k59|a60|l60|c60|k60|Zw|Z14|Z42|Z4e|Z5p|Z1y|Z5q|Z2p|Z4y|Z1x|Z6v|Z4z|Z2q|Z3b|Z2e|Z28|Z2m|Z18|Z0n|Z5e|Z5f|Z5g|Z5h|Zd|Z5i|Z5j|Z5k|Z5l|Zq|Zr|Zs|Zo|Zx|Z0i|Zv|Z06|Z13|Z4m|Z4n|Z4o|Z4p|Zk|Zl|Zi|Zj|Zz|Z07|Zp|Z01|Z0j|lA|lNA=>k_is
  case sNA|iNA=>rfl
  case Z3x|Z3y=>k_is
  case Z3z|Z40=>rfl
  case Z41|Z4r|Z4s=>k_is
  case Z4t|Z4u=>rfl
  case Z4v|Z3i|Z47=>k_is
  case Z48|Z49=>rfl
  case Z4a|Z4b|Z4c|Z0m|Z0b|Z3j|Z39|Z3a|Z3t|Z3k|Z3l|Z5n|Z4w|Z4x|Z2k|Z2g|Z2d|Z2l|Z31=>k_is
 case S=>exact fun K H a ns hl hO hS=>⟨a,ns,rfl,hS,hl,fun _=>rfl⟩
