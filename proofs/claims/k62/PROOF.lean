import PyProof.Rows.All
import KE.KSuperObj
import KE.KPairComp
import KE.KLam
import KE.KNestM
import KE.KItemsList
import KE.KUnpack
import KE.KEqDict
import KE.KFromBytes
import KE.KMinKey
import KE.KIntText
import KE.KRevIter
import KE.KDictOf
import KE.KTryMore
import KE.KBoundM
import PySem.Challenge.RW_castoff_k62_the_first_lack
set_option linter.all false
set_option Elab.async false
set_option maxRecDepth 100000
set_option maxHeartbeats 4000000
open PySem PySem.Spec PyProof.Rows
namespace L2
noncomputable abbrev Key:=Sum Int Str
noncomputable def keyIs:Key→Value→Bool
 | .inl k,v=>Value.isInt k v
 | .inr x,v=>Value.isStrOf x v
noncomputable def keyH(w:World):Key→Int
 | .inl k=>hashInt k
 | .inr x=>hashStr w x
theorem keyIs_shape:∀{k:Key} {v:Value},keyIs k v=true→(∃i t,k=Sum.inl i∧v=Value.int i t)∨(∃x t,k=Sum.inr x∧v=Value.str x t)
 | .inl i,v,h=>by
  obtain ⟨t,e⟩:=Value.isInt_shape (k:=i) (v:=v) h
  exact .inl ⟨i,t,rfl,e⟩
 | .inr x,v,h=>by
  obtain ⟨t,e⟩:=Value.isStrOf_shape (x:=x) (v:=v) h
  exact .inr ⟨x,t,rfl,e⟩
theorem keyIs_int(i:Int)(t:Tok):keyIs (.inl i) (.int i t)=true:=by simp [keyIs,Value.isInt]
theorem keyIs_str(x:Str)(t:Tok):keyIs (.inr x) (.str x t)=true:=by simp [keyIs,Value.isStrOf]
theorem key_ll(a b:Int):decide ((Sum.inl a:Key)=Sum.inl b)=(a==b):=by
 by_cases e:a=b
 · subst e;simp
 · have h:¬(Sum.inl a:Key)=Sum.inl b:=fun q=>e (Sum.inl.inj q)
   rw [decide_eq_false h]
   exact (beq_eq_false_iff_ne.mpr e).symm
theorem key_rr(a b:Str):decide ((Sum.inr a:Key)=Sum.inr b)=decide (a=b):=by
 by_cases e:a=b
 · subst e;simp
 · have h:¬(Sum.inr a:Key)=Sum.inr b:=fun q=>e (Sum.inr.inj q)
   rw [decide_eq_false h,decide_eq_false e]
theorem key_lr(a:Int)(b:Str):decide ((Sum.inl a:Key)=Sum.inr b)=false:=decide_eq_false (fun q=>nomatch q)
theorem key_rl(a:Str)(b:Int):decide ((Sum.inr a:Key)=Sum.inl b)=false:=decide_eq_false (fun q=>nomatch q)
noncomputable def mixKind(prog:Program)(w:World):PySem.KeyKind prog w Key where
 is:=keyIs
 hash:=keyH w
 inj:=fun v a b ha hb=>by
  rcases keyIs_shape ha with ⟨i,t,rfl,rfl⟩ | ⟨x,t,rfl,rfl⟩
  · rcases keyIs_shape hb with ⟨j,u,rfl,e⟩ | ⟨y,u,rfl,e⟩
    · injection e with e1 _;rw [e1]
    · exact nomatch e
  · rcases keyIs_shape hb with ⟨j,u,rfl,e⟩ | ⟨y,u,rfl,e⟩
    · exact nomatch e
    · injection e with e1 _;rw [e1]
 byValue:=fun k v h=>by
   rcases keyIs_shape h with ⟨i,t,rfl,rfl⟩ | ⟨x,t,rfl,rfl⟩ <;> rfl
 pyHash:=fun hv h=>by
  rcases keyIs_shape hv with ⟨i,t,rfl,rfl⟩ | ⟨x,t,rfl,rfl⟩
  · exact wpAny_pyHash_int h
  · exact wpAny_pyHash_str h
 eqBool:=fun hu hv h=>by
  rcases keyIs_shape hu with ⟨i,t,rfl,rfl⟩ | ⟨x,t,rfl,rfl⟩
  · rcases keyIs_shape hv with ⟨j,u,rfl,rfl⟩ | ⟨y,u,rfl,rfl⟩
    · rw [key_ll]at h;exact wpAny_eqBool_int h
    · rw [key_lr]at h;exact SeqAt.EqAt.int_str i t y u _ _ _ _ h
  · rcases keyIs_shape hv with ⟨j,u,rfl,rfl⟩ | ⟨y,u,rfl,rfl⟩
    · rw [key_rl]at h;exact SeqAt.EqAt.str_int x t j u _ _ _ _ h
    · rw [key_rr]at h;exact wpAny_eqBool_str h
 «strs»:=fun k x t v h=>by
  rcases keyIs_shape h with ⟨i,u,rfl,e⟩ | ⟨y,u,rfl,e⟩
  · exact nomatch e
  · injection e with e1 _
    subst e1
    cases v <;> rfl
theorem mixKind_int(prog:Program)(w:World)(i:Int)(t:Tok):(mixKind prog w).is (.inl i) (.int i t)=true:=keyIs_int i t
theorem mixKind_str(prog:Program)(w:World)(x:Str)(t:Tok):(mixKind prog w).is (.inr x) (.str x t)=true:=keyIs_str x t
end L2
namespace L2
inductive V where
 | non | bl (b:Bool) | int (i:Int) | str (x:Str) | byt (b:Array UInt8) | flt (b:UInt64) | ref (a:Addr) | ty (n:String)
 deriving DecidableEq
noncomputable def RelV:V→Value→Prop
 | .non,u=>u=Value.none
 | .bl b,u=>u=Value.bool b
 | .int i,u=>∃t,u=Value.int i t
 | .str x,u=>∃t,u=Value.str x t
 | .byt b,u=>∃t,u=Value.bytes b t
 | .flt b,u=>∃t,u=Value.float b t
 | .ref a,u=>u=Value.ref a
 | .ty n,u=>u=Value.type n
noncomputable abbrev Vals:List V→List Value→Prop:=Paired RelV
theorem Vals.length{xs:List V}{us:List Value}(r:Vals xs us):xs.length=us.length:=Paired.length r
theorem Vals.get:∀{xs:List V} {us:List Value} {i:Nat} {x:V},Vals xs us→xs[i]?=some x→∃u,us[i]?=some u∧RelV x u
 | _,_,_,_,.nil,e=>by simp at e
 | _,_,0,_,.cons r _,e=>by simp at e;subst e;exact ⟨_,rfl,r⟩
 | _,_,i+1,x,.cons _ t,e=>by
  obtain ⟨u,h1,h2⟩:=Vals.get (i:=i) (x:=x) t (by simpa using e)
  exact ⟨u,by simpa using h1,h2⟩
theorem Vals.append:∀{xs ys:List V} {us ws:List Value},Vals xs us→Vals ys ws→Vals (xs++ys) (us++ws)
 | _,_,_,_,.nil,s=>s
 | _,_,_,_,.cons r t,s=> .cons r (Vals.append t s)
theorem Vals.take:∀{xs:List V} {us:List Value} (n:Nat),Vals xs us→Vals (xs.take n) (us.take n)
 | _,_,0,_=> .nil
 | _,_,_+1,.nil=> .nil
 | _,_,n+1,.cons r t=> .cons r (Vals.take n t)
theorem Vals.drop:∀{xs:List V} {us:List Value} (n:Nat),Vals xs us→Vals (xs.drop n) (us.drop n)
 | _,_,0,r=>r
 | _,_,_+1,.nil=> .nil
 | _,_,n+1,.cons _ t=>Vals.drop n t
noncomputable def RelO:Option V→Option Value→Prop
 | some v,some u=>RelV v u
 | none,none=>True
 | _,_=>False
noncomputable def KV{κ:Type}:List (κ×V)→List (κ×Value)→Prop:=Paired fun (p:κ×V) (q:κ×Value)=>p.1=q.1∧RelV p.2 q.2
noncomputable def kV:Key→V
 | .inl i=> .int i
 | .inr x=> .str x
inductive HO where
 | lst (xs:List V)
 | tup (xs:List V)
 | dK (kvs:List (Key×V)) | dT (kvs:List (List Key×V))
 | set (S:Int→Bool) (n:Nat)
 | ins (C dx:Addr) (fs:List (Str×V))
 | own (x:Addr)
 | xd (fs:List (Str×V))
 | met (f x:Addr)
 | rng (lo hi:Int)
 | frz (o:Obj) (u:HO)
 | tbl (ps:Array Value)
 | ext (φ:Heap→Prop)
noncomputable abbrev Hp:=Addr→Option HO
noncomputable def upd(H:Hp)(a:Addr)(o:HO):Hp:=fun b=>if b=a then some o else H b
theorem upd_same{H:Hp}{a:Addr}{o:HO}:upd H a o a=some o:=by unfold upd;rw [if_pos rfl]
theorem upd_ne{H:Hp}{a b:Addr}{o:HO}(h:b≠a):upd H a o b=H b:=by unfold upd;rw [if_neg h]
theorem upd_upd{H:Hp}{a:Addr}{o u:HO}:upd (upd H a o) a u=upd H a u:=by
 funext b;unfold upd;split <;> rfl
theorem ne_of{H:Hp}{a b:Addr}{o u:HO}(h:H a=some o)(h':H b=some u)(d:o≠u):a≠b:=by
 intro e;subst e;rw [h]at h';exact d (Option.some.inj h')
theorem ne_of_none{H:Hp}{a b:Addr}{o:HO}(h:H a=some o)(h':H b=none):a≠b:=by
 intro e;subst e;rw [h]at h';cases h'
section
variable (P:Program) (w:World)
noncomputable def ObjOk(H:Hp)(h:Heap)(a:Addr):HO→Prop
 | .lst xs=>xs.length≤sizeLine∧∃(its:List Value) (n:Nat),Vals xs its∧h.get? a=some {cls:= .type "list",data:= .seq its.toArray n}
 | .tup xs=>xs.length≤sizeLine∧∃its:List Value,Vals xs its∧IsTup h a its.toArray
 | .dK kvs=>kvs.length≤sizeLine∧(a==sysModules)=false∧∃vs,KV kvs vs∧h.DictOf (mixKind P w) a vs
 | .dT kvs=>kvs.length≤sizeLine∧(a==sysModules)=false∧∃xs:List (List Key×Addr×Value),
  Paired (fun (p:List Key×V) (q:List Key×Addr×Value)=>p.1=q.1∧H q.2.1=some (.tup (p.1.map kV))∧RelV p.2 q.2.2) kvs xs∧
  ∃o es ep,h.get? a=some o∧o.ExactDict∧o.data= .dict es ep∧es.toList=xs.map (entryOfKey (tupleKind (mixKind P w)))∧(xs.map (·.1)).Nodup
 | .set S n=>h.SetOf (intKind P w) a S n
 | .ins C dx fs=>H dx=some (.own a)∧fs.length≤1000∧dx≠a∧h.get? a=some (PySem.W.instObj C dx)∧
  ∃mA,h.Ns1 dx mA∧(∀f,RelO (fs.lookup f) (mA f))∧PySem.Within mA (fs.map (·.1))
 | .own _=>∃o,h.get? a=some o
 | .xd fs=>∃mA,h.Ns1 a mA∧∀f,RelO (fs.lookup f) (mA f)
 | .rng lo hi=>∃t u v,h.get? a=some {cls:= .type "range",data:= .fields #[.int lo t,.int hi u,.int 1 v]}
 | .frz o u=>h.get? a=some o∧ObjOk H h a u
 | .tbl ps=>h.get? a=some {cls:= .none,data:= .fields ps}
 | .met f x=>h.get? a=some (PySem.W.methodObj (.ref f) (.ref x))
 | .ext φ=>φ h∧(∃o,h.get? a=some o)∧∀h1 h2:Heap,φ h1→(∀o,h1.get? a=some o→h2.get? a=some o)→φ h2
noncomputable def HOk(H:Hp)(h:Heap):Prop:=∀a o,H a=some o→ObjOk P w H h a o
end
section
variable {P:Program} {w:World} {H H':Hp} {h h':Heap} {a:Addr} {o:HO}
theorem ObjOk.lt(x:ObjOk P w H h a o):a < h.objs.size:=by
 cases o with
 | lst xs=>obtain ⟨_,_,_,_,e⟩:=x;exact Heap.lt_size e
 | tup xs=>obtain ⟨_,_,_,p⟩:=x;exact p.lt
 | dK kvs=>obtain ⟨_,_,_,_,o,_,_,e,_⟩:=x;exact Heap.lt_size e
 | dT kvs=>obtain ⟨_,_,_,_,o,_,_,e,_⟩:=x;exact Heap.lt_size e
 | set S n=>obtain ⟨o,_,_,_,e,_⟩:=x;exact Heap.lt_size e
 | ins C dx fs=>obtain ⟨_,_,_,e,_⟩:=x;exact Heap.lt_size e
 | own y=>obtain ⟨_,e⟩:=x;exact Heap.lt_size e
 | xd fs=>obtain ⟨_,⟨_,_,_,e,_⟩,_⟩:=x;exact Heap.lt_size e
 | rng lo hi=>obtain ⟨_,_,_,e⟩:=x;exact Heap.lt_size e
 | frz ob u=>obtain ⟨e,_⟩:=x;exact Heap.lt_size e
 | tbl ps=>exact Heap.lt_size (show h.get? a=some _ from x)
 | met f y=>exact Heap.lt_size (show h.get? a=some _ from x)
 | ext φ=>obtain ⟨_,⟨_,e⟩,_⟩:=x;exact Heap.lt_size e
theorem Paired.mapP{α β:Type}{F G:α→β→Prop}:∀{l₁:List α} {l₂:List β},Paired F l₁ l₂→(∀a b,F a b→G a b)→Paired G l₁ l₂
 | _,_,.nil,_=> .nil
 | _,_,.cons r t,f=> .cons (f _ _ r) (Paired.mapP t f)
theorem ObjOk.stay(x:ObjOk P w H h a o)(k:∀b u,(b=a∨H b=some (.own a))→h.get? b=some u→h'.get? b=some u)
 (ho:∀b,H b=some (.own a)→H' b=some (.own a)) (ht:∀b xs,H b=some (.tup xs)→H' b=some (.tup xs)):ObjOk P w H' h' a o:=by
 induction o with
 | lst xs=>obtain ⟨z,its,n,r,e⟩:=x;exact ⟨z,its,n,r,k _ _ (.inl rfl) e⟩
 | tup xs=>obtain ⟨z,its,r,ob,e,c⟩:=x;exact ⟨z,its,r,ob,k _ _ (.inl rfl) e,c⟩
 | dK kvs=>obtain ⟨z,y,vs,r,ob,es,ep,e,c⟩:=x;exact ⟨z,y,vs,r,ob,es,ep,k _ _ (.inl rfl) e,c⟩
 | dT kvs=>
  obtain ⟨z,y,xs,r,ob,es,ep,e,c⟩:=x
  exact ⟨z,y,xs,Paired.mapP r fun p q z=>⟨z.1,ht _ _ z.2.1,z.2.2⟩,ob,es,ep,k _ _ (.inl rfl) e,c⟩
 | set S n=>obtain ⟨ob,es,ep,t,e,c⟩:=x;exact ⟨ob,es,ep,t,k _ _ (.inl rfl) e,c⟩
 | ins C dx fs=>
  obtain ⟨d,z,ne,e,mA,⟨od,es,ep,e2,c⟩,r⟩:=x
  exact ⟨ho _ d,z,ne,k _ _ (.inl rfl) e,mA,⟨od,es,ep,k _ _ (.inr d) e2,c⟩,r⟩
 | own y=>obtain ⟨ob,e⟩:=x;exact ⟨ob,k _ _ (.inl rfl) e⟩
 | xd fs=>obtain ⟨mA,⟨od,es,ep,e,c⟩,r⟩:=x;exact ⟨mA,⟨od,es,ep,k _ _ (.inl rfl) e,c⟩,r⟩
 | rng lo hi=>obtain ⟨t,u,v,e⟩:=x;exact ⟨t,u,v,k _ _ (.inl rfl) e⟩
 | frz ob u ih=>obtain ⟨e,q⟩:=x;exact ⟨k _ _ (.inl rfl) e,ih q⟩
 | tbl ps=>
  have e:h.get? a=some {cls:= .none,data:= .fields ps}:=x
  show h'.get? a=some {cls:= .none,data:= .fields ps}
  exact k a _ (.inl rfl) e
 | met f y=>
  have e:h.get? a=some (PySem.W.methodObj (.ref f) (.ref y)):=x
  show h'.get? a=some (PySem.W.methodObj (.ref f) (.ref y))
  exact k a _ (.inl rfl) e
 | ext φ=>obtain ⟨p,⟨o,e⟩,st⟩:=x;exact ⟨st _ _ p fun o q=>k _ _ (.inl rfl) q,⟨o,k _ _ (.inl rfl) e⟩,st⟩
theorem HOk.lt(x:HOk P w H h)(e:H a=some o):a < h.objs.size:=(x a o e).lt
theorem HOk.fresh(x:HOk P w H h)(e:h.objs.size≤a):H a=none:=by
 cases q:H a with
 | none=>rfl
 | some u=>exact absurd (Nat.lt_of_lt_of_le (x.lt q) e) (Nat.lt_irrefl _)
theorem HOk.kept(x:HOk P w H h)(k:∀b u,h.get? b=some u→h'.get? b=some u):HOk P w H h':=fun a o e=>
 (x a o e).stay (fun b u _ q=>k b u q) (fun _ q=>q) fun _ _ q=>q
theorem HOk.laid(x:HOk P w H h)(k:∀b u,h.get? b=some u→h'.get? b=some u)(hp:h.objs.size≤a)(new:ObjOk P w (upd H a o) h' a o):HOk P w (upd H a o) h':=fun b u e=>by
 have hn:=x.fresh hp
 by_cases hb:b=a
 · subst hb;rw [upd_same]at e;cases e;exact new
 · rw [upd_ne hb]at e
   exact (x b u e).stay (fun c v _ q=>k c v q) (fun c q=>by rw [upd_ne (ne_of_none q hn)];exact q) fun c xs q=>by rw [upd_ne (ne_of_none q hn)];exact q
end
noncomputable def Rd(H:Hp)(a:Addr)(u:HO):Prop:=H a=some u∨∃o,H a=some (.frz o u)
theorem Rd.ok{P:Program}{w:World}{H:Hp}{h:Heap}{a:Addr}{u:HO}(r:Rd H a u)(x:HOk P w H h):ObjOk P w H h a u:=by
 rcases r with r | ⟨o,r⟩
 · exact x a u r
 · obtain ⟨_,q⟩:=x a _ r
   exact q
noncomputable def Mut:Option HO→Prop
 | some (.lst _)=>True
 | some (.dK _)=>True
 | some (.dT _)=>True
 | some (.set _ _)=>True
 | some (.ins _ _ _)=>True
 | some (.ext _)=>True
 | _=>False
section
variable {P:Program} {w:World} {H:Hp} {h h':Heap} {x e:Addr} {o':HO}
theorem HOk.write(ok:HOk P w H h)(mu:Mut (H x))(he:e=x∨H e=some (.own x))(k:∀b u,b≠e→h.get? b=some u→h'.get? b=some u)(heo:∃u,h'.get? e=some u)
 (new:ObjOk P w (upd H x o') h' x o'):HOk P w (upd H x o') h':=fun b u q=>by
 have nown:∀c y,H c=some (.own y)→c≠x:=fun c y r z=>by subst z;rw [r]at mu;exact mu
 have ntup:∀c xs,H c=some (.tup xs)→c≠x:=fun c xs r z=>by subst z;rw [r]at mu;exact mu
 by_cases hb:b=x
 · subst hb;rw [upd_same]at q;cases q;exact new
 · rw [upd_ne hb]at q
   by_cases hbe:b=e
   · have q':H b=some (.own x):=by
      rcases he with z | z
      · exact absurd (hbe.trans z) hb
      · rw [hbe];exact z
     rw [q]at q';cases q'
     obtain ⟨v,hv⟩:=heo
     exact ⟨v,by rw [hbe];exact hv⟩
   · refine (ok b u q).stay (fun c v hc r=>k c v ?_ r) (fun c r=>by rw [upd_ne (nown c b r)];exact r) fun c xs r=>by rw [upd_ne (ntup c xs r)];exact r
     rcases hc with rfl | hc
     · exact hbe
     · rintro rfl
       rcases he with z | z
       · exact nown c b hc z
       · rw [hc]at z;cases z;exact hb rfl
end
structure Un(fs ex:List Addr)(H H':Hp)(h h':Heap):Prop where
 keep:∀b o,h.get? b=some o→H b=none→b∉fs→b∉ex→h'.get? b=some o
 slot:∀b o,h.get? b=some o→H b=none→b∈fs→b∉ex→∃sl,h'.get? b=some {o with slots:=sl}
 free:∀b o,h.get? b=some o→H b=none→b∉ex→H' b=none
 there:∀b o,h.get? b=some o→b∉ex→∃o',h'.get? b=some o'
 tups:∀b xs,H b=some (.tup xs)→H' b=some (.tup xs)
 frzs:∀b o u,H b=some (.frz o u)→H' b=some (.frz o u)
 tbls:∀b ps,H b=some (.tbl ps)→∃more,H' b=some (.tbl (ps++more))
section
variable {fs fs' ex ex':List Addr} {H H1 H2:Hp} {h h1 h2 h':Heap} {a x e:Addr} {o:HO}
theorem Un.any(u:Un fs ex H H1 h h1){b:Addr}{ob:Obj}(q:h.get? b=some ob)(n:H b=none)(hx:b∉ex):∃sl,h1.get? b=some {ob with slots:=sl}:=by
 by_cases hb:b∈fs
 · exact u.slot b ob q n hb hx
 · exact ⟨ob.slots,u.keep b ob q n hb hx⟩
theorem Un.kept(k:∀b u,h.get? b=some u→h'.get? b=some u):Un fs ex H H h h':=
 ⟨fun b ob q _ _ _=>k b ob q,fun b ob q _ _ _=>⟨ob.slots,k b ob q⟩,fun _ _ _ n _=>n,fun b ob q _=>⟨ob,k b ob q⟩,fun _ _ q=>q,fun _ _ _ q=>q,fun _ ps q=>⟨#[],by rw [q];simp⟩⟩
theorem Un.refl:Un fs ex H H h h:=Un.kept fun _ _ q=>q
theorem Un.laid(k:∀b u,h.get? b=some u→h'.get? b=some u)(hp:h.objs.size≤a)(hn:H a=none):Un fs ex H (upd H a o) h h' where
 keep:=fun b u q _ _ _=>k b u q
 slot:=fun b u q _ _ _=>⟨u.slots,k b u q⟩
 free:=fun b u q n _=>by rw [upd_ne (Nat.ne_of_lt (Nat.lt_of_lt_of_le (Heap.lt_size q) hp))];exact n
 there:=fun b u q _=>⟨u,k b u q⟩
 tups:=fun b xs q=>by rw [upd_ne (ne_of_none q hn)];exact q
 frzs:=fun b u xs q=>by rw [upd_ne (ne_of_none q hn)];exact q
 tbls:=fun b ps q=>⟨#[],by rw [upd_ne (ne_of_none q hn),q];simp⟩
theorem Un.write(mu:Mut (H x))(he:e=x∨H e=some (.own x))(k:∀b u,b≠e→h.get? b=some u→h'.get? b=some u)(heo:∃u,h'.get? e=some u):Un fs ex H (upd H x o) h h':=by
 have hx:∀b,H b=none→b≠x:=fun b n z=>by subst z;rw [n]at mu;exact mu
 have hb:∀b,H b=none→b≠e:=fun b n z=>by
  subst z
  rcases he with r | r
  · exact hx b n r
  · rw [n]at r;cases r
 have hm:∀b u,H b=some u→¬Mut (some u)→b≠x:=fun b u q nm z=>by subst z;rw [q]at mu;exact nm mu
 refine ⟨fun b u q n _ _=>k b u (hb b n) q,fun b u q n _ _=>⟨u.slots,k b u (hb b n) q⟩,fun b u q n _=>by rw [upd_ne (hx b n)];exact n,fun b u q _=>?_,
  fun b xs q=>by rw [upd_ne (hm b _ q fun z=>z)];exact q,fun b u xs q=>by rw [upd_ne (hm b _ q fun z=>z)];exact q,fun b ps q=>⟨#[],by rw [upd_ne (hm b _ q fun z=>z),q];simp⟩⟩
 by_cases hbe:b=e
 · subst hbe;exact heo
 · exact ⟨u,k b u hbe q⟩
end
noncomputable def trk(h:Heap)(H:Hp):List Addr:=(List.range h.objs.size).filter fun a=>(H a).isSome
noncomputable def hidT(h:Heap)(H:Hp):Heap:=PySem.W.hideAll h (trk h H)
theorem hidT_size(h:Heap)(H:Hp):(hidT h H).objs.size=h.objs.size:=PySem.W.hideAll_size _ _
theorem hidT_get{h:Heap}{H:Hp}{b:Addr}{o:Obj}(e:h.get? b=some o)(n:H b=none):(hidT h H).get? b=some o:=
 PySem.W.hideAll_get _ e fun hm=>by
  have q:(H b).isSome=true:=(List.mem_filter.mp hm).2
  rw [n]at q;simp at q
theorem of_hidT{h:Heap}{H:Hp}{b:Addr}{o:Obj}(e:(hidT h H).get? b=some o):h.get? b=some o∧H b=none:=by
 have e':h.get? b=some o:=PySem.W.of_hideAll (trk h H) e
 refine ⟨e',?_⟩
 cases q:H b with
 | none=>rfl
 | some x=>
  have hm:b∈trk h H:=List.mem_filter.mpr ⟨List.mem_range.mpr (Heap.lt_size e'),by simp [q]⟩
  have z:(hidT h H).get? b=none:=PySem.W.hideAll_none (trk h H) hm
  rw [z]at e;cases e
noncomputable def allNews(g h:Heap)(L:Addr):List (Addr×Obj):=(List.range h.objs.size).filterMap fun a=>if a=L∨(g.get? a).isSome=true then none else (h.get? a).map fun o=>(a,o)
noncomputable def rest(g h:Heap)(L d:Addr):List (Addr×Obj):=(allNews g h L).filter fun p=>decide (p.1≠d)
end L2
namespace L2
structure Mod(K:PySem.W.Frag)(mg:Str→Option Value)(base:Heap):Prop where
 kin:K.In base
 glob:base.Ns mainGlobals mg
 blt:∃mb,base.Ns builtinsNs mb∧∀x:Str,x≠"__name__"→mb x=bootBuiltins x
 nolimit:base.NoLimit
structure Cx where
 prog:Program
 w:World
 K:PySem.W.Frag
 mg:Str→Option Value
 base:Heap
 A:Around
 N:List Str
 s₀:Shared
 H₀:Hp
 env:Env
 outer:List Env
 stack:List Env
 ex:List Addr
 fn:Str→Bool
 calm:Bool
 pn:List (Addr×Obj)
 xe:Value→Shared→Prop
noncomputable def frs(l:List Env):List Addr:=l.filterMap (·.frame)
noncomputable abbrev Cx.fs(X:Cx):List Addr:=frs X.outer
noncomputable def Vis(sc:Scope)(x:Str):Prop:=sc.names.lookup x=some .local∨sc.names.lookup x=some .cell∨sc.names.lookup x=some .free
noncomputable def Loc(sc:Scope)(x:Str):Prop:=sc.names.lookup x=some .local∨sc.names.lookup x=some .cell
noncomputable def Look(env:Env)(h:Heap)(m:Str→Option Value)(x:Str)(u:Value):Prop:=
 (env.kindOf x=some .local∧m x=some u)∨((env.kindOf x=some .cell∨env.kindOf x=some .free)∧∃c,env.cells.lookup x=some c∧h.IsCell c (some u))
structure Cx.Ok(X:Cx):Prop where
 mod:Mod X.K X.mg X.base
 kind:X.env.scope.kind= .function
 glob:X.env.globals=mainGlobals
 blt:X.env.builtins=builtinsNs
 above:X.s₀.heap.objs.size≤X.env.locals
 inj:∀x y c,X.env.cells.lookup x=some c→X.env.cells.lookup y=some c→x=y
 has:∀x,(X.env.kindOf x=some .cell∨X.env.kindOf x=some .free)→∃c,X.env.cells.lookup x=some c
 cab:∀x c,X.fn x=true→X.env.cells.lookup x=some c→X.s₀.heap.objs.size≤c
 hd:X.calm=true→X.A.handled=none
 frames:X.A.frames=some X.stack
 stk:X.stack=X.outer∨(X.stack=X.env::X.outer∧X.env.frame=some X.env.locals)
 exf:∀b∈X.ex,b≠X.env.locals∧∀x c,X.env.cells.lookup x=some c→c≠b
 bs:∀b o,X.base.get? b=some o→X.s₀.heap.get? b=some o∧X.H₀ b=none
 bsz:X.base.objs.size≤X.s₀.heap.objs.size
 noex:∀b o,X.base.get? b=some o→b∉X.ex
 exfs:∀b∈X.ex,b∉X.fs
 funs:X.s₀.heap.FunFrames X.base X.outer
 frf:∀b∈X.fs,X.H₀ b=none
structure Inv(X:Cx)(pins:List (Addr×Obj))(σ:List (Option V))(H:Hp)(s:Shared):Prop where
 ok:X.Ok
 os:s.os=X.s₀.os
 bare:AllBare s.gens
 base:Un X.fs X.ex X.H₀ H X.s₀.heap s.heap
 loc:∃m,s.heap.Ns X.env.locals m∧∀(i:Nat) (x:Str) (v:V),X.N[i]?=some x→σ[i]?=some (some v)→Vis X.env.scope x→∃u,RelV v u∧Look X.env s.heap m x u
 cell:∀x c,X.env.cells.lookup x=some c→∃v,s.heap.IsCell c v
 free:H X.env.locals=none
 freeC:∀x c,X.env.cells.lookup x=some c→H c=none
 pin:∀p∈X.pn++pins,s.heap.get? p.1=some p.2∧H p.1=none∧p.1≠X.env.locals∧p.1∉X.fs∧∀v,p.2.data≠ .cell v
 hok:HOk X.prog X.w H s.heap
 len:σ.length=X.N.length
section
variable {X:Cx} {pins:List (Addr×Obj)} {σ:List (Option V)} {H H':Hp} {s:Shared} {h':Heap}
theorem Cx.Ok.nofr(ok:X.Ok){b:Addr}{o:Obj}(e:X.base.get? b=some o):b∉X.fs:=fun hb=>by
 have:=(ok.funs.mem hb).1
 rw [e]at this;cases this
theorem Inv.bs(I:Inv X pins σ H s):∀b o,X.base.get? b=some o→s.heap.get? b=some o∧H b=none:=fun b o e=>
 ⟨I.base.keep b o (I.ok.bs b o e).1 (I.ok.bs b o e).2 (I.ok.nofr e) (I.ok.noex b o e),I.base.free b o (I.ok.bs b o e).1 (I.ok.bs b o e).2 (I.ok.noex b o e)⟩
theorem Inv.bk(I:Inv X pins σ H s):∀b o,X.base.get? b=some o→s.heap.get? b=some o:=fun b o e=>(I.bs b o e).1
theorem Inv.mod(I:Inv X pins σ H s):Mod X.K X.mg X.base:=I.ok.mod
theorem Inv.kIn(I:Inv X pins σ H s):X.K.In s.heap:=I.ok.mod.kin.keeps I.bk
theorem Inv.lt(I:Inv X pins σ H s):X.env.locals < s.heap.objs.size:=let ⟨_,hn,_⟩:=I.loc;hn.lt
theorem Inv.sz(I:Inv X pins σ H s):X.s₀.heap.objs.size≤s.heap.objs.size:=Nat.le_trans I.ok.above (Nat.le_of_lt I.lt)
theorem Inv.nofs(I:Inv X pins σ H s){a:Addr}(h:s.heap.objs.size≤a):a∉X.fs:=fun hb=>by
 obtain ⟨_,o,ho,_⟩:=I.ok.funs.mem hb
 exact absurd (Nat.lt_of_lt_of_le (Heap.lt_size ho) (Nat.le_trans I.sz h)) (Nat.lt_irrefl _)
theorem Inv.cne(I:Inv X pins σ H s):∀x c,X.env.cells.lookup x=some c→c≠X.env.locals:=fun x c e z=>by
 obtain ⟨v,o,ho,hd⟩:=I.cell x c e
 obtain ⟨m,⟨o',es,ep,ho',hd',_⟩,_⟩:=I.loc
 rw [z,ho']at ho;cases ho;rw [hd']at hd;cases hd
theorem Inv.funs(I:Inv X pins σ H s):s.heap.FunFrames X.base X.outer:=by
 have all:∀(l:List Env),(∀b∈frs l,b∈X.fs)→X.s₀.heap.FunFrames X.base l→s.heap.FunFrames X.base l:=by
  intro l
  induction l with
  | nil=>intro _ _;trivial
  | cons env r ih=>
   intro hs hl
   obtain ⟨hk,⟨L,o,hf,hn,ho,hd⟩,hr⟩:=hl
   have hL:L∈X.fs:=hs L (by unfold frs;rw [List.filterMap_cons,hf];exact List.mem_cons_self)
   obtain ⟨sl,e⟩:=I.base.slot L o ho (I.ok.frf L hL) hL fun z=>I.ok.exfs L z hL
   exact ⟨hk,⟨L,_,hf,hn,e,hd⟩,ih (fun b hb=>hs b (by unfold frs;rw [List.filterMap_cons,hf];exact List.mem_cons_of_mem _ hb)) hr⟩
 exact all X.outer (fun _ hb=>hb) I.ok.funs
theorem Inv.stack(I:Inv X pins σ H s):s.heap.FunFrames X.base X.stack:=by
 rcases I.ok.stk with e | ⟨e,hf⟩
 · rw [e];exact I.funs
 · rw [e]
   obtain ⟨m,hn,_⟩:=I.loc
   refine .cons (by rw [I.ok.kind];decide) hf hn ?_ I.funs
   exact Heap.get?_none_of_le (Nat.le_trans I.ok.bsz I.ok.above)
theorem Inv.stkSub(I:Inv X pins σ H s):∀b∈frs X.stack,b∈X.env.locals::X.fs:=fun b hb=>by
 rcases I.ok.stk with e | ⟨e,hf⟩
 · rw [e]at hb;exact List.mem_cons_of_mem _ hb
 · rw [e]at hb
   unfold frs at hb
   rw [List.filterMap_cons,hf]at hb
   exact hb
theorem Inv.stkFree(I:Inv X pins σ H s):∀b∈frs X.stack,H b=none:=fun b hb=>by
 rcases List.mem_cons.mp (I.stkSub b hb) with e | hb
 · rw [e];exact I.free
 · obtain ⟨_,o,ho,_⟩:=I.ok.funs.mem hb
   exact I.base.free b o ho (I.ok.frf b hb) fun z=>I.ok.exfs b z hb
theorem Inv.step{g':Array GenState}{t':Nat}{d':Drawn}{ch:List Addr}(I:Inv X pins σ H s)
 (hch:∀b∈ch,(b∈X.ex∨X.s₀.heap.objs.size≤b)∧b≠X.env.locals∧(∀x c,X.env.cells.lookup x=some c→c≠b)∧∀p∈X.pn++pins,p.1≠b)
 (keep:∀b o,b≠X.env.locals→b∉X.fs→b∉ch→s.heap.get? b=some o→H b=none→h'.get? b=some o)
 (slot:∀b o,b≠X.env.locals→b∈X.fs→b∉ch→s.heap.get? b=some o→H b=none→∃sl,h'.get? b=some {o with slots:=sl}) (free:∀b o,b∉ch→s.heap.get? b=some o→H b=none→H' b=none)
 (there:∀b o,b∉ch→s.heap.get? b=some o→∃o',h'.get? b=some o')
 (tups:∀b xs,H b=some (.tup xs)→H' b=some (.tup xs)) (frzs:∀b o u,H b=some (.frz o u)→H' b=some (.frz o u)) (tbls:∀b ps,H b=some (.tbl ps)→∃more,H' b=some (.tbl (ps++more)))
 (ns:∀m,s.heap.Ns X.env.locals m→h'.Ns X.env.locals m) (hok:HOk X.prog X.w H' h') (hg:AllBare g'):
 Inv X pins σ H' {s with heap:=h',gens:=g',drawn:=d',toks:=t'}:=by
 have neL:∀b o,X.s₀.heap.get? b=some o→b≠X.env.locals:=fun b o e=>Nat.ne_of_lt (Nat.lt_of_lt_of_le (Heap.lt_size e) I.ok.above)
 have neC:∀b o,X.s₀.heap.get? b=some o→b∉X.ex→b∉ch:=fun b o e hx hb=>by
  rcases (hch b hb).1 with z | z
  · exact hx z
  · exact absurd (Nat.lt_of_lt_of_le (Heap.lt_size e) z) (Nat.lt_irrefl _)
 have cellK:∀x c,X.env.cells.lookup x=some c→∀v,s.heap.IsCell c v→h'.IsCell c v:=fun x c e v ⟨o,ho,hd⟩=>by
  have nch:c∉ch:=fun z=>(hch c z).2.2.1 x c e rfl
  by_cases hc:c∈X.fs
  · obtain ⟨sl,q⟩:=slot c o (I.cne x c e) hc nch ho (I.freeC x c e)
    exact ⟨_,q,hd⟩
  · exact ⟨o,keep c o (I.cne x c e) hc nch ho (I.freeC x c e),hd⟩
 refine ⟨I.ok,I.os,hg,⟨fun b o e n hb hx=>?_,fun b o e n hb hx=>?_,fun b o e n hx=>?_,fun b o e hx=>?_,fun b xs e=>tups b xs (I.base.tups b xs e),fun b o xs e=>frzs b o xs (I.base.frzs b o xs e),fun b ps e=>?_⟩,?_,fun x c e=>?_,?_,fun x c e=>?_,fun p hp=>?_,hok,I.len⟩
 · exact keep b o (neL b o e) hb (neC b o e hx) (I.base.keep b o e n hb hx) (I.base.free b o e n hx)
 · obtain ⟨sl,e1⟩:=I.base.slot b o e n hb hx
   obtain ⟨sl',e2⟩:=slot b _ (neL b o e) hb (neC b o e hx) e1 (I.base.free b o e n hx)
   exact ⟨sl',e2⟩
 · obtain ⟨o',e1⟩:=I.base.there b o e hx
   exact free b o' (neC b o e hx) e1 (I.base.free b o e n hx)
 · obtain ⟨o',e1⟩:=I.base.there b o e hx
   exact there b o' (neC b o e hx) e1
 · obtain ⟨m1,e1⟩:=I.base.tbls b ps e
   obtain ⟨m2,e2⟩:=tbls b _ e1
   exact ⟨m1++m2,by rw [e2,Array.append_assoc]⟩
 · obtain ⟨m,hn,hl⟩:=I.loc
   refine ⟨m,ns m hn,fun i x v e1 e2 e3=>?_⟩
   obtain ⟨u,r,l⟩:=hl i x v e1 e2 e3
   refine ⟨u,r,?_⟩
   rcases l with l | ⟨k,c,e,z⟩
   · exact .inl l
   · exact .inr ⟨k,c,e,cellK x c e _ z⟩
 · obtain ⟨v,z⟩:=I.cell x c e
   exact ⟨v,cellK x c e v z⟩
 · obtain ⟨m,⟨o,_,_,ho,_⟩,_⟩:=I.loc
   exact free _ o (fun z=>(hch _ z).2.1 rfl) ho I.free
 · obtain ⟨v,o,ho,hd⟩:=I.cell x c e
   exact free c o (fun z=>(hch c z).2.2.1 x c e rfl) ho (I.freeC x c e)
 · obtain ⟨e,n,ne,nf,d⟩:=I.pin p hp
   have nch:p.1∉ch:=fun z=>(hch p.1 z).2.2.2 p hp rfl
   exact ⟨keep p.1 p.2 ne nf nch e n,free p.1 p.2 nch e n,ne,nf,d⟩
theorem Inv.un{t':Nat}(I:Inv X pins σ H s)(u:Un X.fs [] H H' s.heap h')(hok:HOk X.prog X.w H' h'):Inv X pins σ H' {s with heap:=h',toks:=t'}:=by
 obtain ⟨m,⟨o,es,ep,ho,r⟩,_⟩:=id I.loc
 obtain ⟨sl,hL⟩:=u.any ho I.free (by simp)
 exact I.step (g':=s.gens) (d':=s.drawn) (ch:=[]) (fun _ z=>nomatch z) (fun b o _ hb _ e n=>u.keep b o e n hb (by simp)) (fun b o _ hb _ e n=>u.slot b o e n hb (by simp)) (fun b o _ e n=>u.free b o e n (by simp)) (fun b o _ e=>u.there b o e (by simp)) u.tups u.frzs u.tbls (fun m' hm=>by
  obtain ⟨o',es',ep',ho',r'⟩:=hm
  rw [ho]at ho';cases ho'
  exact ⟨_,es',ep',hL,r'⟩) hok I.bare
theorem Inv.call{g':Array GenState}{t':Nat}{d':Drawn}{ch:List Addr}(I:Inv X pins σ H s)(u:Un (frs X.stack) ch H H' s.heap h')(hok:HOk X.prog X.w H' h')(hg:AllBare g')
 (hch:∀b∈ch,(b∈X.ex∨X.s₀.heap.objs.size≤b)∧b≠X.env.locals∧(∀x c,X.env.cells.lookup x=some c→c≠b)∧∀p∈X.pn++pins,p.1≠b):
 Inv X pins σ H' {s with heap:=h',gens:=g',drawn:=d',toks:=t'}:=by
 obtain ⟨m,⟨o,es,ep,ho,r⟩,_⟩:=id I.loc
 obtain ⟨sl,hL⟩:=u.any ho I.free fun z=>(hch _ z).2.1 rfl
 exact I.step (ch:=ch) hch (fun b o hL hb hc e n=>u.keep b o e n (fun z=>(List.mem_cons.mp (I.stkSub b z)).elim hL hb) hc) (fun b o _ _ hc e n=>u.any e n hc) (fun b o hc e n=>u.free b o e n hc) (fun b o hc e=>u.there b o e hc) u.tups u.frzs u.tbls (fun m' hm=>by
  obtain ⟨o',es',ep',ho',r'⟩:=hm
  rw [ho]at ho';cases ho'
  exact ⟨_,es',ep',hL,r'⟩) hok hg
theorem Inv.turned{t':Nat}{it:Addr}(I:Inv X pins σ H s)(k:∀b o,b≠it→s.heap.get? b=some o→h'.get? b=some o)(hn:H it=none)(hL:it≠X.env.locals)
 (h1:it∈X.ex∨X.s₀.heap.objs.size≤it) (h2:∀x c,X.env.cells.lookup x=some c→c≠it) (h3:∀p∈X.pn++pins,p.1≠it):Inv X pins σ H {s with heap:=h',toks:=t'}:=by
 have nit:∀b u,H b=some u→b≠it:=fun b u e z=>by rw [z,hn]at e;cases e
 refine I.step (g':=s.gens) (d':=s.drawn) (ch:=[it]) (fun b hb=>?_) (fun b o _ _ hc e _=>k b o (fun z=>hc (by simp [z])) e) (fun b o _ _ hc e _=>⟨o.slots,k b o (fun z=>hc (by simp [z])) e⟩) (fun _ _ _ _ n=>n)
  (fun b o hc e=>⟨o,k b o (fun z=>hc (by simp [z])) e⟩) (fun _ _ e=>e) (fun _ _ _ e=>e) (fun b ps e=>⟨#[],by rw [e];simp⟩) (fun m hm=>?_) (fun b u e=>?_) I.bare
 · have e:b=it:=by simpa using hb
   subst e
   exact ⟨h1,hL,h2,h3⟩
 · obtain ⟨o,es,ep,ho,r⟩:=hm
   exact ⟨o,es,ep,k _ o (Ne.symm hL) ho,r⟩
 · refine (I.hok b u e).stay (fun c v hc q=>k c v ?_ q) (fun _ q=>q) fun _ _ q=>q
   rcases hc with z | z
   · rw [z];exact nit b u e
   · exact nit c _ z
theorem Inv.tok(I:Inv X pins σ H s)(t:Nat):Inv X pins σ H {s with toks:=t}:=I.un (h':=s.heap) (t':=t) Un.refl I.hok
theorem Inv.kept{t':Nat}(I:Inv X pins σ H s)(k:∀b u,s.heap.get? b=some u→h'.get? b=some u):Inv X pins σ H {s with heap:=h',toks:=t'}:=I.un (Un.kept k) (I.hok.kept k)
theorem Inv.laid{a:Addr}{o:HO}{t':Nat}(I:Inv X pins σ H s)(k:∀b u,s.heap.get? b=some u→h'.get? b=some u)(hp:s.heap.objs.size≤a)(new:ObjOk X.prog X.w (upd H a o) h' a o):
 Inv X pins σ (upd H a o) {s with heap:=h',toks:=t'}:=I.un (Un.laid k hp (I.hok.fresh hp)) (I.hok.laid k hp new)
theorem Inv.write{x e:Addr}{o:HO}{t':Nat}(I:Inv X pins σ H s)(mu:Mut (H x))(he:e=x∨H e=some (.own x))(k:∀b u,b≠e→s.heap.get? b=some u→h'.get? b=some u)(heo:∃u,h'.get? e=some u)
 (new:ObjOk X.prog X.w (upd H x o) h' x o):Inv X pins σ (upd H x o) {s with heap:=h',toks:=t'}:=I.un (Un.write mu he k heo) (I.hok.write mu he k heo new)
theorem Inv.weak{σ':List (Option V)}(I:Inv X pins σ H s)(hl:σ'.length=σ.length)(w:∀(i:Nat) v,σ'[i]?=some (some v)→σ[i]?=some (some v)):Inv X pins σ' H s:=
 ⟨I.ok,I.os,I.bare,I.base,let ⟨m,hn,hl'⟩:=I.loc;⟨m,hn,fun i x v e1 e2 e3=>hl' i x v e1 (w i v e2) e3⟩,I.cell,I.free,I.freeC,I.pin,I.hok,hl.trans I.len⟩
theorem Inv.pins_of{pins':List (Addr×Obj)}(I:Inv X pins σ H s)(h:∀p∈pins',s.heap.get? p.1=some p.2∧H p.1=none∧p.1≠X.env.locals∧p.1∉X.fs∧∀v,p.2.data≠ .cell v):Inv X pins' σ H s:=
 ⟨I.ok,I.os,I.bare,I.base,I.loc,I.cell,I.free,I.freeC,fun p hp=>(List.mem_append.mp hp).elim (fun z=>I.pin p (List.mem_append_left _ z)) (h p),I.hok,I.len⟩
theorem nodup_ix{N:List Str}(hN:N.Nodup){i j:Nat}{x:Str}(a:N[i]?=some x)(b:N[j]?=some x):i=j:=by
 obtain ⟨h1,e1⟩:=List.getElem?_eq_some_iff.mp a
 obtain ⟨h2,e2⟩:=List.getElem?_eq_some_iff.mp b
 exact (List.getElem_inj hN).mp (e1.trans e2.symm)
theorem store_ok2{M:Model}{A:Around}{E:Value→Shared→Prop}{i:Nat}{x:Str}{v:V}{u:Value}{Q:Unit→Shared→Prop}(I:Inv X pins σ H s)(hN:X.N.Nodup)(hi:X.N[i]?=some x)(hx:Loc X.env.scope x)(r:RelV v u)
 (h:∀s',Inv X pins (σ.set i (some v)) H s'→(∃a,Heap.SameBut a s.heap s'.heap∧(a=X.env.locals∨X.env.cells.lookup x=some a))→Q () s') (hf:X.fn x=true∨X.env.scope.names.lookup x=some .local:=by first | exact .inl rfl | exact .inr rfl | assumption):wpAny M A (storeName X.env x u) Q E s:=by
 obtain ⟨m,hn,hl⟩:=id I.loc
 have hcls:(X.env.scope.kind== .class || (X.env.scope.kind== .module && X.env.locals !=X.env.globals))=false:=by rw [I.ok.kind];rfl
 have hiσ:i < σ.length:=by rw [I.len];exact (List.getElem?_eq_some_iff.mp hi).1
 have cne:=I.cne
 have tracked:∀{a:Addr} {h':Heap},(∃o,s.heap.get? a=some o∧H a=none)→Heap.SameBut a s.heap h'→HOk X.prog X.w H h':=fun {a h'} ha hs b ob e=>by
  obtain ⟨_,_,hfree⟩:=ha
  refine (I.hok b ob e).stay (fun c w' hc q=>(hs.2 c ?_).trans q) (fun _ q=>q) fun _ _ q=>q
  rintro rfl
  rcases hc with rfl | hc
  · rw [hfree]at e;cases e
  · rw [hfree]at hc;cases hc
 rcases hx with hk | hk
 · refine wpAny_storeName_local hk hn (fun h' hn' hs=>?_) hcls
   obtain ⟨oL,_,_,hoL,_⟩:=id hn
   refine h _ ⟨I.ok,I.os,I.bare,⟨fun b o e n hb hx=>?_,fun b o e n hb hx=>?_,I.base.free,fun b o e hx=>?_,I.base.tups,I.base.frzs,I.base.tbls⟩,⟨_,hn',fun j y v' e1 e2 e3=>?_⟩,fun y c e=>?_,I.free,I.freeC,fun p hp=>?_,tracked ⟨oL,hoL,I.free⟩ hs,by simpa using I.len⟩ ⟨_,hs,.inl rfl⟩
   · exact (hs.2 b (Nat.ne_of_lt (Nat.lt_of_lt_of_le (Heap.lt_size e) I.ok.above))).trans (I.base.keep b o e n hb hx)
   · obtain ⟨sl,e1⟩:=I.base.slot b o e n hb hx
     exact ⟨sl,(hs.2 b (Nat.ne_of_lt (Nat.lt_of_lt_of_le (Heap.lt_size e) I.ok.above))).trans e1⟩
   · obtain ⟨o',e1⟩:=I.base.there b o e hx
     exact ⟨o',(hs.2 b (Nat.ne_of_lt (Nat.lt_of_lt_of_le (Heap.lt_size e) I.ok.above))).trans e1⟩
   · by_cases hj:j=i
     · subst hj
       rw [hi]at e1;cases e1
       rw [List.getElem?_set_self hiσ]at e2
       cases e2
       exact ⟨u,r,.inl ⟨hk,by simp⟩⟩
     · rw [List.getElem?_set_ne (Ne.symm hj)]at e2
       obtain ⟨u',r',q⟩:=hl j y v' e1 e2 e3
       refine ⟨u',r',?_⟩
       rcases q with ⟨k,e⟩ | ⟨k,c,e,z⟩
       · refine .inl ⟨k,?_⟩
         have:y≠x:=fun e=>hj (nodup_ix hN e1 (e▸hi))
         simp [this,e]
       · exact .inr ⟨k,c,e,z.sameBut hs (cne y c e)⟩
   · obtain ⟨w',z⟩:=I.cell y c e
     exact ⟨w',z.sameBut hs (cne y c e)⟩
   · obtain ⟨e,n,ne,nf,d⟩:=I.pin p hp
     exact ⟨(hs.2 p.1 ne).trans e,n,ne,nf,d⟩
 · have hfn:X.fn x=true:=by
    rcases hf with z | z
    · exact z
    · rw [z]at hk;cases hk
   obtain ⟨c,hc⟩:=I.ok.has x (.inl hk)
   obtain ⟨w',z⟩:=I.cell x c hc
   refine wpAny_storeName_cell I.ok.kind hk hc z (fun h' hc' hs=>?_)
   obtain ⟨oc,hoc,hocd⟩:=id z
   refine h {s with heap:=h'} ⟨I.ok,I.os,I.bare,⟨fun b o e n hb hx=>?_,fun b o e n hb hx=>?_,I.base.free,fun b o e hx=>?_,I.base.tups,I.base.frzs,I.base.tbls⟩,⟨m,hn.sameBut hs (Ne.symm (cne x c hc)),fun j y v' e1 e2 e3=>?_⟩,fun y c' e=>?_,I.free,I.freeC,fun p hp=>?_,tracked ⟨oc,hoc,I.freeC x c hc⟩ hs,by simpa using I.len⟩ ⟨c,hs,.inr hc⟩
   · exact (hs.2 b (Nat.ne_of_lt (Nat.lt_of_lt_of_le (Heap.lt_size e) (I.ok.cab x c hfn hc)))).trans (I.base.keep b o e n hb hx)
   · obtain ⟨sl,e1⟩:=I.base.slot b o e n hb hx
     exact ⟨sl,(hs.2 b (Nat.ne_of_lt (Nat.lt_of_lt_of_le (Heap.lt_size e) (I.ok.cab x c hfn hc)))).trans e1⟩
   · obtain ⟨o',e1⟩:=I.base.there b o e hx
     exact ⟨o',(hs.2 b (Nat.ne_of_lt (Nat.lt_of_lt_of_le (Heap.lt_size e) (I.ok.cab x c hfn hc)))).trans e1⟩
   · by_cases hj:j=i
     · subst hj
       rw [hi]at e1;cases e1
       rw [List.getElem?_set_self hiσ]at e2
       cases e2
       exact ⟨u,r,.inr ⟨.inl hk,c,hc,hc'⟩⟩
     · rw [List.getElem?_set_ne (Ne.symm hj)]at e2
       obtain ⟨u',r',q⟩:=hl j y v' e1 e2 e3
       refine ⟨u',r',?_⟩
       rcases q with q | ⟨k,c',e,z'⟩
       · exact .inl q
       · refine .inr ⟨k,c',e,z'.sameBut hs ?_⟩
         rintro rfl
         exact hj (nodup_ix hN e1 (I.ok.inj _ _ _ e hc▸hi))
   · by_cases hcc:c'=c
     · subst hcc;exact ⟨_,hc'⟩
     · obtain ⟨w2,z2⟩:=I.cell y c' e
       exact ⟨w2,z2.sameBut hs hcc⟩
   · obtain ⟨e,n,ne,nf,d⟩:=I.pin p hp
     refine ⟨(hs.2 p.1 ?_).trans e,n,ne,nf,d⟩
     intro q
     rw [q,hoc]at e
     have q':oc=p.2:=Option.some.inj e
     exact d w' (by rw [← q'];exact hocd)
theorem store_ok{M:Model}{A:Around}{E:Value→Shared→Prop}{i:Nat}{x:Str}{v:V}{u:Value}{Q:Unit→Shared→Prop}(I:Inv X pins σ H s)(hN:X.N.Nodup)(hi:X.N[i]?=some x)(hx:Loc X.env.scope x)(r:RelV v u)
 (h:∀s',Inv X pins (σ.set i (some v)) H s'→Q () s') (hf:X.fn x=true∨X.env.scope.names.lookup x=some .local:=by first | exact .inl rfl | exact .inr rfl | assumption):wpAny M A (storeName X.env x u) Q E s:=
 store_ok2 I hN hi hx r (fun s' I' _=>h s' I') hf
theorem Inv.call'{s':Shared}{ch:List Addr}(I:Inv X pins σ H s)(ho:s'.os=s.os)(u:Un (frs X.stack) ch H H' s.heap s'.heap)(hok:HOk X.prog X.w H' s'.heap)(hg:AllBare s'.gens)
 (hch:∀b∈ch,(b∈X.ex∨X.s₀.heap.objs.size≤b)∧b≠X.env.locals∧(∀x c,X.env.cells.lookup x=some c→c≠b)∧∀p∈X.pn++pins,p.1≠b):Inv X pins σ H' s':=by
 obtain ⟨h',g',d',t',o'⟩:=s'
 have e:o'=s.os:=ho
 subst e
 exact I.call (g':=g') (t':=t') (d':=d') u hok hg hch
end
noncomputable abbrev XK:=Value→Option Addr→Hp→Prop
noncomputable abbrev St:=List (Option V)
noncomputable abbrev VK:=V→Hp→Prop
noncomputable abbrev TE:=St→Hp→VK→Prop
noncomputable abbrev TT:=St→Hp→(Bool→Hp→Prop)→Prop
noncomputable abbrev TA:=St→Hp→(List V→Hp→Prop)→Prop
structure Ends where
 nx:St→Hp→Prop
 rt:VK
 bk:St→Hp→Prop:=fun _ _=>False
 ct:St→Hp→Prop:=fun _ _=>False
noncomputable abbrev TS:=Ends→St→Hp→Prop
noncomputable def EP(X:Cx)(pins:List (Addr×Obj))(σ:St)(Q:VK)(u:Value)(s':Shared):Prop:=∃v H',Inv X pins σ H' s'∧RelV v u∧Q v H'
noncomputable def TP(X:Cx)(pins:List (Addr×Obj))(σ:St)(Q:Bool→Hp→Prop)(b:Bool)(s':Shared):Prop:=∃H',Inv X pins σ H' s'∧Q b H'
noncomputable def AP(X:Cx)(pins:List (Addr×Obj))(σ:St)(Q:List V→Hp→Prop)(us:List Value)(s':Shared):Prop:=∃vs H',Inv X pins σ H' s'∧Vals vs us∧Q vs H'
noncomputable def SP(X:Cx)(pins:List (Addr×Obj))(D:Ends)(f:Flow)(s':Shared):Prop:=
 match f with
 | .next=>∃σ' H',Inv X pins σ' H' s'∧D.nx σ' H'
 | .brk=>∃σ' H',Inv X pins σ' H' s'∧D.bk σ' H'
 | .cont=>∃σ' H',Inv X pins σ' H' s'∧D.ct σ' H'
 | .ret u=>∃v σ' H',Inv X pins σ' H' s'∧RelV v u∧D.rt v H'
noncomputable def PE(X:Cx)(e:Expr)(t:TE):Prop:=
 ∀(pins:List (Addr×Obj)) (s:Shared) (σ:St) (H:Hp) (Q:VK),Inv X pins σ H s→t σ H Q→wpAny (model X.prog X.w) X.A (eval e X.env) (EP X pins σ Q) X.xe s
noncomputable def PT(X:Cx)(e:Expr)(t:TT):Prop:=
 ∀(pins:List (Addr×Obj)) (s:Shared) (σ:St) (H:Hp) (Q:Bool→Hp→Prop),Inv X pins σ H s→t σ H Q→wpAny (model X.prog X.w) X.A (isTrue e X.env (eval e X.env)) (TP X pins σ Q) X.xe s
noncomputable def PW(X:Cx)(e:Expr)(t:TT):Prop:=
 ∀(whole:Sem Value) (pins:List (Addr×Obj)) (s:Shared) (σ:St) (H:Hp) (Q:Bool→Hp→Prop),Inv X pins σ H s→t σ H Q→wpAny (model X.prog X.w) X.A (isTrue e X.env whole) (TP X pins σ Q) X.xe s
theorem PW.pt{X:Cx}{e:Expr}{t:TT}(h:PW X e t):PT X e t:=h _
noncomputable def PA(X:Cx)(es:List Expr)(t:TA):Prop:=
 ∀(pos:Pos) (pins:List (Addr×Obj)) (s:Shared) (σ:St) (H:Hp) (Q:List V→Hp→Prop),Inv X pins σ H s→t σ H Q→wpAny (model X.prog X.w) X.A (spliced (backTo pos (starEach es X.env))) (AP X pins σ Q) X.xe s
noncomputable def PS(X:Cx)(st:Stmt)(t:TS):Prop:=
 ∀(pins:List (Addr×Obj)) (s:Shared) (σ:St) (H:Hp) (D:Ends),Inv X pins σ H s→t D σ H→wpAny (model X.prog X.w) X.A (exec st X.env) (SP X pins D) X.xe s
noncomputable def PSs(X:Cx)(st:List Stmt)(t:TS):Prop:=
 ∀(pins:List (Addr×Obj)) (s:Shared) (σ:St) (H:Hp) (D:Ends),Inv X pins σ H s→t D σ H→wpAny (model X.prog X.w) X.A (execs st X.env) (SP X pins D) X.xe s
theorem thn{α:Type}{t:Sem α}{Q Q':α→Shared→Prop}{M:Model}{A:Around}{E:Value→Shared→Prop}{s:Shared}(h:wpAny M A t Q E s)(hQ:∀a s,Q a s→Q' a s):wpAny M A t Q' E s:=wpAny_mono h hQ fun _ _ x=>x
end L2
namespace L2
section
variable {X:Cx}
noncomputable def tVar(i:Nat):TE:=fun σ H Q=>∃v,σ[i]?=some (some v)∧Q v H
noncomputable def tC(v:V):TE:=fun _ H Q=>Q v H
theorem pe_var{i:Nat}{x:Str}{pos:Pos}(hN:X.N[i]?=some x)(hv:Vis X.env.scope x)(hd:(x==("__debug__":Str))=false:=by decide)(hcd:(x==("__classdict__":Str))=false:=by decide):PE X (.Name x pos) (tVar i):=by
 intro pins s σ H Q I h
 obtain ⟨v,e,h⟩:=h
 obtain ⟨m,hn,hl⟩:=I.loc
 obtain ⟨u,r,l⟩:=hl i x v hN e hv
 have fin:EP X pins σ Q u s:=⟨v,H,I,r,h⟩
 rcases l with ⟨hk,hm⟩ | ⟨hk,c,hc,hcell⟩
 · exact wpAny_Name (wpAny_loadName_local I.ok.kind hk hn hm fin) hd
 · rcases hk with hk | hk
   · exact wpAny_Name (wpAny_loadName_cell I.ok.kind hk hc hcell fin) hd
   · exact wpAny_Name (wpAny_loadName_free I.ok.kind hk hc hcell fin hcd) hd
theorem pe_int{i j pos}:PE X (.Constant (.int i) j pos) (tC (.int i)):=fun _ _ _ H _ I h=>wpAny_Constant_int ⟨.int i,H,I.tok _,⟨_,rfl⟩,h⟩
theorem pe_bl{b j pos}:PE X (.Constant (.bool b) j pos) (tC (.bl b)):=fun _ _ _ H _ I h=>Constant_bool ⟨.bl b,H,I,rfl,h⟩
theorem pe_non{j pos}:PE X (.Constant .none j pos) (tC .non):=fun _ _ _ H _ I h=>Constant_none ⟨.non,H,I,rfl,h⟩
theorem pe_str{x j pos}:PE X (.Constant (.str x) j pos) (tC (.str x)):=fun _ _ _ H _ I h=>Calls.Constant_str ⟨.str x,H,I.tok _,⟨_,rfl⟩,h⟩
noncomputable def Gl(X:Cx)(x:Str):Prop:=X.env.kindOf x=some .globalImplicit
theorem ld_glob{E:Value→Shared→Prop}{pins:List (Addr×Obj)}{s:Shared}{σ:St}{H:Hp}{x:Str}{u:Value}{pos:Pos}{Q:Value→Shared→Prop}(I:Inv X pins σ H s)(hg:Gl X x)(hm:X.mg x=some u)(h:Q u s)
 (hd:(x==("__debug__":Str))=false:=by decide):wpAny (model X.prog X.w) X.A (eval (.Name x pos) X.env) Q E s:=
 Calls.Name_function_global I.ok.kind hg (Calls.loadGlobal_global (by rw [I.ok.glob];exact I.mod.glob.keeps I.bk) hm h) hd
theorem ld_blt{E:Value→Shared→Prop}{pins:List (Addr×Obj)}{s:Shared}{σ:St}{H:Hp}{x:Str}{u:Value}{pos:Pos}{Q:Value→Shared→Prop}(I:Inv X pins σ H s)(hg:Gl X x)(hm:X.mg x=none)(hv:bootBuiltins x=some u)(h:Q u s)
 (hn:x≠"__name__":=by decide) (hd:(x==("__debug__":Str))=false:=by decide):wpAny (model X.prog X.w) X.A (eval (.Name x pos) X.env) Q E s:=by
 obtain ⟨mb,h1,h2⟩:=I.mod.blt
 exact Calls.Name_function_global I.ok.kind hg (Calls.loadGlobal_builtin (by rw [I.ok.glob];exact I.mod.glob.keeps I.bk) hm (by rw [I.ok.blt];exact h1.keeps I.bk) ((h2 x hn).trans hv) h) hd
theorem pe_glob{x:Str}{v:V}{u:Value}{pos:Pos}(hg:Gl X x)(hm:X.mg x=some u)(r:RelV v u)(hd:(x==("__debug__":Str))=false:=by decide):PE X (.Name x pos) (tC v):=
 fun _ _ _ H _ I h=>ld_glob I hg hm ⟨v,H,I,r,h⟩ hd
theorem pe_bltn{x:Str}{v:V}{u:Value}{pos:Pos}(hg:Gl X x)(hm:X.mg x=none)(hv:bootBuiltins x=some u)(r:RelV v u)(hn:x≠"__name__":=by decide)(hd:(x==("__debug__":Str))=false:=by decide):PE X (.Name x pos) (tC v):=
 fun _ _ _ H _ I h=>ld_blt I hg hm hv ⟨v,H,I,r,h⟩ hn hd
variable {a b:Expr} {ta tb:TE} {pos:Pos}
noncomputable def PC(X:Cx)(op:CmpOp)(a b:Expr)(t:TE):Prop:=
 ∀(pins:List (Addr×Obj)) (s:Shared) (σ:St) (H:Hp) (Q:VK),Inv X pins σ H s→t σ H Q→
   wpAny (model X.prog X.w) X.A (eval a X.env) (fun v s₁=>wpAny (model X.prog X.w) X.A (eval b X.env) (fun u s₂=>wpAny (model X.prog X.w) X.A (compareOp op v u) (EP X pins σ Q) X.xe s₂) X.xe s₁) X.xe s
theorem nobehind(b:Expr){op:CmpOp}(h:op≠ .In)(h2:op≠ .NotIn):behindInMarks op b=false:=by
 have e1:(op==CmpOp.In)=false:=by cases op <;> first | rfl | exact absurd rfl h
 have e2:(op==CmpOp.NotIn)=false:=by cases op <;> first | rfl | exact absurd rfl h2
 cases b <;> simp [behindInMarks,e1,e2]
noncomputable def tB(t:TE):TT:=fun σ H Q=>t σ H fun x H1=>∃c,x= .bl c∧Q c H1
theorem pe_cmp{op:CmpOp}{t:TE}(h:PC X op a b t)(h1:behindInMarks op b=false:=by first | exact nobehind _ (by decide) (by decide) | rfl):PE X (.Compare a [op] [b] pos) t:=fun pins s σ H Q I hw=>wpAny_Compare1 (h pins s σ H Q I hw) h1
theorem pt_cmp{op:CmpOp}{t:TE}(h:PC X op a b t)(h1:behindInMarks op b=false:=by first | exact nobehind _ (by decide) (by decide) | rfl):PT X (.Compare a [op] [b] pos) (tB t):=by
 intro pins s σ H Q I hw
 refine wpAny_isTrue_Compare1 (thn (h pins s σ H _ I hw) fun v s1 h1=>thn h1 fun u s2 h2=>thn h2 fun c s3 hq_=>?_) h1
 obtain ⟨x,H1,I1,r1,q1⟩:=hq_
 obtain ⟨d,rfl,q⟩:=q1
 cases r1
 exact wpAny_truthy_bool ⟨H1,I1,q⟩
theorem pt_val{e:Expr}{t:TE}(h:PE X e t)(he:∀whole,isTrue e X.env whole=(do let v ← whole;standAt e.pos;holding [v] (truthy v)):=by intro _;rfl):PT X e (tB t):=by
 intro pins s σ H Q I hw
 refine isTrue_plain (thn (h pins s σ H _ I hw) fun v s1 hq_=>?_) (he _)
 obtain ⟨x,H1,I1,r1,q1⟩:=hq_
 obtain ⟨d,rfl,q⟩:=q1
 cases r1
 exact wpAny_truthy_bool ⟨H1,I1,q⟩
variable {tA tB':TT} {rest:List Expr}
noncomputable def tAnd(t u:TT):TT:=fun σ H Q=>t σ H fun c H1=>if c=true then u σ H1 Q else Q false H1
noncomputable def tOr(t u:TT):TT:=fun σ H Q=>t σ H fun c H1=>if c=true then Q true H1 else u σ H1 Q
noncomputable def tNot(t:TT):TT:=fun σ H Q=>t σ H fun c H1=>Q (!c) H1
theorem pw_and1(ha:PT X a tA):PW X (.BoolOp .And [a] pos) tA:=by
 intro wh pins s σ H Q I h
 refine isTrue_and (thn (ha pins s σ H Q I h) fun c s1 e=>?_)
 cases c with
 | true=>exact isTrue_and_nil e
 | false=>exact e
theorem pw_or1(ha:PT X a tA):PW X (.BoolOp .Or [a] pos) tA:=by
 intro wh pins s σ H Q I h
 refine isTrue_or (thn (ha pins s σ H Q I h) fun c s1 e=>?_)
 cases c with
 | false=>exact isTrue_or_nil e
 | true=>exact e
theorem pw_and(ha:PT X a tA)(hb:PW X (.BoolOp .And (b::rest) pos) tB'):PW X (.BoolOp .And (a::b::rest) pos) (tAnd tA tB'):=by
 intro wh pins s σ H Q I h
 refine isTrue_and (thn (ha pins s σ H _ I h) fun c s1 ⟨H1,I1,q1⟩=>?_)
 cases c with
 | true=>exact hb wh pins s1 σ H1 Q I1 q1
 | false=>exact ⟨H1,I1,q1⟩
theorem pw_or(ha:PT X a tA)(hb:PW X (.BoolOp .Or (b::rest) pos) tB'):PW X (.BoolOp .Or (a::b::rest) pos) (tOr tA tB'):=by
 intro wh pins s σ H Q I h
 refine isTrue_or (thn (ha pins s σ H _ I h) fun c s1 ⟨H1,I1,q1⟩=>?_)
 cases c with
 | true=>exact ⟨H1,I1,q1⟩
 | false=>exact hb wh pins s1 σ H1 Q I1 q1
theorem pt_not(ha:PT X a tA):PT X (.UnaryOp .Not a pos) (tNot tA):=by
 intro pins s σ H Q I h
 exact isTrue_not (ha pins s σ H (fun c H1=>Q (!c) H1) I h)
noncomputable def tAndV(ta tb:TE):TE:=fun σ H Q=>ta σ H fun x H1=>∃c,x= .bl c∧if c=true then tb σ H1 Q else Q (.bl false) H1
noncomputable def tOrV(ta tb:TE):TE:=fun σ H Q=>ta σ H fun x H1=>∃c,x= .bl c∧if c=true then Q (.bl true) H1 else tb σ H1 Q
noncomputable def tNotV(ta:TE):TE:=fun σ H Q=>ta σ H fun x H1=>∃c,x= .bl c∧Q (.bl (!c)) H1
theorem pe_one{op}{t:TE}(h:PE X a t):PE X (.BoolOp op [a] pos) t:=fun pins s σ H Q I hw=>BoolOp_one (h pins s σ H Q I hw)
theorem pe_and(ha:PE X a ta)(hb:PE X (.BoolOp .And (b::rest) pos) tb):PE X (.BoolOp .And (a::b::rest) pos) (tAndV ta tb):=by
 intro pins s σ H Q I h
 refine BoolOp_and (thn (ha pins s σ H _ I h) fun v s1 hq_=>?_)
 obtain ⟨x,H1,I1,r1,q1⟩:=hq_
 obtain ⟨c,rfl,q1⟩:=q1
 cases r1
 refine wpAny_truthy_bool ?_
 cases c with
 | true=>exact hb pins s1 σ H1 Q I1 q1
 | false=>exact ⟨.bl false,H1,I1,rfl,q1⟩
theorem pe_not(ha:PE X a ta):PE X (.UnaryOp .Not a pos) (tNotV ta):=by
 intro pins s σ H Q I h
 refine UnaryOp_ (thn (ha pins s σ H _ I h) fun v s1 hq_=>?_)
 obtain ⟨x,H1,I1,r1,q1⟩:=hq_
 obtain ⟨c,rfl,q1⟩:=q1
 cases r1
 exact not_of (wpAny_truthy_bool ⟨.bl (!c),H1,I1,rfl,q1⟩)
noncomputable def tIf(t:TT)(ta tb:TE):TE:=fun σ H Q=>t σ H fun c H1=>if c=true then ta σ H1 Q else tb σ H1 Q
end
end L2
namespace L2
noncomputable def SqL(K:PySem.W.Frag)(H:Hp)(a:Addr)(xs:List V):Prop:=
 Rd H a (.lst xs)∨
  ∃(o:Obj) (its:Array Value) (n:Nat),K.lookup a=some o∧o.cls= .type "list"∧o.dict=none∧o.data= .seq its n∧its.size≤sizeLine∧Vals xs its.toList
noncomputable def SqT(K:PySem.W.Frag)(H:Hp)(a:Addr)(xs:List V):Prop:=
 Rd H a (.tup xs)∨
  ∃(o:Obj) (its:Array Value) (n:Nat),K.lookup a=some o∧o.cls= .type "tuple"∧o.data= .seq its n∧its.size≤sizeLine∧Vals xs its.toList
noncomputable def absV:Value→Option V
 | .none=>some .non
 | .bool b=>some (.bl b)
 | .int i _=>some (.int i)
 | .str x _=>some (.str x)
 | .bytes b _=>some (.byt b)
 | .float b _=>some (.flt b)
 | .ref a=>some (.ref a)
 | .type n=>some (.ty n)
 | _=>none
theorem RelV.abs{x:V}{u:Value}(r:RelV x u):absV u=some x:=by
 cases x with
 | non=>cases r;rfl
 | bl _=>cases r;rfl
 | int _=>obtain ⟨t,rfl⟩:=r;rfl
 | str _=>obtain ⟨t,rfl⟩:=r;rfl
 | byt _=>obtain ⟨t,rfl⟩:=r;rfl
 | flt _=>obtain ⟨t,rfl⟩:=r;rfl
 | ref _=>cases r;rfl
 | ty _=>cases r;rfl
theorem RelV.inj{x y:V}{u:Value}(r:RelV x u)(q:RelV y u):x=y:=Option.some.inj (r.abs.symm.trans q.abs)
theorem Vals.inj:∀{xs ys:List V} {us:List Value},Vals xs us→Vals ys us→xs=ys
 | _,_,_,.nil,.nil=>rfl
 | _,_,_,.cons r t,.cons r' t'=>by rw [r.inj r',Vals.inj t t']
section
variable {X:Cx} {pins:List (Addr×Obj)} {σ:St} {H:Hp} {s:Shared} {a:Addr} {xs ys:List V}
theorem SqL.of{K:PySem.W.Frag}(h:H a=some (.lst xs)):SqL K H a xs:= .inl (.inl h)
theorem SqT.of{K:PySem.W.Frag}(h:H a=some (.tup xs)):SqT K H a xs:= .inl (.inl h)
theorem Inv.list(I:Inv X pins σ H s)(h:SqL X.K H a xs):∃its:List Value,Vals xs its∧PlainL s.heap a its.toArray∧xs.length≤sizeLine:=by
 rcases h with h | ⟨o,its,n,hk,hc,hd,hs,hz,r⟩
 · obtain ⟨z,its,n,r,e⟩:=h.ok I.hok
   exact ⟨its,r,⟨_,n,e,rfl,rfl,rfl⟩,z⟩
 · refine ⟨its.toList,r,⟨o,n,I.kIn a o hk,hc,hd,by simpa using hs⟩,?_⟩
   have e:=r.length
   simp only [Array.length_toList]at e
   omega
theorem Inv.tuple(I:Inv X pins σ H s)(h:SqT X.K H a xs):∃its:List Value,Vals xs its∧IsTup s.heap a its.toArray∧xs.length≤sizeLine:=by
 rcases h with h | ⟨o,its,n,hk,hc,hs,hz,r⟩
 · obtain ⟨z,its,r,p⟩:=h.ok I.hok
   exact ⟨its,r,p,z⟩
 · refine ⟨its.toList,r,⟨o,I.kIn a o hk,hc,n,by simpa using hs⟩,?_⟩
   have e:=r.length
   simp only [Array.length_toList]at e
   omega
theorem Inv.list_inj(I:Inv X pins σ H s)(h:SqL X.K H a xs)(h':SqL X.K H a ys):xs=ys:=by
 obtain ⟨its,r,⟨o,n,e,_,_,d⟩,_⟩:=I.list h
 obtain ⟨its',r',⟨o',n',e',_,_,d'⟩,_⟩:=I.list h'
 rw [e]at e';cases e'
 rw [d]at d'
 injection d' with d1 _
 have:its=its':=by simpa using congrArg Array.toList d1
 subst this
 exact r.inj r'
end
noncomputable abbrev Cx.wish(X:Cx)(E:Value→Shared→Prop):Cx:={X with xe:=E}
noncomputable abbrev Cx.nox(X:Cx):Cx:=X.wish fun _ _=>False
theorem Cx.Ok.wish{X:Cx}(ok:X.Ok)(E:Value→Shared→Prop):(X.wish E).Ok:=
 ⟨ok.mod,ok.kind,ok.glob,ok.blt,ok.above,ok.inj,ok.has,ok.cab,ok.hd,ok.frames,ok.stk,ok.exf,ok.bs,ok.bsz,ok.noex,ok.exfs,ok.funs,ok.frf⟩
theorem Cx.Ok.unwish{X:Cx}{E:Value→Shared→Prop}(ok:(X.wish E).Ok):X.Ok:=
 ⟨ok.mod,ok.kind,ok.glob,ok.blt,ok.above,ok.inj,ok.has,ok.cab,ok.hd,ok.frames,ok.stk,ok.exf,ok.bs,ok.bsz,ok.noex,ok.exfs,ok.funs,ok.frf⟩
section
variable {X:Cx} {pins:List (Addr×Obj)} {σ:St} {H:Hp} {s:Shared} {E:Value→Shared→Prop}
theorem Inv.wish(I:Inv X pins σ H s)(E:Value→Shared→Prop):Inv (X.wish E) pins σ H s:=⟨I.ok.wish E,I.os,I.bare,I.base,I.loc,I.cell,I.free,I.freeC,I.pin,I.hok,I.len⟩
theorem Inv.unwish(I:Inv (X.wish E) pins σ H s):Inv X pins σ H s:=⟨I.ok.unwish,I.os,I.bare,I.base,I.loc,I.cell,I.free,I.freeC,I.pin,I.hok,I.len⟩
theorem SP.unwish{D:Ends}{f:Flow}{s':Shared}(h:SP (X.wish E) pins D f s'):SP X pins D f s':=by
 cases f with
 | next=>obtain ⟨σ',H',I,q⟩:=h;exact ⟨σ',H',I.unwish,q⟩
 | brk=>obtain ⟨σ',H',I,q⟩:=h;exact ⟨σ',H',I.unwish,q⟩
 | cont=>obtain ⟨σ',H',I,q⟩:=h;exact ⟨σ',H',I.unwish,q⟩
 | ret u=>obtain ⟨v,σ',H',I,r,q⟩:=h;exact ⟨v,σ',H',I.unwish,r,q⟩
theorem PSs.nox{st:List Stmt}{t:TS}(h:PSs X.nox st t):PSs X st t:=fun pins s σ H D I hw=>
 wpAny_mono (h pins s σ H D (I.wish _) hw) (fun _ _ q=>q.unwish) fun _ _ z=>False.elim z
end
section
variable {X:Cx} {st:Stmt} {rest:List Stmt} {t u:TS} {e:Expr} {te:TE} {pos:Pos}
noncomputable def tNext:TS:=fun D σ H=>D.nx σ H
noncomputable def tSeq(t u:TS):TS:=fun D σ H=>t {D with nx:=u D} σ H
theorem pss_nil:PSs X [] tNext:=fun _ _ σ H _ I h=>wpAny_execs_nil ⟨σ,H,I,h⟩
theorem pss_cons(h1:PS X st t)(h2:PSs X rest u):PSs X (st::rest) (tSeq t u):=by
 intro pins s σ H D I h
 refine wpAny_execs_cons (thn (h1 pins s σ H {D with nx:=u D} I h) fun f s1 q=>?_)
 cases f with
 | next=>
  obtain ⟨σ',H',I',q⟩:=q
  exact h2 pins s1 σ' H' D I' q
 | ret v=>exact q
 | brk=>exact q
 | cont=>exact q
theorem pss_one(h1:PS X st t):PSs X [st] t:=by
 intro pins s σ H D I h
 refine wpAny_execs_cons (thn (h1 pins s σ H D I h) fun f s1 q=>?_)
 cases f with
 | next=>exact wpAny_execs_nil q
 | ret v=>exact q
 | brk=>exact q
 | cont=>exact q
noncomputable def tBreak:TS:=fun D σ H=>D.bk σ H
noncomputable def tCont:TS:=fun D σ H=>D.ct σ H
theorem ps_pass:PS X (.Pass pos) tNext:=fun _ _ σ H _ I h=>wpAny_Pass ⟨σ,H,I,h⟩
theorem Inv.quiet{pins:List (Addr×Obj)}{σ:St}{H:Hp}{s:Shared}(I:Inv X pins σ H s):interactive X.env=false:=by simp [interactive,I.ok.kind]
noncomputable def tDrop(te:TE):TS:=fun D σ H=>te σ H fun _ H1=>D.nx σ H1
theorem ps_expr(he:PE X e te)(hs:swapsWith e none pos.line X.env=pure false:=by rfl):PS X (.Expr e pos) (tDrop te):=by
 intro pins s σ H D I h
 exact wpAny_Expr_any (thn (he pins s σ H _ I h) fun v s1 ⟨x,H1,I1,r1,q1⟩=>⟨σ,H1,I1,q1⟩) I.quiet hs
noncomputable def tRet(te:TE):TS:=fun D σ H=>te σ H D.rt
theorem ps_ret(he:PE X e te):PS X (.Return (some e) pos) (tRet te):=by
 intro pins s σ H D I h
 exact wpAny_Return_some (thn (he pins s σ H _ I h) fun v s1 ⟨x,H1,I1,r1,q1⟩=>⟨x,σ,H1,I1,r1,q1⟩)
noncomputable def tRetN:TS:=fun D _ H=>D.rt .non H
noncomputable def tIfS(c:TT)(t u:TS):TS:=fun D σ H=>c σ H fun b H1=>if b=true then t D σ H1 else u D σ H1
theorem ps_if{c:Expr}{a b:List Stmt}{tc:TT}(hc:PT X c tc)(ha:PSs X a t)(hb:PSs X b u):PS X (.If c a b pos) (tIfS tc t u):=by
 intro pins s σ H D I h
 refine wpAny_If (thn (hc pins s σ H _ I h) fun d s1 ⟨H1,I1,q1⟩=>?_)
 cases d with
 | true=>exact ha pins s1 σ H1 D I1 q1
 | false=>exact hb pins s1 σ H1 D I1 q1
noncomputable def tNever:TS:=fun _ _ _=>False
theorem ps_never:PS X st tNever:=fun _ _ _ _ _ _ h=>h.elim
end
noncomputable abbrev TG:=V→St→Hp→(St→Hp→Prop)→Prop
noncomputable abbrev TGs:=List V→St→Hp→(St→Hp→Prop)→Prop
noncomputable def PG(X:Cx)(target:Expr)(t:TG):Prop:=
 ∀(pins:List (Addr×Obj)) (s:Shared) (σ:St) (H:Hp) (v:V) (u:Value) (Q:St→Hp→Prop),Inv X pins σ H s→RelV v u→t v σ H Q→
   wpAny (model X.prog X.w) X.A (assign target X.env u) (fun _ s'=>∃σ' H',Inv X pins σ' H' s'∧Q σ' H') X.xe s
noncomputable def PGs(X:Cx)(ts:List Expr)(t:TGs):Prop:=
 ∀(pins:List (Addr×Obj)) (s:Shared) (σ:St) (H:Hp) (vs:List V) (us:List Value) (Q:St→Hp→Prop),Inv X pins σ H s→Vals vs us→t vs σ H Q→
   wpAny (model X.prog X.w) X.A (assignInOrder ((assignEach ts X.env).map (·.2)) us) (fun _ s'=>∃σ' H',Inv X pins σ' H' s'∧Q σ' H') X.xe s
noncomputable abbrev TSet:=V→V→V→Hp→(Hp→Prop)→Prop
noncomputable abbrev TIp:=V→V→Hp→VK→Prop
section
variable {X:Cx} {pos:Pos}
noncomputable def gName(i:Nat):TG:=fun v σ H Q=>Q (σ.set i (some v)) H
theorem pg_name{i:Nat}{x:Str}(hN:X.N.Nodup)(hi:X.N[i]?=some x)(hx:Loc X.env.scope x)(hf:X.fn x=true∨X.env.scope.names.lookup x=some .local:=by first | exact .inl rfl | exact .inr rfl | assumption):PG X (.Name x pos) (gName i):=by
 intro pins s σ H v u Q I r h
 exact wpAny_assign_Name (store_ok I hN hi hx r (fun s' I'=>⟨_,H,I',h⟩) hf)
noncomputable def gNil:TGs:=fun vs σ H Q=>vs=[]∧Q σ H
noncomputable def gCons(t:TG)(u:TGs):TGs:=fun vs σ H Q=>∃v r,vs=v::r∧t v σ H fun σ' H'=>u r σ' H' Q
theorem pgs_nil:PGs X [] gNil:=by
 intro pins s σ H vs us Q I r h
 obtain ⟨e,h⟩:=h
 subst e
 cases r
 exact assignInOrder_nil ⟨σ,H,I,h⟩
theorem pgs_cons{e:Expr}{es:List Expr}{t:TG}{u:TGs}(h1:PG X e t)(h2:PGs X es u)
 (hs:(assignEach (e::es) X.env).map (·.2)=assign e X.env::(assignEach es X.env).map (·.2):=by rfl):PGs X (e::es) (gCons t u):=by
 intro pins s σ H vs us Q I r h
 obtain ⟨v,vr,e1,h⟩:=h
 subst e1
 cases r with
 | cons r rr=>
  rw [hs]
  refine assignInOrder_cons (thn (h1 pins s σ H _ _ _ I r h) fun _ s1 hq_=>?_)
  obtain ⟨σ1,H1,I1,q1⟩:=hq_
  exact h2 pins s1 σ1 H1 _ _ Q I1 rr q1
noncomputable def gTup(K:PySem.W.Frag)(n:Nat)(t:TGs):TG:=fun v σ H Q=>∃a xs,v= .ref a∧SqT K H a xs∧xs.length=n∧t xs σ H Q
theorem pg_tup{es:List Expr}{k:Nat}{t:TGs}{n:Nat}(hc:X.calm=true)(h:PGs X es t)
 (hn:(assignEach es X.env).length=n:=by rfl) (hst:(assignEach es X.env).findIdx? (·.1)=none:=by rfl):PG X (.Tuple es k pos) (gTup X.K n t):=by
 intro pins s σ H v u Q I r hw
 obtain ⟨a,xs,e1,hq,hl,hw⟩:=hw
 subst e1
 cases r
 obtain ⟨its,rv,ht,hz⟩:=I.tuple hq
 refine assign_Tuple_tuple (I.ok.hd hc) ht (by simp [hn,← hl,rv.length]) hst fun h' hx=>?_
 have I1:Inv X pins σ H {s with heap:=h'}:=I.kept (t':=s.toks) fun b o e=>hx b o (Nat.ne_of_lt (Heap.lt_size e)) e
 exact h pins _ σ H xs _ Q I1 (by simpa using rv) hw
noncomputable def gSub(to ti:TE)(t:TSet):TG:=fun v σ H Q=>to σ H fun o H1=>ti σ H1 fun i H2=>t o i v H2 fun H3=>Q σ H3
noncomputable def tAsg(te:TE)(g:TG):TS:=fun D σ H=>te σ H fun x H1=>g x σ H1 D.nx
theorem ps_set{i:Nat}{x:Str}{e:Expr}{te:TE}{pos':Pos}(hN:X.N.Nodup)(hi:X.N[i]?=some x)(hx:Loc X.env.scope x)(he:PE X e te)(hs:swapsWith e (some (.Name x pos')) pos.line X.env=pure false:=by rfl)(hf:X.fn x=true∨X.env.scope.names.lookup x=some .local:=by first | exact .inl rfl | exact .inr rfl | assumption):
 PS X (.Assign [.Name x pos'] e pos) (tAsg te (gName i)):=by
 intro pins s σ H D I h
 refine wpAny_Assign_Name (thn (he pins s σ H _ I h) fun v s1 hq_=>?_) hs
 obtain ⟨y,H1,I1,r1,q1⟩:=hq_
 exact store_ok I1 hN hi hx r1 (fun s2 I2=>⟨_,H1,I2,q1⟩) hf
noncomputable def tPar(i j:Nat)(ta:TA):TS:=fun D σ H=>ta σ H fun vs H1=>∃v w,vs=[v,w]∧D.nx ((σ.set i (some v)).set j (some w)) H1
noncomputable def tAug(i:Nat)(te:TE)(ti:TIp):TS:=fun D σ H=>∃x,σ[i]?=some (some x)∧te σ H fun y H1=>ti x y H1 fun z H2=>D.nx (σ.set i (some z)) H2
noncomputable def ipI(f:Int→Int→Int):TIp:=fun x y H Q=>∃i j,x= .int i∧y= .int j∧Q (.int (f i j)) H
end
section
variable {X:Cx} {pos:Pos}
noncomputable def tWhile(c:TT)(tb:TS):TS:=fun D σ H=>∃W:Nat→St→Hp→Prop,(∃m,W m σ H)∧∀m σ H,W m σ H→
 c σ H fun b H1=>if b=true then ∃N:St→Hp→Prop,(∀σ' H',N σ' H'→∃m',m' < m∧W m' σ' H')∧tb {D with nx:=N,ct:=N,bk:=D.nx} σ H1 else D.nx σ H1
theorem ps_while{c:Expr}{body:List Stmt}{tc:TT}{tb:TS}(hp:PassesOwn (model X.prog X.w) X.A X.env X.xe)(hc:PT X c tc)(hb:PSs X body tb):PS X (.While c body [] pos) (tWhile tc tb):=by
 intro pins s σ H D I h
 obtain ⟨W,⟨m0,w0⟩,turn⟩:=h
 refine wpAny_While (codeAny_whileLoop (fun n s'=>∃σ' H',Inv X pins σ' H' s'∧W n σ' H') ?_ m0 ⟨σ,H,I,w0⟩)
 rintro n s1 ⟨σ1,H1,I1,w1⟩
 refine wpAny_passesOwn hp (thn (hc pins s1 σ1 H1 _ I1 (turn n σ1 H1 w1)) fun b s2 ⟨H2,I2,q2⟩=>?_)
 cases b with
 | true=>
  obtain ⟨N,hN,q2⟩:=q2
  rw [if_pos rfl]
  refine wpAny_passesOwn hp (thn (hb pins s2 σ1 H2 _ I2 q2) fun f s3 q3=>?_)
  cases f with
  | next=>
   obtain ⟨σ3,H3,I3,n3⟩:=q3
   obtain ⟨m',hm,w3⟩:=hN σ3 H3 n3
   exact ⟨m',hm,σ3,H3,I3,w3⟩
  | cont=>
   obtain ⟨σ3,H3,I3,n3⟩:=q3
   obtain ⟨m',hm,w3⟩:=hN σ3 H3 n3
   exact ⟨m',hm,σ3,H3,I3,w3⟩
  | brk=>exact q3
  | ret v=>exact q3
 | false=>
  rw [if_neg Bool.false_ne_true]
  exact wpAny_execs_nil ⟨σ1,H2,I2,q2⟩
end
structure It where
 go:Nat→Hp→Prop
 yld:Nat→Hp→V→Hp→Prop
 stop:Nat→Hp→Prop
noncomputable def FpOk(X:Cx)(pins:List (Addr×Obj))(H:Hp)(b:Addr):Prop:=
 H b=none∧b≠X.env.locals∧b∉X.fs∧(b∈X.ex∨X.s₀.heap.objs.size≤b)∧(∀x c,X.env.cells.lookup x=some c→c≠b)∧∀p∈X.pn++pins,p.1≠b
theorem Inv.fpOk{X:Cx}{pins:List (Addr×Obj)}{σ:St}{H H':Hp}{s:Shared}{b:Addr}(I:Inv X pins σ H s)(hb:s.heap.objs.size≤b)(hn:H' b=none):FpOk X pins H' b:=by
 refine ⟨hn,Nat.ne_of_gt (Nat.lt_of_lt_of_le I.lt hb),I.nofs hb,.inr (Nat.le_trans I.sz hb),fun x c e z=>?_,fun p hp z=>?_⟩
 · obtain ⟨v,q⟩:=I.cell x c e
   exact absurd (Nat.lt_of_lt_of_le q.lt (by rw [z];exact hb)) (Nat.lt_irrefl _)
 · exact absurd (Nat.lt_of_lt_of_le (Heap.lt_size (I.pin p hp).1) (by rw [z];exact hb)) (Nat.lt_irrefl _)
structure Turn(P:Program)(w:World)(K:PySem.W.Frag)(tg:Expr)(J:It)(fp:List Addr)(it:Addr)(tn:Nat→Heap→Prop):Prop where
 mem:it∈fp
 obj:∀i h,tn i h→∀b∈fp,∃o,h.get? b=some o∧∀v,o.data≠ .cell v
 keep:∀i h h',tn i h→(∀b∈fp,∀o,h.get? b=some o→h'.get? b=some o)→tn i h'
 item:∀(X:Cx),X.prog=P→X.w=w→X.K=K→X.calm=true→∀(i:Nat) (pins:List (Addr×Obj)) (s:Shared) (σ:St) (H:Hp) (E:Value→Shared→Prop),Inv X pins σ H s→(∀b∈fp,FpOk X pins H b)→tn i s.heap→J.go i H→
  wpAny (model P w) X.A (pyNext (.ref it)) (fun r s1=>∃u,r=some u∧
   wpAny (model P w) X.A (letOwnedTupleGo tg (.ref it) u) (fun _ s2=>∃x H',Inv X pins σ H' s2∧RelV x u∧J.yld i H x H'∧tn (i+1) s2.heap∧∀b∈fp,H' b=none) E s1) E s
 done:∀(X:Cx),X.prog=P→X.w=w→X.K=K→X.calm=true→∀(i:Nat) (pins:List (Addr×Obj)) (s:Shared) (σ:St) (H:Hp) (E:Value→Shared→Prop),Inv X pins σ H s→(∀b∈fp,FpOk X pins H b)→tn i s.heap→J.stop i H→
   wpAny (model P w) X.A (pyNext (.ref it)) (fun r s1=>r=none∧Inv X pins σ H s1) E s
 self:∀(A:Around) (i:Nat) (s:Shared) (Q:Value→Shared→Prop) (E:Value→Shared→Prop),tn i s.heap→Q (.ref it) s→wpAny (model P w) A (pyIter (.ref it)) Q E s
noncomputable abbrev TI:=St→Hp→(It→Hp→Prop)→Prop
noncomputable def PIE(X:Cx)(pins:List (Addr×Obj))(σ:St)(tg:Expr)(R:It→Hp→Prop)(itv:Value)(s2:Shared):Prop:=
 ∃(it:Addr) (fp:List Addr) (tn:Nat→Heap→Prop) (J:It) (H':Hp),itv= .ref it∧Inv X pins σ H' s2∧Turn X.prog X.w X.K tg J fp it tn∧tn 0 s2.heap∧(∀b∈fp,FpOk X pins H' b)∧R J H'
noncomputable def PI(X:Cx)(tg iter:Expr)(wi:TI):Prop:=
 ∀(pins:List (Addr×Obj)) (s:Shared) (σ:St) (H:Hp) (R:It→Hp→Prop),Inv X pins σ H s→wi σ H R→
   wpAny (model X.prog X.w) X.A (eval iter X.env) (fun v s1=>wpAny (model X.prog X.w) X.A (pyIter v) (PIE X pins σ tg R) X.xe s1) X.xe s
theorem go_of{M:Model}{A:Around}{E:Value→Shared→Prop}{s:Shared}{tg:Expr}{it:Addr}{u:Value}{o:Obj}{n:String}{vs:Array Value}{Q:Unit→Shared→Prop}(ho:s.heap.get? it=some o)(hc:o.cls= .type n)(hd:o.data= .fields vs)
 (hn:["enumerate","zip","dict_itemiterator","dict_reverseitemiterator","odict_iterator","itertools.zip_longest","itertools.pairwise"].contains n=false) (hQ:Q () s):wpAny M A (letOwnedTupleGo tg (.ref it) u) Q E s:=by
 unfold letOwnedTupleGo
 cases tg <;> first
  | exact wpAny_pure hQ
  | (cases u <;> first
   | exact wpAny_pure hQ
   | (refine wpAny_bind (wpAny_load ho ?_)
      rw [hc,hd]
      show wpAny M A (if (["enumerate","zip","dict_itemiterator","dict_reverseitemiterator","odict_iterator","itertools.zip_longest","itertools.pairwise"].contains n && vs[0]?==some (rawInt _))=true then _ else _) Q E s
      rw [if_neg (by intro h;rw [hn,Bool.false_and]at h;cases h)]
      exact wpAny_pure hQ))
noncomputable def Itl(K:PySem.W.Frag)(a:Addr):It:=
 ⟨fun i H=>∃xs x,SqL K H a xs∧xs[i]?=some x,fun i H x H'=>H'=H∧∀xs,SqL K H a xs→xs[i]?=some x,fun i H=>∃xs,SqL K H a xs∧xs.length≤i⟩
noncomputable def Itt(K:PySem.W.Frag)(a:Addr):It:=
 ⟨fun i H=>∃xs x,SqT K H a xs∧xs[i]?=some x,fun i H x H'=>H'=H∧∀xs,SqT K H a xs→xs[i]?=some x,fun i H=>∃xs,SqT K H a xs∧xs.length≤i⟩
noncomputable def Itr(lo:Int)(n:Nat):It:=⟨fun i _=>i < n,fun i H x H'=>H'=H∧x= .int (lo+i),fun i _=>n≤i⟩
theorem turn_list{P:Program}{w:World}{K:PySem.W.Frag}{tg:Expr}(a it:Addr):Turn P w K tg (Itl K a) [it] it (fun i h=>h.IsListIter it a i) where
 mem:=by simp
 obj:=fun i h st b hb=>by
  have e:b=it:=by simpa using hb
  subst e
  obtain ⟨o,e,c,d⟩:=st
  exact ⟨o,e,fun v z=>by rw [d]at z;cases z⟩
 keep:=fun i h h' st k=>st.at fun o e=>k it (by simp) o e
 item:=by
  intro X hP hw hK hc i pins s σ H E I hf st hg
  subst hP hw hK
  obtain ⟨xs,x,hq,hx⟩:=hg
  obtain ⟨its,rv,p,hz⟩:=I.list hq
  obtain ⟨u,hu,ru⟩:=rv.get hx
  obtain ⟨f0,f1,f2,f3,f4,f5⟩:=hf it (by simp)
  refine wpAny_pyNext_list_item st p.isList (x:=u) (by simpa using hu) fun h' st' sb=>?_
  have I1:Inv X pins σ H {s with heap:=h'}:=I.turned (t':=s.toks) (fun b o hb e=>(sb.2 b hb).trans e) f0 f1 f3 f4 f5
  obtain ⟨o,e,c,d⟩:=id st'
  exact ⟨u,rfl,go_of (s:={s with heap:=h'}) e c d (by decide) ⟨x,H,I1,ru,⟨rfl,fun ys hy=>by rw [I.list_inj hy hq];exact hx⟩,st',fun b hb=>(hf b hb).1⟩⟩
 done:=by
   intro X hP hw hK hc i pins s σ H E I hf st hg
   subst hP hw hK
   obtain ⟨xs,hq,hx⟩:=hg
   obtain ⟨its,rv,p,hz⟩:=I.list hq
   obtain ⟨f0,f1,f2,f3,f4,f5⟩:=hf it (by simp)
   have hl:=rv.length
   exact wpAny_pyNext_list_end (I.ok.hd hc) st p.isList (by simp;omega) fun h' eb=>⟨rfl,I.turned (t':=s.toks) (fun b o hb e=>eb b o hb e) f0 f1 f3 f4 f5⟩
 self:=fun _ _ _ _ _ st h=>wpAny_pyIter_listiter st h
theorem turn_range{P:Program}{w:World}{K:PySem.W.Frag}{tg:Expr}(it:Addr)(lo:Int)(n:Nat):Turn P w K tg (Itr lo n) [it] it (fun i h=>IsRangeIter h it (lo+(i:Nat) * 1) ((n:Int) - (i:Nat)) 1) where
 mem:=by simp
 obj:=fun i h st b hb=>by
  have e:b=it:=by simpa using hb
  subst e
  exact ⟨_,st,fun v z=>by
   have z':Data.fields _=Data.cell v:=z
   cases z'⟩
 keep:=fun i h h' st k=>k it (by simp) _ st
 item:=by
  intro X hP hw hK hc i pins s σ H E I hf st hg
  subst hP hw hK
  obtain ⟨f0,f1,f2,f3,f4,f5⟩:=hf it (by simp)
  have W:=Walks.range (prog:=X.prog) (w:=X.w) (I.ok.hd hc) it lo 1 n
  refine W.item i s _ _ hg st fun v h' tk hv st' kk=>?_
  obtain ⟨t,rfl⟩:=hv
  have I1:Inv X pins σ H {s with heap:=h',toks:=tk}:=I.turned (fun b o hb e=>kk b o (by simpa using hb) e) f0 f1 f3 f4 f5
  refine ⟨_,rfl,go_of (s:={s with heap:=h',toks:=tk}) (n:="range_iterator") st' rfl rfl (by decide) ⟨.int (lo+i),H,I1,⟨t,?_⟩,⟨rfl,rfl⟩,st',fun b hb=>(hf b hb).1⟩⟩
  rw [Int.mul_one]
 done:=by
   intro X hP hw hK hc i pins s σ H E I hf st hg
   subst hP hw hK
   obtain ⟨f0,f1,f2,f3,f4,f5⟩:=hf it (by simp)
   exact wpAny_pyNext_range_end (I.ok.hd hc) st (by have:n≤i:=hg;omega) fun h' eb=>⟨rfl,I.turned (t':=s.toks) (fun b o hb e=>eb b o hb e) f0 f1 f3 f4 f5⟩
 self:=fun _ _ _ _ _ st h=>wpAny_pyIter_rangeiter st h
end L2
namespace L2
section
variable {X:Cx} {tg:Expr}
noncomputable def iList(K:PySem.W.Frag)(tl:TE):TI:=fun σ H R=>tl σ H fun x H1=>∃a,x= .ref a∧(∃xs,SqL K H1 a xs)∧R (Itl K a) H1
noncomputable def iTup(K:PySem.W.Frag)(tl:TE):TI:=fun σ H R=>tl σ H fun x H1=>∃a,x= .ref a∧(∃xs,SqT K H1 a xs)∧R (Itt K a) H1
theorem pi_list{l:Expr}{tl:TE}(hl:PE X l tl):PI X tg l (iList X.K tl):=by
 intro pins s σ H R I h
 refine thn (hl pins s σ H _ I h) fun v s1 hq_=>?_
 obtain ⟨x,H1,I1,r1,q1⟩:=hq_
 obtain ⟨a,e,⟨xs,hq⟩,q⟩:=q1
 subst e
 cases r1
 obtain ⟨its,rv,p,hz⟩:=I1.list hq
 refine wpAny_pyIter_list p.isList ?_
 refine ⟨s1.heap.objs.size,[s1.heap.objs.size],_,_,H1,rfl,I1.kept (t':=s1.toks) fun b o e=>Heap.get?_push_of_some _ e,turn_list a _,⟨_,Heap.get?_push_size _ rfl,rfl,rfl⟩,fun b hb=>?_,q⟩
 have e:b=s1.heap.objs.size:=by simpa using hb
 subst e
 exact I1.fpOk (Nat.le_refl _) (I1.hok.fresh (Nat.le_refl _))
theorem range_it{pins:List (Addr×Obj)}{σ:St}{H:Hp}{s:Shared}{R:It→Hp→Prop}{E:Value→Shared→Prop}{lo hi:Int}{t u v:Tok}{tk:Nat}(I:Inv X pins σ H s)(h1:-(2 ^ 62)≤lo)(h2:lo < 2 ^ 62)(h3:-(2 ^ 62)≤hi)(h4:hi < 2 ^ 62)
 (q:R (Itr lo (hi - lo).toNat) H):wpAny (model X.prog X.w) X.A (pyIter (.ref s.heap.objs.size)) (PIE X pins σ tg R) E {s with heap:=s.heap.push {cls:= .type "range",data:= .fields #[.int lo t,.int hi u,.int 1 v]},toks:=tk}:=by
 refine wpAny_pyIter_range (IsRange.new ..) (small_one h1 h2 h3 h4) ?_
 have I1:Inv X pins σ H {s with heap:=s.heap.push {cls:= .type "range",data:= .fields #[.int lo t,.int hi u,.int 1 v]},toks:=tk}:=I.kept fun b o e=>Heap.get?_push_of_some _ e
 refine ⟨(s.heap.push {cls:= .type "range",data:= .fields #[.int lo t,.int hi u,.int 1 v]}).objs.size,[(s.heap.push {cls:= .type "range",data:= .fields #[.int lo t,.int hi u,.int 1 v]}).objs.size],_,_,H,rfl,
  I1.kept (t':=tk) fun b o e=>Heap.get?_push_of_some _ e,turn_range _ lo (hi - lo).toNat,?_,fun b hb=>?_,q⟩
 · have e1:lo+((0:Nat):Int) * 1=lo:=by simp
   have e2:(((hi - lo).toNat:Nat):Int) - ((0:Nat):Int)=Builtin.Range.rangeSize lo hi 1:=by rw [rangeSize_one];split <;> omega
   show IsRangeIter _ _ (lo+((0:Nat):Int) * 1) ((((hi - lo).toNat:Nat):Int) - ((0:Nat):Int)) 1
   rw [e1,e2]
   exact Heap.get?_push_size _ rfl
 · have e:b=(s.heap.push {cls:= .type "range",data:= .fields #[.int lo t,.int hi u,.int 1 v]}).objs.size:=by simpa using hb
   subst e
   exact I1.fpOk (Nat.le_refl _) (I1.hok.fresh (Nat.le_refl _))
noncomputable def iRng1(ta:TA):TI:=fun σ H R=>ta σ H fun vs H1=>∃j:Int,vs=[.int j]∧-(2 ^ 62)≤j∧j < 2 ^ 62∧R (Itr 0 j.toNat) H1
noncomputable def iRng2(ta:TA):TI:=fun σ H R=>ta σ H fun vs H1=>∃i j:Int,vs=[.int i,.int j]∧(-(2 ^ 62)≤i∧i < 2 ^ 62∧-(2 ^ 62)≤j∧j < 2 ^ 62)∧R (Itr i (j - i).toNat) H1
theorem pi_range1{a:Expr}{ta:TA}{p pos:Pos}(hg:Gl X "range")(hm:X.mg "range"=none)(ha:PA X [a] ta)(hs:starEach [a] X.env=[(false,eval a X.env)]:=by rfl):PI X tg (.Call (.Name "range" p) [a] [] pos) (iRng1 ta):=by
 intro pins s σ H R I h
 refine Call_ (ld_blt I hg hm boot_range (PyProof.Rows.callWith_type1 (thn (ha pos pins s σ H _ I h) fun us s1 hq_=>?_) hs rfl))
 obtain ⟨vs,H1,I1,r1,q1⟩:=hq_
 obtain ⟨j,e,q1,q2,q⟩:=q1
 subst e
 cases r1 with
 | cons r rr=>
  cases rr
  obtain ⟨t,rfl⟩:=r
  exact call_range_1 (range_it I1 (by omega) (by omega) q1 q2 (by simpa using q))
theorem pi_range2{a b:Expr}{ta:TA}{p pos:Pos}(hg:Gl X "range")(hm:X.mg "range"=none)(ha:PA X [a,b] ta)(hs:starEach [a,b] X.env=[(false,eval a X.env),(false,eval b X.env)]:=by rfl)(hs2:starEach [b] X.env=[(false,eval b X.env)]:=by rfl):
 PI X tg (.Call (.Name "range" p) [a,b] [] pos) (iRng2 ta):=by
 intro pins s σ H R I h
 refine Call_ (ld_blt I hg hm boot_range (PyProof.Rows.callWith_type1 (thn (ha pos pins s σ H _ I h) fun us s1 ⟨vs,H1,I1,r1,q1⟩=>?_) (by rw [hs,hs2]) (by rw [hs2];rfl)))
 obtain ⟨i,j,e,⟨q1,q2,q3,q4⟩,q⟩:=q1
 subst e
 cases r1 with
 | cons r rr=>
  cases rr with
  | cons r' rr=>
   cases rr
   obtain ⟨t,rfl⟩:=r
   obtain ⟨t',rfl⟩:=r'
   exact call_range_2 (range_it I1 q1 q2 q3 q4 q)
noncomputable def tFor(wi:TI)(g:TG)(tb:TS):TS:=fun D σ H=>wi σ H fun J H1=>∃W:Nat→Nat→St→Hp→Prop,(∃m,W 0 m σ H1)∧∀i m σ H,W i m σ H→
 (J.stop i H∧D.nx σ H)∨(J.go i H∧∃N:St→Hp→Prop,(∀σ' H',N σ' H'→∃m',m' < m∧W (i+1) m' σ' H')∧∀x H',J.yld i H x H'→g x σ H' fun σ2 H2=>tb {D with nx:=N,ct:=N,bk:=D.nx} σ2 H2)
noncomputable def pinsAt(fp:List Addr)(h:Heap):List (Addr×Obj):=fp.filterMap fun b=>(h.get? b).map fun o=>(b,o)
theorem mem_pinsAt{fp:List Addr}{h:Heap}{b:Addr}{o:Obj}(hb:b∈fp)(e:h.get? b=some o):(b,o)∈pinsAt fp h:=List.mem_filterMap.mpr ⟨b,hb,by rw [e];rfl⟩
theorem of_pinsAt{fp:List Addr}{h:Heap}{p:Addr×Obj}(hp:p∈pinsAt fp h):p.1∈fp∧h.get? p.1=some p.2:=by
 obtain ⟨b,hb,e⟩:=List.mem_filterMap.mp hp
 cases q:h.get? b with
 | none=>rw [q]at e;cases e
 | some o=>
  rw [q]at e
  have e':(b,o)=p:=Option.some.inj e
  subst e'
  exact ⟨hb,q⟩
theorem Inv.pinned{pins:List (Addr×Obj)}{σ:St}{H:Hp}{s:Shared}{fp:List Addr}(I:Inv X pins σ H s)(hf:∀b∈fp,FpOk X pins H b)(ho:∀b∈fp,∃o,s.heap.get? b=some o∧∀v,o.data≠ .cell v):Inv X (pins++pinsAt fp s.heap) σ H s:=
 I.pins_of fun p hp=>(List.mem_append.mp hp).elim (fun z=>I.pin p (List.mem_append_right _ z)) fun z=>by
  obtain ⟨hb,e⟩:=of_pinsAt z
  obtain ⟨f0,f1,f2,_⟩:=hf p.1 hb
  obtain ⟨o,e',d⟩:=ho p.1 hb
  rw [e]at e';cases e'
  exact ⟨e,f0,f1,f2,d⟩
theorem Inv.unpinned{pins pl:List (Addr×Obj)}{σ:St}{H:Hp}{s:Shared}(I:Inv X (pins++pl) σ H s):Inv X pins σ H s:=I.pins_of fun p hp=>I.pin p (List.mem_append_right _ (List.mem_append_left _ hp))
theorem ps_for{iter:Expr}{body:List Stmt}{wi:TI}{g:TG}{tb:TS}{pos:Pos}(hp:PassesOwn (model X.prog X.w) X.A X.env X.xe)(hc:X.calm=true)(hi:PI X tg iter wi)(hg:PG X tg g)(hb:PSs X body tb)
 (hs:∀x,foldedSetIterable iter X.env x=pure x:=by intro _;rfl):PS X (.For tg iter body [] pos) (tFor wi g tb):=by
 intro pins s σ H D I h
 refine wpAny_For (thn (hi pins s σ H _ I h) fun v s1 h1=>thn h1 fun itv s2 h2=>?_) hs
 obtain ⟨it,fp,tn,J,H2,e,I2,T,st2,f2,W,⟨m0,w0⟩,turn⟩:=h2
 subst e
 have stat:∀{H':Hp},(∀b∈fp,H' b=none)→∀b∈fp,FpOk X pins H' b:=fun hn b hb=>⟨hn b hb,(f2 b hb).2⟩
 refine codeAny_forLoop_any (fun n s'=>∃i σ' H',Inv X pins σ' H' s'∧tn i s'.heap∧(∀b∈fp,H' b=none)∧W i n σ' H') ?_ m0 ⟨0,σ,H2,I2,st2,fun b hb=>(f2 b hb).1,w0⟩
 rintro n s3 ⟨i,σ3,H3,I3,st3,fr3,w3⟩
 rcases turn i n σ3 H3 w3 with ⟨stop,qn⟩ | ⟨go,N,hN,step⟩
 · refine wpAny_passesOwn hp (thn (T.done X rfl rfl rfl hc i pins s3 σ3 H3 X.xe I3 (stat fr3) st3 stop) fun r s4 ⟨hr,I4⟩=>?_)
   subst hr
   exact wpAny_execs_nil ⟨σ3,H3,I4,qn⟩
 · refine wpAny_passesOwn hp (thn (T.item X rfl rfl rfl hc i pins s3 σ3 H3 X.xe I3 (stat fr3) st3 go) fun r s4 ⟨u,hr,h4⟩=>?_)
   subst hr
   refine wpAny_passesOwn hp (thn h4 fun _ s5 hq_=>?_)
   obtain ⟨x,H5,I5,r5,y5,st5,fr5⟩:=hq_
   have I5':=I5.pinned (stat fr5) (T.obj _ _ st5)
   refine wpAny_passesOwn hp (thn (hg _ s5 σ3 H5 x u _ I5' r5 (step x H5 y5)) fun _ s6 hq_=>?_)
   obtain ⟨σ6,H6,I6,q6⟩:=hq_
   refine wpAny_passesOwn hp (thn (hb _ s6 σ6 H6 _ I6 q6) fun f s7 q7=>?_)
   have again:∀{σ7:St} {H7:Hp},Inv X (pins++pinsAt fp s5.heap) σ7 H7 s7→N σ7 H7→∃m,m < n∧∃i σ' H',Inv X pins σ' H' s7∧tn i s7.heap∧(∀b∈fp,H' b=none)∧W i m σ' H':=fun {σ7 H7} I7 n7=>by
    obtain ⟨m',hm,w7⟩:=hN σ7 H7 n7
    refine ⟨m',hm,i+1,σ7,H7,I7.unpinned,T.keep _ _ _ st5 fun b hb o e=>(I7.pin (b,o) (List.mem_append_right _ (List.mem_append_right _ (mem_pinsAt hb e)))).1,fun b hb=>?_,w7⟩
    obtain ⟨o,e,d⟩:=T.obj _ _ st5 b hb
    exact (I7.pin (b,o) (List.mem_append_right _ (List.mem_append_right _ (mem_pinsAt hb e)))).2.1
   cases f with
   | next=>obtain ⟨σ7,H7,I7,n7⟩:=q7;exact again I7 n7
   | cont=>obtain ⟨σ7,H7,I7,n7⟩:=q7;exact again I7 n7
   | brk=>obtain ⟨σ7,H7,I7,q7⟩:=q7;exact ⟨σ7,H7,I7.unpinned,q7⟩
   | ret v=>obtain ⟨x7,σ7,H7,I7,r7,q7⟩:=q7;exact ⟨x7,σ7,H7,I7.unpinned,r7,q7⟩
end
theorem for_list{K:PySem.W.Frag}{a:Addr}{xs:List V}{g:TG}{tb:TS}{D:Ends}{σ:St}{H:Hp}(Pv:Nat→St→Hp→Prop)(h0:Pv 0 σ H)(hl:∀i σ H,i≤xs.length→Pv i σ H→SqL K H a xs)
 (hs:∀i x σ H,xs[i]?=some x→Pv i σ H→g x σ H fun σ2 H2=>tb {D with nx:=Pv (i+1),ct:=Pv (i+1),bk:=D.nx} σ2 H2) (hd:∀σ H,Pv xs.length σ H→D.nx σ H):
 ∃W:Nat→Nat→St→Hp→Prop,(∃m,W 0 m σ H)∧∀i m σ H,W i m σ H→
  ((Itl K a).stop i H∧D.nx σ H)∨((Itl K a).go i H∧∃N:St→Hp→Prop,(∀σ' H',N σ' H'→∃m',m' < m∧W (i+1) m' σ' H')∧∀x H',(Itl K a).yld i H x H'→g x σ H' fun σ2 H2=>tb {D with nx:=N,ct:=N,bk:=D.nx} σ2 H2):=by
 refine ⟨fun i m σ H=>m=xs.length - i∧i≤xs.length∧Pv i σ H,⟨xs.length,by simp,Nat.zero_le _,h0⟩,?_⟩
 rintro i m σ H ⟨rfl,hi,p⟩
 have q:=hl i σ H hi p
 by_cases hlt:i < xs.length
 · refine .inr ⟨⟨xs,xs[i],q,by simp [hlt]⟩,Pv (i+1),fun σ' H' p'=>⟨xs.length - (i+1),by omega,rfl,hlt,p'⟩,fun x H' y=>?_⟩
   obtain ⟨e,y⟩:=y
   subst e
   exact hs i x σ _ (y xs q) p
 · have e:i=xs.length:=by omega
   subst e
   exact .inl ⟨⟨xs,q,Nat.le_refl _⟩,hd σ H p⟩
theorem for_range{lo:Int}{n:Nat}{g:TG}{tb:TS}{D:Ends}{σ:St}{H:Hp}(Pv:Nat→St→Hp→Prop)(h0:Pv 0 σ H)
 (hs:∀i σ H,i < n→Pv i σ H→g (.int (lo+i)) σ H fun σ2 H2=>tb {D with nx:=Pv (i+1),ct:=Pv (i+1),bk:=D.nx} σ2 H2) (hd:∀σ H,Pv n σ H→D.nx σ H):
 ∃W:Nat→Nat→St→Hp→Prop,(∃m,W 0 m σ H)∧∀i m σ H,W i m σ H→
  ((Itr lo n).stop i H∧D.nx σ H)∨((Itr lo n).go i H∧∃N:St→Hp→Prop,(∀σ' H',N σ' H'→∃m',m' < m∧W (i+1) m' σ' H')∧∀x H',(Itr lo n).yld i H x H'→g x σ H' fun σ2 H2=>tb {D with nx:=N,ct:=N,bk:=D.nx} σ2 H2):=by
 refine ⟨fun i m σ H=>m=n - i∧i≤n∧Pv i σ H,⟨n,by simp,Nat.zero_le _,h0⟩,?_⟩
 rintro i m σ H ⟨rfl,hi,p⟩
 by_cases hlt:i < n
 · refine .inr ⟨hlt,Pv (i+1),fun σ' H' p'=>⟨n - (i+1),by omega,rfl,hlt,p'⟩,fun x H' y=>?_⟩
   obtain ⟨e,y⟩:=y
   subst e y
   exact hs i σ _ hlt p
 · have e:i=n:=by omega
   subst e
   exact .inl ⟨Nat.le_refl _,hd σ H p⟩
end L2
namespace L2
noncomputable abbrev R2:=V→V→Hp→VK→Prop
noncomputable def OpR(X:Cx)(f:Value→Value→Sem Value)(r:R2):Prop:=
 ∀(pins:List (Addr×Obj)) (s:Shared) (σ:St) (H:Hp) (x y:V) (v u:Value) (Q:VK),Inv X pins σ H s→RelV x v→RelV y u→r x y H Q→
   wpAny (model X.prog X.w) X.A (f v u) (EP X pins σ Q) X.xe s
noncomputable def CallR(X:Cx)(f:Value)(r:List V→Hp→VK→Prop):Prop:=
 ∀(pins:List (Addr×Obj)) (s:Shared) (σ:St) (H:Hp) (xs:List V) (us:List Value) (Q:VK),Inv X pins σ H s→Vals xs us→r xs H Q→
   wpAny (model X.prog X.w) X.A (call f us) (EP X pins σ Q) X.xe s
noncomputable def tOp(r:R2)(ta tb:TE):TE:=fun σ H Q=>ta σ H fun x H1=>tb σ H1 fun y H2=>r x y H2 Q
noncomputable def tUn(r:V→Hp→VK→Prop)(ta:TE):TE:=fun σ H Q=>ta σ H fun x H1=>r x H1 Q
noncomputable def rI(C:Int→Int→Prop)(g:Int→Int→V):R2:=fun x y H Q=>∃i j,x= .int i∧y= .int j∧C i j∧Q (g i j) H
noncomputable def rI0(g:Int→Int→V):R2:=fun x y H Q=>∃i j,x= .int i∧y= .int j∧Q (g i j) H
noncomputable def rU(g:Int→V):V→Hp→VK→Prop:=fun x H Q=>∃i,x= .int i∧Q (g i) H
section
variable {X:Cx} {a b c:Expr} {ta tb tc:TE} {pos:Pos}
theorem binT(ha:PE X a ta)(hb:PE X b tb){pins:List (Addr×Obj)}{s:Shared}{σ:St}{H:Hp}{R:V→V→Hp→Prop}(I:Inv X pins σ H s)
 (h:ta σ H fun x H1=>tb σ H1 fun y H2=>R x y H2) {Q:Value→Shared→Prop} {f:Value→Value→Sem Value}
 (hf:∀v u s2 x y H2,Inv X pins σ H2 s2→RelV x v→RelV y u→R x y H2→wpAny (model X.prog X.w) X.A (f v u) Q X.xe s2):
 wpAny (model X.prog X.w) X.A (eval a X.env) (fun v s₁=>wpAny (model X.prog X.w) X.A (eval b X.env) (fun u s₂=>wpAny (model X.prog X.w) X.A (f v u) Q X.xe s₂) X.xe s₁) X.xe s:=by
 refine thn (ha pins s σ H _ I h) fun v s1 hq_=>?_
 obtain ⟨x,H1,I1,r1,q1⟩:=hq_
 refine thn (hb pins s1 σ H1 _ I1 q1) fun u s2 hq_=>?_
 obtain ⟨y,H2,I2,r2,q2⟩:=hq_
 exact hf v u s2 x y H2 I2 r1 r2 q2
theorem pe_op{op:Operator}{r:R2}(ho:OpR X (binaryOp op) r)(ha:PE X a ta)(hb:PE X b tb):PE X (.BinOp a op b pos) (tOp r ta tb):=by
 intro pins s σ H Q I h
 exact wpAny_BinOp (binT ha hb I h fun v u s2 x y H2 I2 rx ry q=>ho pins s2 σ H2 x y v u Q I2 rx ry q)
theorem opI{f:Value→Value→Sem Value}{C:Int→Int→Prop}{g:Int→Int→Int}
 (rule:∀(i j:Int) (t u:Tok) (s:Shared) (Q:Value→Shared→Prop) (E:Value→Shared→Prop),C i j→Q (.int (g i j) s.toks) {s with toks:=s.toks+1}→wpAny (model X.prog X.w) X.A (f (.int i t) (.int j u)) Q E s):
 OpR X f (rI C fun i j=> .int (g i j)):=by
 intro pins s σ H x y v u Q I rx ry h
 obtain ⟨i,j,rfl,rfl,hc,q⟩:=h
 obtain ⟨t,rfl⟩:=rx
 obtain ⟨t',rfl⟩:=ry
 exact rule i j t t' s _ _ hc ⟨.int (g i j),H,I.tok _,⟨_,rfl⟩,q⟩
theorem opI0{f:Value→Value→Sem Value}{g:Int→Int→Int}
 (rule:∀(i j:Int) (t u:Tok) (s:Shared) (Q:Value→Shared→Prop) (E:Value→Shared→Prop),Q (.int (g i j) s.toks) {s with toks:=s.toks+1}→wpAny (model X.prog X.w) X.A (f (.int i t) (.int j u)) Q E s):
 OpR X f (rI0 fun i j=> .int (g i j)):=by
 intro pins s σ H x y v u Q I rx ry h
 obtain ⟨i,j,rfl,rfl,q⟩:=h
 obtain ⟨t,rfl⟩:=rx
 obtain ⟨t',rfl⟩:=ry
 exact rule i j t t' s _ _ ⟨.int (g i j),H,I.tok _,⟨_,rfl⟩,q⟩
theorem opB0{f:Value→Value→Sem Value}{g:Int→Int→Bool}
 (rule:∀(i j:Int) (t u:Tok) (s:Shared) (Q:Value→Shared→Prop) (E:Value→Shared→Prop),Q (.bool (g i j)) s→wpAny (model X.prog X.w) X.A (f (.int i t) (.int j u)) Q E s):
 OpR X f (rI0 fun i j=> .bl (g i j)):=by
 intro pins s σ H x y v u Q I rx ry h
 obtain ⟨i,j,rfl,rfl,q⟩:=h
 obtain ⟨t,rfl⟩:=rx
 obtain ⟨t',rfl⟩:=ry
 exact rule i j t t' s _ _ ⟨.bl (g i j),H,I,rfl,q⟩
noncomputable def CDiv(i j:Int):Prop:=0 < j∧j < 1073741824
noncomputable def CPow(i j:Int):Prop:=0≤j∧j≤1000000∧i.natAbs < 2 ^ 64
noncomputable def CMul(i j:Int):Prop:=(-(2 ^ 64) < i∧i < 2 ^ 64)∨(-(2 ^ 64) < j∧j < 2 ^ 64)
theorem CMul.ok{i j:Int}(h:CMul i j):IntMulOk i j:=by
 rcases h with ⟨h1,h2⟩ | ⟨h1,h2⟩
 · exact .of_left (intBits_le_64 h1 h2)
 · exact .of_right (intBits_le_64 h1 h2)
theorem op_add:OpR X (binaryOp .Add) (rI0 fun i j=> .int (i+j)):=opI0 fun _ _ _ _ _ _ _ q=>add_int q
theorem op_sub:OpR X (binaryOp .Sub) (rI0 fun i j=> .int (i - j)):=opI0 fun _ _ _ _ _ _ _ q=>sub_int q
theorem op_mul:OpR X (binaryOp .Mult) (rI CMul fun i j=> .int (i * j)):=opI fun _ _ _ _ _ _ _ hc q=>mul_int q hc.ok
theorem op_fdiv:OpR X (binaryOp .FloorDiv) (rI CDiv fun i j=> .int (i / j)):=opI fun i j _ _ _ _ _ hc q=>by
 have h1:(0:Int) < j:=hc.1
 have h2:j < 1073741824:=hc.2
 exact floordiv_int (by omega) (by rw [Int.fdiv_eq_ediv_of_nonneg i (by omega)];exact q) (.inl (PyProof.noPylong_small (by omega)))
theorem op_mod:OpR X (binaryOp .Mod) (rI (fun _ j=>0 < j) fun i j=> .int (i % j)):=opI fun i j _ _ _ _ _ hc q=>by
 have h1:(0:Int) < j:=hc
 exact mod_int' (by omega) (by rw [Int.fmod_eq_emod_of_nonneg i (by omega)];exact q)
theorem op_pow:OpR X (binaryOp .Pow) (rI CPow fun i j=> .int (i ^ j.toNat)):=opI fun _ _ _ _ _ _ _ hc q=>pow_int_small hc.1 hc.2.1 hc.2.2 q
end
noncomputable def scal:V→V→Bool
 | .non,.non=>true | .non,.int _=>true | .int _,.non=>true | .non,.bl _=>true | .bl _,.non=>true | .non,.str _=>true | .str _,.non=>true
 | .int _,.int _=>true | .bl _,.bl _=>true | .str _,.str _=>true | .byt _,.byt _=>true
 | .int _,.str _=>true | .str _,.int _=>true | .bl _,.str _=>true | .str _,.bl _=>true
 | _,_=>false
noncomputable def rEq:R2:=fun x y H Q=>scal x y=true∧Q (.bl (decide (x=y))) H
noncomputable def rNe:R2:=fun x y H Q=>scal x y=true∧Q (.bl (!decide (x=y))) H
theorem dec_int{i j:Int}:decide (V.int i=V.int j)=(i==j):=by
 rw [Bool.eq_iff_iff]
 simp
theorem dec_bl{i j:Bool}:decide (V.bl i=V.bl j)=(i==j):=by
 rw [Bool.eq_iff_iff]
 simp
theorem dec_str{i j:Str}:decide (V.str i=V.str j)=(i==j):=by
 rw [Bool.eq_iff_iff]
 simp
theorem dec_byt{i j:Array UInt8}:decide (V.byt i=V.byt j)=(i.toList==j.toList):=by
 rw [Bool.eq_iff_iff]
 cases i
 cases j
 simp
section
variable {X:Cx} {a b c:Expr} {ta tb tc:TE} {pos:Pos}
theorem fin_bl{pins:List (Addr×Obj)}{σ:St}{H:Hp}{s:Shared}{Q:VK}{k k':Bool}(I:Inv X pins σ H s)(q:Q (.bl k) H)(e:k=k'):EP X pins σ Q (.bool k') s:=by
 subst e
 exact ⟨.bl k,H,I,rfl,q⟩
theorem op_eq:OpR X (compareOp .Eq) rEq:=by
 intro pins s σ H x y v u Q I rx ry h
 obtain ⟨hs,q⟩:=h
 cases x with
 | non=>
  cases rx
  cases y with
  | non=>cases ry;exact PySem.EqNone.eq_none_none (fin_bl I q (by simp))
  | bl j=>cases ry;exact PySem.EqNone.eq_none_bool (fin_bl I q (by simp))
  | int j=>obtain ⟨t',rfl⟩:=ry;exact PySem.EqNone.eq_none_int (fin_bl I q (by simp))
  | str j=>obtain ⟨t',rfl⟩:=ry;exact PySem.EqNone.eq_none_str (fin_bl I q (by simp))
  | _=>exact absurd (show false=true from hs) Bool.false_ne_true
 | bl i=>
  cases rx
  cases y with
  | non=>cases ry;exact PySem.EqNone.eq_bool_none (fin_bl I q (by simp))
  | bl j=>cases ry;exact eq_bool (fin_bl I q dec_bl)
  | str j=>obtain ⟨t',rfl⟩:=ry;exact PySem.EqMixed.eq_bool_str (fin_bl I q (by simp))
  | _=>exact absurd (show false=true from hs) Bool.false_ne_true
 | int i=>
  obtain ⟨t,rfl⟩:=rx
  cases y with
  | non=>cases ry;exact PySem.EqNone.eq_int_none (fin_bl I q (by simp))
  | int j=>obtain ⟨t',rfl⟩:=ry;exact eq_int (fin_bl I q dec_int)
  | str j=>obtain ⟨t',rfl⟩:=ry;exact PySem.EqMixed.eq_int_str (fin_bl I q (by simp))
  | _=>exact absurd (show false=true from hs) Bool.false_ne_true
 | str i=>
  obtain ⟨t,rfl⟩:=rx
  cases y with
  | non=>cases ry;exact PySem.EqNone.eq_str_none (fin_bl I q (by simp))
  | bl j=>cases ry;exact PySem.EqMixed.eq_str_bool (fin_bl I q (by simp))
  | int j=>obtain ⟨t',rfl⟩:=ry;exact PySem.EqMixed.eq_str_int (fin_bl I q (by simp))
  | str j=>obtain ⟨t',rfl⟩:=ry;exact eq_str (fin_bl I q dec_str)
  | _=>exact absurd (show false=true from hs) Bool.false_ne_true
 | byt i=>
  obtain ⟨t,rfl⟩:=rx
  cases y with
  | byt j=>obtain ⟨t',rfl⟩:=ry;exact PySem.W.eq_bytes (fin_bl I q dec_byt)
  | _=>exact absurd (show false=true from hs) Bool.false_ne_true
 | _=>cases y <;> exact absurd (show false=true from hs) Bool.false_ne_true
theorem op_ne:OpR X (compareOp .NotEq) rNe:=by
 intro pins s σ H x y v u Q I rx ry h
 obtain ⟨hs,q⟩:=h
 cases x with
 | non=>
  cases rx
  cases y with
  | non=>cases ry;exact PySem.EqNone.ne_none_none (fin_bl I q (by simp))
  | bl j=>cases ry;exact PySem.EqNone.ne_none_bool (fin_bl I q (by simp))
  | int j=>obtain ⟨t',rfl⟩:=ry;exact PySem.EqNone.ne_none_int (fin_bl I q (by simp))
  | str j=>obtain ⟨t',rfl⟩:=ry;exact PySem.EqNone.ne_none_str (fin_bl I q (by simp))
  | _=>exact absurd (show false=true from hs) Bool.false_ne_true
 | bl i=>
  cases rx
  cases y with
  | non=>cases ry;exact PySem.EqNone.ne_bool_none (fin_bl I q (by simp))
  | bl j=>cases ry;exact ne_bool (fin_bl I q (congrArg not dec_bl))
  | str j=>obtain ⟨t',rfl⟩:=ry;exact PySem.EqMixed.ne_bool_str (fin_bl I q (by simp))
  | _=>exact absurd (show false=true from hs) Bool.false_ne_true
 | int i=>
  obtain ⟨t,rfl⟩:=rx
  cases y with
  | non=>cases ry;exact PySem.EqNone.ne_int_none (fin_bl I q (by simp))
  | int j=>obtain ⟨t',rfl⟩:=ry;exact ne_int (fin_bl I q (congrArg not dec_int))
  | str j=>obtain ⟨t',rfl⟩:=ry;exact PySem.EqMixed.ne_int_str (fin_bl I q (by simp))
  | _=>exact absurd (show false=true from hs) Bool.false_ne_true
 | str i=>
  obtain ⟨t,rfl⟩:=rx
  cases y with
  | non=>cases ry;exact PySem.EqNone.ne_str_none (fin_bl I q (by simp))
  | bl j=>cases ry;exact PySem.EqMixed.ne_str_bool (fin_bl I q (by simp))
  | int j=>obtain ⟨t',rfl⟩:=ry;exact PySem.EqMixed.ne_str_int (fin_bl I q (by simp))
  | str j=>obtain ⟨t',rfl⟩:=ry;exact ne_str (fin_bl I q (congrArg not dec_str))
  | _=>exact absurd (show false=true from hs) Bool.false_ne_true
 | byt i=>
  obtain ⟨t,rfl⟩:=rx
  cases y with
  | byt j=>obtain ⟨t',rfl⟩:=ry;exact PySem.W.ne_bytes (fin_bl I q (congrArg not dec_byt))
  | _=>exact absurd (show false=true from hs) Bool.false_ne_true
 | _=>cases y <;> exact absurd (show false=true from hs) Bool.false_ne_true
theorem op_lt:OpR X (compareOp .Lt) (rI0 fun i j=> .bl (decide (i < j))):=opB0 fun _ _ _ _ _ _ _ q=>lt_int q
theorem op_le:OpR X (compareOp .LtE) (rI0 fun i j=> .bl (decide (i≤j))):=opB0 fun _ _ _ _ _ _ _ q=>le_int q
theorem op_gt:OpR X (compareOp .Gt) (rI0 fun i j=> .bl (decide (j < i))):=opB0 fun _ _ _ _ _ _ _ q=>gt_int q
theorem op_in_str:OpR X (compareOp .In) (fun x y H Q=>∃i j,x= .str i∧y= .str j∧Q (.bl (!(Builtin.Str.occurrences j i 0 j.length 1).isEmpty)) H):=by
 intro pins s σ H x y v u Q I rx ry h
 obtain ⟨i,j,rfl,rfl,q⟩:=h
 obtain ⟨t,rfl⟩:=rx
 obtain ⟨t',rfl⟩:=ry
 exact in_str (fin_bl I q rfl)
theorem op_isN:OpR X (compareOp .Is) (fun x y H Q=>y= .non∧Q (.bl (decide (x= .non))) H):=by
 intro pins s σ H x y v u Q I rx ry h
 obtain ⟨rfl,q⟩:=h
 cases ry
 refine is_none_gen (fin_bl I q ?_)
 cases x <;> first
  | (cases rx;rfl)
  | (obtain ⟨t,rfl⟩:=rx;rfl)
theorem nomark(b:Expr){op:CmpOp}(h:op≠ .In:=by decide)(h2:op≠ .NotIn:=by decide):behindInMarks op b=false:=by
 have e1:(op==CmpOp.In)=false:=by cases op <;> first | rfl | exact absurd rfl h
 have e2:(op==CmpOp.NotIn)=false:=by cases op <;> first | rfl | exact absurd rfl h2
 cases b <;> simp [behindInMarks,e1,e2]
theorem pe_cmpR{op:CmpOp}{r:R2}(ho:OpR X (compareOp op) r)(ha:PE X a ta)(hb:PE X b tb)(hm:behindInMarks op b=false):PE X (.Compare a [op] [b] pos) (tOp r ta tb):=by
 intro pins s σ H Q I h
 exact wpAny_Compare1 (binT ha hb I h fun v u s2 x y H2 I2 rx ry q=>ho pins s2 σ H2 x y v u Q I2 rx ry q) hm
noncomputable def tTest(t:TE):TT:=fun σ H Q=>t σ H fun x H'=>∃k,x= .bl k∧Q k H'
theorem pt_cmpR{op:CmpOp}{r:R2}(ho:OpR X (compareOp op) r)(ha:PE X a ta)(hb:PE X b tb)(hm:behindInMarks op b=false):PT X (.Compare a [op] [b] pos) (tTest (tOp r ta tb)):=by
 intro pins s σ H Q I h
 refine wpAny_isTrue_Compare1 (thn (ha pins s σ H _ I h) fun v s1 ⟨x,H1,I1,r1,q1⟩=>thn (hb pins s1 σ H1 _ I1 q1) fun u s2 ⟨y,H2,I2,r2,q2⟩=>
  thn (ho pins s2 σ H2 x y v u _ I2 r1 r2 q2) fun c s3 ⟨z,H3,I3,r3,k,e,q3⟩=>?_) hm
 subst e
 cases r3
 exact wpAny_truthy_bool ⟨H3,I3,q3⟩
noncomputable def tChain(r r':R2)(ta tb tc:TE):TE:=fun σ H Q=>ta σ H fun x H1=>tb σ H1 fun y H2=>r x y H2 fun z H3=>∃k,z= .bl k∧
 (if k=true then tc σ H3 fun w' H4=>r' y w' H4 Q else Q (.bl false) H3)
theorem pe_chain{op op':CmpOp}{r r':R2}(ho:OpR X (compareOp op) r)(ho':OpR X (compareOp op') r')(ha:PE X a ta)(hb:PE X b tb)(hc:PE X c tc)
 (hm:lastMarks [op,op'] [b,c]=false:=by with_unfolding_all rfl):PE X (.Compare a [op,op'] [b,c] pos) (tChain r r' ta tb tc):=by
 intro pins s σ H Q I h
 refine Compare_chain (thn (ha pins s σ H _ I h) fun v s1 ⟨x,H1,I1,r1,q1⟩=>chain_link (thn (hb pins s1 σ H1 _ I1 q1) fun u s2 ⟨y,H2,I2,r2,q2⟩=>
  thn (ho pins s2 σ H2 x y v u _ I2 r1 r2 q2) fun d s3 ⟨z,H3,I3,r3,k,e,q3⟩=>?_)) hm
 subst e
 cases r3
 refine wpAny_truthy_bool ?_
 cases k with
 | false=>exact ite_ff ⟨.bl false,H3,I3,rfl,q3⟩
 | true=>exact ite_tt (chain_last (thn (hc pins s3 σ H3 _ I3 q3) fun w' s4 ⟨z',H4,I4,r4,q4⟩=>ho' pins s4 σ H4 y z' u w' Q I4 r2 r4 q4))
theorem line63:(sizeLine:Nat) < 2 ^ 63:=by rw [sizeLine_eq];decide
theorem op_add_str:OpR X (binaryOp .Add) (fun x y H Q=>∃i j,x= .str i∧y= .str j∧i.length+j.length≤sizeLine∧Q (.str (i++j)) H):=by
 intro pins s σ H x y v u Q I rx ry h
 obtain ⟨i,j,rfl,rfl,hz,q⟩:=h
 obtain ⟨t,rfl⟩:=rx
 obtain ⟨t',rfl⟩:=ry
 exact add_str (fun t' tk=>⟨.str (i++j),H,I.tok _,⟨_,rfl⟩,q⟩) hz
theorem vals1{x:V}{us:List Value}(r:Vals [x] us):∃u,us=[u]∧RelV x u:=by
 cases r with
 | cons r1 r2=>cases r2;exact ⟨_,rfl,r1⟩
theorem vals2{x y:V}{us:List Value}(r:Vals [x,y] us):∃u w',us=[u,w']∧RelV x u∧RelV y w':=by
 cases r with
 | cons r1 r2=>
  cases r2 with
  | cons r3 r4=>cases r4;exact ⟨_,_,rfl,r1,r3⟩
theorem call_min2(hc:X.calm=true):CallR X (.builtin "min") (fun xs H Q=>∃i j,xs=[.int i,.int j]∧Q (.int (if j < i then j else i)) H):=by
 intro pins s σ H xs us Q I r h
 obtain ⟨i,j,rfl,q⟩:=h
 obtain ⟨u,w',rfl,⟨t,rfl⟩,⟨t',rfl⟩⟩:=vals2 r
 refine min_two_ints (I.ok.hd hc) fun h' tk k=>⟨_,H,I.kept k,?_,q⟩
 by_cases hj:j < i
 · rw [if_pos hj,if_pos hj];exact ⟨_,rfl⟩
 · rw [if_neg hj,if_neg hj];exact ⟨_,rfl⟩
theorem call_int1:CallR X (.type "int") (fun xs H Q=>(∃i,xs=[.int i]∧Q (.int i) H)∨∃k,xs=[.bl k]∧Q (.int (if k then 1 else 0)) H):=by
 intro pins s σ H xs us Q I r h
 rcases h with ⟨i,rfl,q⟩ | ⟨k,rfl,q⟩
 · obtain ⟨u,rfl,t,rfl⟩:=vals1 r
   exact call_int_int ⟨.int i,H,I,⟨_,rfl⟩,q⟩
 · obtain ⟨u,rfl,r1⟩:=vals1 r
   cases r1
   exact call_int_bool ⟨.int (if k then 1 else 0),H,I.tok _,⟨_,rfl⟩,q⟩
end
end L2
namespace L2
structure ObjM(h:Heap)(x dx C:Addr)(mA:Str→Option Value):Prop where
 obj:h.get? x=some (PySem.W.instObj C dx)
 ns:h.Ns1 dx mA
 ne:dx≠x
theorem lookIn_ns{h:Heap}{dx:Addr}{mA:Str→Option Value}(n:h.Ns1 dx mA):∃od,h.get? dx=some od∧∀name,PySem.W.lookIn name od=some (mA name):=by
 obtain ⟨o,es,ep,ho,hd,hk,_,hm⟩:=n
 refine ⟨o,ho,fun name=>?_⟩
 have e:=hm name
 unfold nsFind findBy at e
 rw [← Array.find?_toList]at e
 unfold PySem.W.lookIn
 rw [hd]
 dsimp only
 split
 · rename_i y q
   rw [q]at e
   exact congrArg some e
 · rename_i q
   rw [q]at e
   have a:es.toList.any (·.refKey)=false:=by
    rw [List.any_eq_false]
    intro y hy
    obtain ⟨z,t,hkey⟩:=hk y (Array.mem_toList_iff.mp hy)
    simp [DictEntry.refKey,hkey]
   have a':¬es.toList.any (·.refKey)=true:=by rw [a];exact Bool.false_ne_true
   rw [if_neg a']
   exact congrArg some e
theorem ObjM.look{h:Heap}{x dx C:Addr}{mA:Str→Option Value}(I:ObjM h x dx C mA):∃od,PySem.W.InstAt h x (PySem.W.instObj C dx) C (some od)∧∀name,PySem.W.lookIn name od=some (mA name):=
 let ⟨od,ho,hl⟩:=lookIn_ns I.ns
 ⟨od,⟨I.obj,rfl,rfl,ho⟩,hl⟩
section
variable {prog:Program} {w:World} {A:Around} {E:Value→Shared→Prop} {s:Shared} {K:PySem.W.Frag} {x dx C f:Addr} {mA:Str→Option Value} {name:Str} {v:Value}
theorem get_map{expr:Bool}{Q:Value→Shared→Prop}(X:K.In s.heap)(I:ObjM s.heap x dx C mA)(hg:PySem.W.plainGet K C name=true)(hh:PySem.W.hasDictIn K C=true)
 (ha:PySem.W.findIn K (.ref C) name=some none) (hv:mA name=some v) (hv':PySem.W.handedIn v=true) (h:Q v {s with toks:=s.toks+1}):
 wpAny (model prog w) A (getAttr (.ref x) name expr) Q E s:=by
 obtain ⟨od,J,hl⟩:=I.look
 exact PySem.W.get_value X J (PySem.W.plainGet_of hg).1 (PySem.W.findObj_own hh ha rfl (by rw [hl,hv])) hv' h
theorem get_meth{pl:Sem Bool}{Q:Value×List Value→Shared→Prop}(X:K.In s.heap)(I:ObjM s.heap x dx C mA)(hg:PySem.W.plainGet K C name=true)
 (hf:PySem.W.findIn K (.ref C) name=some (some (.ref f))) (ht:PySem.W.isFn K (.ref f)=true) (hv:mA name=none) (h:Q (.ref f,[.ref x]) s):
 wpAny (model prog w) A (getMethod (.ref x) name pl) Q E s:=by
 obtain ⟨od,J,hl⟩:=I.look
 exact PySem.W.method_fn X J (PySem.W.plainGet_of hg).1 (PySem.W.plainGet_of hg).2 hf (beq_iff_eq.mp ht) (by show (PySem.W.lookIn name od).map (·.isSome)=some false;rw [hl,hv];rfl) h
theorem set_map{ns:List Str}{Q:Unit→Shared→Prop}(X:K.In s.heap)(I:ObjM s.heap x dx C mA)
 (hs:PySem.W.findIn K (.ref C) "__setattr__"=some (some (.builtin "object.__setattr__"))) (hp:PySem.W.plainOver K C=true) (ht:PySem.W.takerIn K C name=some none) (hh:PySem.W.hasDictIn K C=true)
 (hw:PySem.Within mA ns) (hsz:ns.length≤sizeLine)
 (h:∀h',ObjM h' x dx C (fun y=>if y=name then some v else mA y)→Heap.SameBut dx s.heap h'→Q () {s with heap:=h',toks:=s.toks+2}):
 wpAny (model prog w) A (setAttr (.ref x) name v) Q E s:=by
 obtain ⟨od,J,hl⟩:=I.look
 refine PySem.W.set_plain X J hs (PySem.W.osa_open (s:={s with toks:=s.toks+1}) (r:=none) X J hp ht fun b=>?_)
 obtain ⟨cd,hc,hd'⟩:=PySem.W.any_some hh
 have hx:s.heap.get? x=some ⟨.ref C,some dx,.plain,#[]⟩:=I.obj
 refine wpAny_bind (wpAny_pure (wpAny_bind (wpAny_bind (wpAny_loadPart hx (wpAny_bind (PySem.W.Looks.here (s:={s with toks:=s.toks+1}) (PySem.W.looks_clsIn X hc) ?_))))))
 rw [hd']
 refine wpAny_pure (a:=some dx) (wpAny_bind (wpAny_pure (wpAny_bind ?_)))
 refine wpAny_nsSet1 (s:={s with toks:=s.toks+1}) I.ns fun h' hn2 hs2=>?_
 obtain ⟨oD,esD,epD,hoD,hdD,hcD⟩:=hn2.count (PySem.Within.cons name v hw)
 refine wpAny_bind (wpAny_lookBehind hoD (by rw [hdD];exact pastItsLine_dict (Nat.le_trans hcD (by rw [List.length_cons];omega))) ?_)
 exact wpAny_pure (h _ ⟨(hs2.2 _ (Ne.symm I.ne)).trans I.obj,hn2,I.ne⟩ hs2)
theorem make_map{R:Result→Shared→Prop}{vs:List Value}{kw:List (Str×Value)}(X:K.In s.heap)(hm:PySem.W.makesIn K C=true)
 (hi:PySem.W.findIn K (.ref C) "__init__"=some (some (.ref f))) (hf:PySem.W.typeIn K (.ref f)=some (.type "function"))
 (h:codeAny (model prog w) (A.under (.builtin "type.__call__" ⟨.ref C::vs,kw⟩)) (.call (.ref f) ⟨.ref (s.heap.objs.size+1)::vs,kw⟩) (PySem.W.InitBack (s.heap.objs.size+1) R)
  {s with heap:=(s.heap.push PySem.W.emptyDict).push (PySem.W.instObj C s.heap.objs.size)}):
 codeAny (model prog w) A (.call (.ref C) ⟨vs,kw⟩) R s:=by
 obtain ⟨hh,g,d,t,os⟩:=s
 exact PySem.W.make_core (PySem.W.makes_of X hm) (PySem.W.looks_findIn X hi) (fun self=>PySem.W.bind_fn X self hf) (.inl rfl) h
end
noncomputable def putF(f:Str)(v:V):List (Str×V)→List (Str×V)
 | []=>[(f,v)]
 | (g,x)::r=>if g=f then (g,v)::r else (g,x)::putF f v r
theorem lookup_putF(f g:Str)(v:V):∀fs:List (Str×V),(putF f v fs).lookup g=if g=f then some v else fs.lookup g
 | []=>by
  show List.lookup g [(f,v)]=_
  by_cases h:g=f
  · have hb:(g==f)=true:=beq_iff_eq.mpr h
    simp only [List.lookup,hb,if_pos h]
  · have hb:(g==f)=false:=beq_eq_false_iff_ne.mpr h
    simp only [List.lookup,hb,if_neg h]
 | (k,x)::r=>by
  have ih:=lookup_putF f g v r
  rw [show putF f v ((k,x)::r)=(if k=f then (k,v)::r else (k,x)::putF f v r) from rfl]
  by_cases hk:k=f
  · rw [if_pos hk]
    by_cases h:g=k
    · have hb:(g==k)=true:=beq_iff_eq.mpr h
      simp only [List.lookup,hb,if_pos (h.trans hk)]
    · have hb:(g==k)=false:=beq_eq_false_iff_ne.mpr h
      simp only [List.lookup,hb,if_neg (fun e:g=f=>h (e.trans hk.symm))]
  · rw [if_neg hk]
    by_cases h:g=k
    · have hb:(g==k)=true:=beq_iff_eq.mpr h
      simp only [List.lookup,hb,if_neg (fun e:g=f=>hk (h.symm.trans e))]
    · have hb:(g==k)=false:=beq_eq_false_iff_ne.mpr h
      simp only [List.lookup,hb]
      exact ih
theorem keys_putF(f:Str)(v:V):∀fs:List (Str×V),f∈(putF f v fs).map (·.1)∧∀g,g∈fs.map (·.1)→g∈(putF f v fs).map (·.1)
 | []=>⟨by simp [putF],fun g h=>by simp at h⟩
 | (k,x)::r=>by
  obtain ⟨i1,i2⟩:=keys_putF f v r
  rw [show putF f v ((k,x)::r)=(if k=f then (k,v)::r else (k,x)::putF f v r) from rfl]
  by_cases hk:k=f
  · rw [if_pos hk]
    subst hk
    exact ⟨by simp,fun g h=>by simpa using h⟩
  · rw [if_neg hk]
    refine ⟨?_,fun g h=>?_⟩
    · rw [List.map_cons]
      exact List.mem_cons_of_mem _ i1
    · rw [List.map_cons]at h ⊢
      rcases List.mem_cons.mp h with e | e
      · exact List.mem_cons.mpr (.inl e)
      · exact List.mem_cons_of_mem _ (i2 g e)
theorem length_putF(f:Str)(v:V):∀fs:List (Str×V),(putF f v fs).length≤fs.length+1
 | []=>by simp [putF]
 | (k,x)::r=>by
  have ih:=length_putF f v r
  rw [show putF f v ((k,x)::r)=(if k=f then (k,v)::r else (k,x)::putF f v r) from rfl]
  by_cases hk:k=f
  · rw [if_pos hk,List.length_cons,List.length_cons];omega
  · rw [if_neg hk,List.length_cons,List.length_cons];omega
theorem RelO.some_of{v:V}{o:Option Value}(r:RelO (some v) o):∃u,o=some u∧RelV v u:=by
 cases o with
 | none=>exact (show False from r).elim
 | some u=>exact ⟨u,rfl,r⟩
theorem RelO.none_of{o:Option Value}(r:RelO none o):o=none:=by
 cases o with
 | none=>rfl
 | some u=>exact (show False from r).elim
theorem handed_of{v:V}{u:Value}(r:RelV v u):PySem.W.handedIn u=true:=by
 cases v with
 | non=>cases (show u=Value.none from r);rfl
 | bl b=>cases (show u=Value.bool b from r);rfl
 | int i=>obtain ⟨t,e⟩:=(show ∃t,u=Value.int i t from r);cases e;rfl
 | str x=>obtain ⟨t,e⟩:=(show ∃t,u=Value.str x t from r);cases e;rfl
 | byt b=>obtain ⟨t,e⟩:=(show ∃t,u=Value.bytes b t from r);cases e;rfl
 | flt b=>obtain ⟨t,e⟩:=(show ∃t,u=Value.float b t from r);cases e;rfl
 | ref a=>cases (show u=Value.ref a from r);rfl
 | ty n=>cases (show u=Value.type n from r);rfl
section
variable {P:Program} {w:World} {H H':Hp} {h h':Heap} {a C dx:Addr} {fs fs':List (Str×V)}
theorem ins_get(hok:HOk P w H h)(e:H a=some (.ins C dx fs)):∃mA,ObjM h a dx C mA∧(∀f,RelO (fs.lookup f) (mA f))∧PySem.Within mA (fs.map (·.1))∧fs.length≤1000∧H dx=some (.own a):=by
 obtain ⟨d,z,ne,ob,mA,n,r,q⟩:=(show ObjOk P w H h a (.ins C dx fs) from hok a _ e)
 exact ⟨mA,⟨ob,n,ne⟩,r,q,z,d⟩
end
structure Cls(K:PySem.W.Frag)(C:Addr):Prop where
 pg:PySem.W.plainGet K C Str.empty=true
 hd:PySem.W.hasDictIn K C=true
 po:PySem.W.plainOver K C=true
 sa:PySem.W.findIn K (.ref C) "__setattr__"=some (some (.builtin "object.__setattr__"))
theorem Cls.get{K:PySem.W.Frag}{C:Addr}(c:Cls K C)(f:Str):PySem.W.plainGet K C f=true:=c.pg
noncomputable def NoAttr(K:PySem.W.Frag)(C:Addr)(f:Str):Prop:=PySem.W.findIn K (.ref C) f=some none
theorem NoAttr.taker{K:PySem.W.Frag}{C:Addr}{f:Str}(n:NoAttr K C f):PySem.W.takerIn K C f=some none:=by
 unfold PySem.W.takerIn
 rw [show PySem.W.findIn K (.ref C) f=some none from n]
 rfl
structure Meth(K:PySem.W.Frag)(C:Addr)(m:Str)(f:Addr):Prop where
 at_:PySem.W.findIn K (.ref C) m=some (some (.ref f))
 fn:PySem.W.isFn K (.ref f)=true
 kp:PySem.W.keepIn K (.ref f)=true
section
variable {X:Cx} {pins:List (Addr×Obj)} {σ:St} {H:Hp} {s:Shared} {a C dx:Addr} {fs:List (Str×V)} {f:Str} {v:V} {A:Around} {E:Value→Shared→Prop}
theorem getattr_ok{b:Bool}{Q:Value→Shared→Prop}(I:Inv X pins σ H s)(e:H a=some (.ins C dx fs))(c:Cls X.K C)(n:NoAttr X.K C f)(l:fs.lookup f=some v)
 (h:∀u s',Inv X pins σ H s'→RelV v u→Q u s'):wpAny (model X.prog X.w) A (getAttr (.ref a) f b) Q E s:=by
 obtain ⟨mA,O,r,_,_,_⟩:=ins_get I.hok e
 obtain ⟨u,hu,ru⟩:=RelO.some_of (v:=v) (o:=mA f) (by rw [← l];exact r f)
 exact get_map I.kIn O (c.get f) c.hd n hu (handed_of ru) (h u _ (I.tok _) ru)
theorem getmeth_ok{m:Str}{g:Addr}{pl:Sem Bool}{Q:Value×List Value→Shared→Prop}(I:Inv X pins σ H s)(e:H a=some (.ins C dx fs))(c:Cls X.K C)(k:Meth X.K C m g)(l:fs.lookup m=none)
 (h:Q (.ref g,[.ref a]) s):wpAny (model X.prog X.w) A (getMethod (.ref a) m pl) Q E s:=by
 obtain ⟨mA,O,r,_,_,_⟩:=ins_get I.hok e
 have hn:mA m=none:=RelO.none_of (by rw [← l];exact r m)
 exact get_meth I.kIn O (c.get m) k.at_ k.fn hn h
theorem setattr_ok{y:V}{u:Value}{Q:Unit→Shared→Prop}(I:Inv X pins σ H s)(e:H a=some (.ins C dx fs))(c:Cls X.K C)(n:NoAttr X.K C f)(hl:fs.length < 1000)(ry:RelV y u)
 (h:∀s',Inv X pins σ (upd H a (.ins C dx (putF f y fs))) s'→Q () s'):wpAny (model X.prog X.w) A (setAttr (.ref a) f u) Q E s:=by
 obtain ⟨mA,O,r,wi,_,ho⟩:=ins_get I.hok e
 have hz:(fs.map (·.1)).length≤sizeLine:=by rw [List.length_map,sizeLine_eq];omega
 refine set_map I.kIn O c.sa c.po n.taker c.hd wi hz fun h' O' sb=>h _ ?_
 have hd:∃o,h'.get? dx=some o:=let ⟨o,_,_,e',_⟩:=O'.ns;⟨o,e'⟩
 refine I.write (x:=a) (e:=dx) (by rw [e];exact True.intro) (.inr ho) (fun b q hb z=>(sb.2 b hb).trans z) hd ?_
 refine ⟨by rw [upd_ne O.ne];exact ho,?_,O.ne,O'.obj,_,O'.ns,fun g=>?_,fun g hg=>?_⟩
 · have:=length_putF f y fs;omega
 · show RelO ((putF f y fs).lookup g) (if g=f then some u else mA g)
   rw [lookup_putF]
   by_cases q:g=f
   · rw [if_pos q,if_pos q];exact ry
   · rw [if_neg q,if_neg q];exact r g
 · by_cases q:g=f
   · rw [q];exact (keys_putF f y fs).1
   · refine (keys_putF f y fs).2 g (wi g fun z=>hg ?_)
     show (if g=f then some u else mA g)=none
     rw [if_neg q];exact z
theorem Inv.made(I:Inv X pins σ H s):Inv X pins σ (upd (upd H s.heap.objs.size (.own (s.heap.objs.size+1))) (s.heap.objs.size+1) (.ins C s.heap.objs.size []))
 {s with heap:=(s.heap.push PySem.W.emptyDict).push (PySem.W.instObj C s.heap.objs.size)}:=by
 have e1:(s.heap.push PySem.W.emptyDict).get? s.heap.objs.size=some PySem.W.emptyDict:=Heap.get?_push_size s.heap rfl
 have e2:((s.heap.push PySem.W.emptyDict).push (PySem.W.instObj C s.heap.objs.size)).get? (s.heap.objs.size+1)=some (PySem.W.instObj C s.heap.objs.size):=by
  have:=Heap.get?_push_size (s.heap.push PySem.W.emptyDict) (o:=PySem.W.instObj C s.heap.objs.size) rfl
  rwa [Heap.size_push]at this
 have e3:(s.heap.push PySem.W.emptyDict).Ns s.heap.objs.size (fun _=>none):=⟨PySem.W.emptyDict,#[],_,e1,rfl,(fun e he=>absurd he (by simp)),fun _=>rfl⟩
 have I1:=I.laid (a:=s.heap.objs.size) (o:= .own (s.heap.objs.size+1)) (h':=s.heap.push PySem.W.emptyDict) (t':=s.toks) (fun b u q=>Heap.get?_push_of_some _ q) (Nat.le_refl _) ⟨_,e1⟩
 refine I1.laid (a:=s.heap.objs.size+1) (o:= .ins C s.heap.objs.size []) (t':=s.toks) (fun b u q=>Heap.get?_push_of_some _ q) (Nat.le_of_eq (Heap.size_push _ _)) ?_
 have ne:s.heap.objs.size≠s.heap.objs.size+1:=Nat.ne_of_lt (Nat.lt_succ_self _)
 refine ⟨by rw [upd_ne ne,upd_same],Nat.zero_le _,ne,e2,fun _=>none,(Heap.Ns1.of_empty e3).at fun o q=>Heap.get?_push_of_some _ q,fun _=>True.intro,fun y hy=>absurd rfl hy⟩
theorem attr_of{prog:Program}{w:World}{env:Env}{e:Expr}{f:Str}{pos:Pos}{s:Shared}{Q:Value→Shared→Prop}(hb:attributeBase e f env (eval e env)=eval e env)
 (h:wpAny (model prog w) A (eval e env) (fun o s₁=>wpAny (model prog w) A (getAttr o f true) Q E s₁) E s):wpAny (model prog w) A (eval (.Attribute e f pos) env) Q E s:=
 Attribute_any_ h (by rw [arm_eval_Attribute,hb])
end
noncomputable def tFld(K:PySem.W.Frag)(ta:TE)(f:Str):TE:=fun σ H Q=>ta σ H fun x H1=>∃a C dx fs v,x= .ref a∧H1 a=some (.ins C dx fs)∧Cls K C∧NoAttr K C f∧fs.lookup f=some v∧Q v H1
noncomputable def sFld(K:PySem.W.Frag)(ta tv:TE)(f:Str):TS:=fun D σ H=>tv σ H fun y H1=>ta σ H1 fun x H2=>∃a C dx fs,x= .ref a∧H2 a=some (.ins C dx fs)∧Cls K C∧NoAttr K C f∧fs.length < 1000∧
 D.nx σ (upd H2 a (.ins C dx (putF f y fs)))
noncomputable def InOp(X:Cx)(op:Operator)(rd:V→V→Hp→VK→Prop):Prop:=
 ∀(pins:List (Addr×Obj)) (s:Shared) (σ:St) (H:Hp) (x y:V) (u v:Value) (Q:VK),Inv X pins σ H s→RelV x u→RelV y v→rd x y H Q→wpAny (model X.prog X.w) X.A (inplaceOp op u v) (EP X pins σ Q) X.xe s
noncomputable def sFldAug(K:PySem.W.Frag)(ta tv:TE)(rd:V→V→Hp→VK→Prop)(f:Str):TS:=fun D σ H=>ta σ H fun x H1=>∃a C dx fs v,x= .ref a∧H1 a=some (.ins C dx fs)∧Cls K C∧NoAttr K C f∧fs.lookup f=some v∧
 tv σ H1 fun y H2=>rd v y H2 fun z H3=>∃dx' fs',H3 a=some (.ins C dx' fs')∧fs'.length < 1000∧D.nx σ (upd H3 a (.ins C dx' (putF f z fs')))
section
variable {X:Cx} {o e value:Expr} {f:Str} {pos pos' tpos:Pos} {ta tv:TE}
theorem pe_fld(he:PE X e ta)(hb:attributeBase e f X.env (eval e X.env)=eval e X.env):PE X (.Attribute e f pos) (tFld X.K ta f):=by
 intro pins s σ H Q I h
 refine attr_of hb (thn (he pins s σ H _ I h) fun u s1 hq_=>?_)
 obtain ⟨x,H1,I1,rx,a,C,dx,fs,v,ex,ea,c,n,l,q⟩:=hq_
 subst ex
 obtain rfl:u=Value.ref a:=rx
 exact getattr_ok I1 ea c n l fun u' s2 I2 ru=>⟨v,H1,I2,ru,q⟩
theorem ps_fld(ha:PE X o ta)(hv:PE X value tv)(hs:swapsWith value (some (.Attribute o f pos')) pos.line X.env=pure false):PS X (.Assign [.Attribute o f pos'] value pos) (sFld X.K ta tv f):=by
 intro pins s σ H D I h
 refine plainObj_wpAny_Assign_Attribute (thn (hv pins s σ H _ I h) fun u s1 ⟨y,H1,I1,ry,q⟩=>thn (ha pins s1 σ H1 _ I1 q) fun ov s2 hq_=>?_) hs
 obtain ⟨x,H2,I2,rx,a,C,dx,fs,ex,ea,c,n,l,q2⟩:=hq_
 subst ex
 obtain rfl:ov=Value.ref a:=rx
 exact setattr_ok I2 ea c n l ry fun s3 I3=>⟨σ,_,I3,q2⟩
theorem ps_fldaug{op:Operator}{rd:V→V→Hp→VK→Prop}(ha:PE X o ta)(hv:PE X value tv)(hop:InOp X op rd):PS X (.AugAssign (.Attribute o f tpos) op value pos) (sFldAug X.K ta tv rd f):=by
 intro pins s σ H D I h
 refine wpAny_AugAssign_AttributeAny (thn (ha pins s σ H _ I h) fun ov s1 hq_=>?_)
 obtain ⟨x,H1,I1,rx,a,C,dx,fs,v,ex,ea,c,n,l,q⟩:=hq_
 subst ex
 obtain rfl:ov=Value.ref a:=rx
 refine getattr_ok I1 ea c n l fun u s2 I2 ru=>thn (hv pins s2 σ H1 _ I2 q) fun w3 s3 ⟨y,H2,I3,ry,q3⟩=>thn (hop pins s3 σ H2 v y u w3 _ I3 ru ry q3) fun w4 s4 hq_=>?_
 obtain ⟨z,H3,I4,rz,dx',fs',ea',l',q4⟩:=hq_
 exact setattr_ok I4 ea' c n l' rz fun s5 I5=>⟨σ,_,I5,q4⟩
noncomputable def rAdd:V→V→Hp→VK→Prop:=fun x y H Q=>∃i j,x= .int i∧y= .int j∧Q (.int (i+j)) H
theorem in_add:InOp X .Add rAdd:=by
 rintro pins s σ H x y u v Q I rx ry ⟨i,j,rfl,rfl,q⟩
 obtain ⟨t,rfl⟩:=(show ∃t,u=Value.int i t from rx)
 obtain ⟨t',rfl⟩:=(show ∃t',v=Value.int j t' from ry)
 exact PyProof.Rows.iadd_int ⟨.int (i+j),H,I.tok _,⟨_,rfl⟩,q⟩
end
section
variable {X:Cx} {pins:List (Addr×Obj)} {σ:St} {H:Hp} {s:Shared} {A:Around} {E:Value→Shared→Prop} {Q:Value→Shared→Prop} {c:Value} {b:Bool}
inductive TyOf(K:PySem.W.Frag)(H:Hp):V→Value→Prop where
 | non:TyOf K H .non (.type "NoneType")
 | bl (x:Bool):TyOf K H (.bl x) (.type "bool")
 | int (i:Int):TyOf K H (.int i) (.type "int")
 | str (x:Str):TyOf K H (.str x) (.type "str")
 | flt (x:UInt64):TyOf K H (.flt x) (.type "float")
 | lst {a:Addr} {xs:List V} (e:H a=some (.lst xs)):TyOf K H (.ref a) (.type "list")
 | frz {a:Addr} {o:Obj} {xs:List V} (e:H a=some (.frz o (.lst xs))):TyOf K H (.ref a) (.type "list")
 | tup {a:Addr} {xs:List V} (e:H a=some (.tup xs)):TyOf K H (.ref a) (.type "tuple")
 | dK {a:Addr} {kvs:List (Key×V)} (e:H a=some (.dK kvs)):TyOf K H (.ref a) (.type "dict")
 | dT {a:Addr} {kvs:List (List Key×V)} (e:H a=some (.dT kvs)):TyOf K H (.ref a) (.type "dict")
 | ins {a C dx:Addr} {fs:List (Str×V)} (e:H a=some (.ins C dx fs)) (cl:Cls K C) (ha:PySem.W.findIn K (.ref C) "__class__"=some (some (.builtin "object.__class__")))
  (hn:PySem.W.specialIn K (.builtin "object.__class__") "__get__"=some (some (.builtin "getset_descriptor.__get__"))) (htk:PySem.W.takesIn K (.builtin "object.__class__")=some true)
  (hm:PySem.W.mroIn K C (.type "object")=some true):TyOf K H (.ref a) (.ref C)
theorem isinst_ok{x:V}{u t:Value}(I:Inv X pins σ H s)(rx:RelV x u)(ty:TyOf X.K H x t)(e:PySem.W.kitOne X.K t c=some b)(h:∀tk,Q (.bool b) {s with toks:=tk}):
 wpAny (model X.prog X.w) A (call (.builtin "isinstance") [u,c]) Q E s:=by
 cases ty with
 | non=>cases (show u=Value.none from rx);exact PySem.W.kia_one PySem.W.kitx_none I.kIn True.intro e (fun z=>nomatch z) h
 | bl y=>cases (show u=Value.bool y from rx);exact PySem.W.kia_one PySem.W.kitx_bool I.kIn True.intro e (fun z=>nomatch z) h
 | int i=>obtain ⟨t,q⟩:=(show ∃t,u=Value.int i t from rx);cases q;exact PySem.W.kia_one PySem.W.kitx_int I.kIn True.intro e (fun z=>nomatch z) h
 | str y=>obtain ⟨t,q⟩:=(show ∃t,u=Value.str y t from rx);cases q;exact PySem.W.kia_one PySem.W.kitx_str I.kIn True.intro e (fun z=>nomatch z) h
 | flt y=>obtain ⟨t,q⟩:=(show ∃t,u=Value.float y t from rx);cases q;exact PySem.W.kia_one PySem.W.kitx_float I.kIn True.intro e (fun z=>nomatch z) h
 | @lst a xs ea=>
  cases (show u=Value.ref a from rx)
  obtain ⟨_,_,n,_,h1⟩:=(show ObjOk X.prog X.w H s.heap a (.lst xs) from I.hok a _ ea)
  exact PySem.W.kia_one PySem.W.kitx_list I.kIn ⟨_,h1,rfl⟩ e (fun z=>nomatch z) h
 | @frz a ob xs ea=>
  cases (show u=Value.ref a from rx)
  obtain ⟨_,_,_,n,_,h1⟩:=(show ObjOk X.prog X.w H s.heap a (.frz ob (.lst xs)) from I.hok a _ ea)
  exact PySem.W.kia_one PySem.W.kitx_list I.kIn ⟨_,h1,rfl⟩ e (fun z=>nomatch z) h
 | @tup a xs ea=>
  cases (show u=Value.ref a from rx)
  obtain ⟨_,_,_,p⟩:=(show ObjOk X.prog X.w H s.heap a (.tup xs) from I.hok a _ ea)
  obtain ⟨o,h1,h2,_⟩:=p
  exact PySem.W.kia_one PySem.W.kitx_tuple I.kIn ⟨o,h1,h2⟩ e (fun z=>nomatch z) h
 | @dK a kvs ea=>
  cases (show u=Value.ref a from rx)
  obtain ⟨_,_,vs,_,p⟩:=(show ObjOk X.prog X.w H s.heap a (.dK kvs) from I.hok a _ ea)
  obtain ⟨o,es,ep,h1,h2,_⟩:=p
  exact PySem.W.kia_one PySem.W.kitx_dict I.kIn ⟨o,h1,h2.1⟩ e (fun z=>nomatch z) h
 | @dT a kvs ea=>
  cases (show u=Value.ref a from rx)
  obtain ⟨_,_,xs,_,o,es,ep,h1,h2,_⟩:=(show ObjOk X.prog X.w H s.heap a (.dT kvs) from I.hok a _ ea)
  exact PySem.W.kia_one PySem.W.kitx_dict I.kIn ⟨o,h1,h2.1⟩ e (fun z=>nomatch z) h
 | @ins a C dx fs ea cl ha hn htk hm=>
  cases (show u=Value.ref a from rx)
  obtain ⟨mA,O,_⟩:=ins_get I.hok ea
  obtain ⟨od,J,_⟩:=O.look
  exact PySem.W.kia_one (PySem.W.kitx_own (cl.get _) cl.hd ha hn htk hm) I.kIn J e (fun z=>nomatch z) h
end
end L2
namespace L2
structure Room(k:Nat)(A:Around):Prop where
 hd:A.handled=none
 dp:A.depth+3 * k+5 < recursionLimit
 un:A.units+16 * k+200 < cLine
theorem Room.mono{j k:Nat}{A:Around}(r:Room k A)(h:j≤k):Room j A:=⟨r.hd,by have:=r.dp;omega,by have:=r.un;omega⟩
theorem Room.deeper{k:Nat}{A:Around}(r:Room (k+1) A)(env:Env):Room k (A.deeper env):=
 ⟨r.hd,by have:=r.dp;show A.depth+1+3 * k+5 < _;omega,by have:=r.un;show A.units+3+16 * k+200 < _;omega⟩
theorem Room.in1{k:Nat}{A:Around}(r:Room (k+1) A):Room k A.in1:=
 ⟨r.hd,by have:=r.dp;show A.depth+3 * k+5 < _;omega,by have:=r.un;show A.units+1+16 * k+200 < _;omega⟩
theorem make_depth{A:Around}{C:Addr}{us:List Value}{kw:List (Str×Value)}:(A.under (.builtin "type.__call__" ⟨.ref C::us,kw⟩)).depth=A.depth+1:=by
 first | rfl | simp [Around.under,Code.weight,Code.isCreation,Code.isGuard,Code.isCaller,Code.frames,Code.isFrame,guardIds]
theorem make_units{A:Around}{C:Addr}{us:List Value}{kw:List (Str×Value)}:(A.under (.builtin "type.__call__" ⟨.ref C::us,kw⟩)).units=A.units+1:=by
 first | rfl | simp [Around.under,Code.cUnits,Code.frames,Code.isFrame]
theorem Room.make{k:Nat}{A:Around}(r:Room (k+1) A)(C:Addr)(us:List Value)(kw:List (Str×Value)):Room k (A.under (.builtin "type.__call__" ⟨.ref C::us,kw⟩)):=
 ⟨r.hd,by have:=r.dp;rw [make_depth];omega,by have:=r.un;rw [make_units];omega⟩
theorem Room.depth{k:Nat}{A:Around}(r:Room k A):A.depth < recursionLimit:=by have:=r.dp;omega
theorem Room.units{k:Nat}{A:Around}(r:Room k A):A.units+64 < cLine:=by have:=r.un;omega
noncomputable def tNil:TA:=fun _ H Q=>Q [] H
noncomputable def tCons(ta:TE)(tr:TA):TA:=fun σ H Q=>ta σ H fun x H1=>tr σ H1 fun xs H2=>Q (x::xs) H2
section
variable {X:Cx} {e:Expr} {es:List Expr} {te:TE} {t:TA} {pos:Pos}
theorem pa_nil:PA X [] tNil:=fun _ _ _ _ H Q I h=>Calls.spliced_nil ⟨[],H,I,.nil,h⟩
theorem pa_cons(ha:PE X e te)(hr:PA X es t)(hs:starEach (e::es) X.env=(false,eval e X.env)::starEach es X.env:=by rfl):PA X (e::es) (tCons te t):=by
 intro pos pins s σ H Q I h
 rw [hs]
 show wpAny _ _ (spliced ((false,eval e X.env)::backTo pos (starEach es X.env))) _ _ s
 refine Calls.spliced_cons (thn (ha pins s σ H _ I h) fun u s1 hq_=>?_)
 obtain ⟨x,H1,I1,r1,q1⟩:=hq_
 exact thn (hr pos pins s1 σ H1 _ I1 q1) fun us s2 ⟨xs,H2,I2,r2,q2⟩=>⟨x::xs,H2,I2,.cons r1 r2,q2⟩
noncomputable def tTup(t:TA):TE:=fun σ H Q=>t σ H fun xs H1=>xs.length≤sizeLine∧∀p,H1 p=none→Q (.ref p) (upd H1 p (.tup xs))
noncomputable def tLst(t:TA):TE:=fun σ H Q=>t σ H fun xs H1=>xs.length≤sizeLine∧∀p,H1 p=none→Q (.ref p) (upd H1 p (.lst xs))
theorem pe_tup{x1}(h:PA X es t):PE X (.Tuple es x1 pos) (tTup t):=by
 intro pins s σ H Q I hq
 refine wpAny_Tuple_spliced (thn (h pos pins s σ H _ I hq) fun us s1 ⟨xs,H1,I1,r,z,q⟩=>⟨by rw [← r.length];exact z,?_⟩)
 have hf:H1 s1.heap.objs.size=none:=I1.hok.fresh (Nat.le_refl _)
 refine ⟨.ref s1.heap.objs.size,upd H1 s1.heap.objs.size (.tup xs),I1.laid (t':=s1.toks) (fun b u e=>Heap.get?_push_of_some _ e) (Nat.le_refl _) ?_,rfl,q _ hf⟩
 exact ⟨z,us,r,⟨_,Heap.get?_push_size _ rfl,rfl,_,rfl⟩⟩
theorem pe_lst(h:PA X es t):PE X (.List es pos) (tLst t):=by
 intro pins s σ H Q I hq
 refine wpAny_List_spliced (thn (h pos pins s σ H _ I hq) fun us s1 ⟨xs,H1,I1,r,z,q⟩=>⟨by rw [← r.length];exact z,?_⟩)
 have hf:H1 s1.heap.objs.size=none:=I1.hok.fresh (Nat.le_refl _)
 refine ⟨.ref s1.heap.objs.size,upd H1 s1.heap.objs.size (.lst xs),I1.laid (t':=s1.toks) (fun b u e=>Heap.get?_push_of_some _ e) (Nat.le_refl _) ?_,rfl,q _ hf⟩
 exact ⟨z,us,0,r,Heap.get?_push_size _ rfl⟩
end
noncomputable abbrev Sp:=List V→Hp→VK→XK→Prop
noncomputable abbrev CXT:=List Env→Hp→Shared→XK→Value→Shared→Prop
structure Env0(P:Program)(w:World)(K:PySem.W.Frag)(mg:Str→Option Value)(base:Heap)(A:Around)(outer:List Env)(s:Shared)(H:Hp):Prop where
 frames:A.frames=some outer
 mod:Mod K mg base
 bs:∀b o,base.get? b=some o→s.heap.get? b=some o∧H b=none
 bsz:base.objs.size≤s.heap.objs.size
 funs:s.heap.FunFrames base outer
 frf:∀b∈frs outer,H b=none
 hok:HOk P w H s.heap
 bare:AllBare s.gens
noncomputable def CE(outer:List Env)(P:Program)(w:World)(H:Hp)(s:Shared)(Q:VK)(u:Value)(s':Shared):Prop:=
 ∃v H',s'.os=s.os∧AllBare s'.gens∧Un (frs outer) [] H H' s.heap s'.heap∧HOk P w H' s'.heap∧RelV v u∧Q v H'
noncomputable def CR(CX:CXT)(outer:List Env)(P:Program)(w:World)(H:Hp)(s:Shared)(Q:VK)(E:XK)(r:Result)(s':Shared):Prop:=
 match r with
 | .ok (.ret u)=>CE outer P w H s Q u s'
 | .ok _=>False
 | .error e=>CX outer H s E e s'
structure FnOk(P:Program)(w:World)(K:PySem.W.Frag)(mg:Str→Option Value)(base:Heap)(CX:CXT)(k:Nat)(f:Addr)(fd:FuncData)(ps:List Str)(sp:Sp):Prop where
 len:∀vs H Q E,sp vs H Q E→vs.length=ps.length
 run:∀(A:Around) (outer:List Env) (s:Shared) (H:Hp) (args:Args) (us:List Value) (vs:List V) (Q:VK) (E:XK),Room k A→Env0 P w K mg base A outer s H→BindsTo s fd args (ps.zip us)→Vals vs us→sp vs H Q E→
  codeAny (model P w) A (.call (.ref f) args) (CR CX outer P w H s Q E) s
theorem FnOk.mono{P:Program}{w:World}{K:PySem.W.Frag}{mg:Str→Option Value}{base:Heap}{CX:CXT}{j k:Nat}{f:Addr}{fd:FuncData}{ps:List Str}{sp:Sp}(F:FnOk P w K mg base CX j f fd ps sp)(h:j≤k):
 FnOk P w K mg base CX k f fd ps sp:=⟨F.len,fun A outer s H args us vs Q E hr=>F.run A outer s H args us vs Q E (hr.mono h)⟩
theorem Env0.make{P:Program}{w:World}{K:PySem.W.Frag}{mg:Str→Option Value}{base:Heap}{A:Around}{outer:List Env}{s:Shared}{H:Hp}(e:Env0 P w K mg base A outer s H)(C:Addr)(us:List Value)(kw:List (Str×Value)):
 Env0 P w K mg base (A.under (.builtin "type.__call__" ⟨.ref C::us,kw⟩)) outer s H:=⟨by first | exact e.frames | (simpa [Around.under,Code.envs,Code.isFrame,pushEnvs] using e.frames),e.mod,e.bs,e.bsz,e.funs,e.frf,e.hok,e.bare⟩
theorem Env0.in1{P:Program}{w:World}{K:PySem.W.Frag}{mg:Str→Option Value}{base:Heap}{A:Around}{outer:List Env}{s:Shared}{H:Hp}(e:Env0 P w K mg base A outer s H):
 Env0 P w K mg base A.in1 outer s H:=⟨e.frames,e.mod,e.bs,e.bsz,e.funs,e.frf,e.hok,e.bare⟩
section
variable {X:Cx} {pins:List (Addr×Obj)} {σ:St} {H:Hp} {s s':Shared}
theorem Inv.env0(I:Inv X pins σ H s):Env0 X.prog X.w X.K X.mg X.base X.A X.stack s H:=
 ⟨I.ok.frames,I.ok.mod,I.bs,Nat.le_trans I.ok.bsz I.sz,I.stack,I.stkFree,I.hok,I.bare⟩
theorem Inv.after{Q:VK}{u:Value}(I:Inv X pins σ H s)(h:CE X.stack X.prog X.w H s Q u s'):EP X pins σ Q u s':=by
 obtain ⟨v,H',os,bare,un,hok,r,q⟩:=h
 obtain ⟨hh,g,d,t,os'⟩:=s'
 obtain rfl:os'=s.os:=os
 exact ⟨v,H',I.call (h':=hh) (g':=g) (d':=d) (t':=t) (ch:=[]) un hok bare (fun b z=>absurd z (by simp)),r,q⟩
end
noncomputable def tCall(sp:Sp)(dvs:List V)(E:XK)(t:TA):TE:=fun σ H Q=>t σ H fun vs H1=>sp (vs++dvs) H1 Q E
noncomputable def Binds(K:PySem.W.Frag)(fd:FuncData)(ps:List Str)(ds:List Value):Prop:=
 ∀(s:Shared) (us:List Value),K.In s.heap→(us++ds).length=ps.length→BindsTo s fd ⟨us,[]⟩ (ps.zip (us++ds))
theorem Binds.all{K:PySem.W.Frag}{fd:FuncData}{ps:List Str}(h:∀us:List Value,us.length=ps.length→bindArgs fd ⟨us,[]⟩=pure (ps.zip us)):Binds K fd ps []:=fun s us _ hl=>by
 rw [List.append_nil]at hl ⊢
 exact .of_eq (h us hl)
noncomputable def Passes(CX:CXT)(X:Cx)(E:XK):Prop:=∀(pins:List (Addr×Obj)) (σ:St) (H:Hp) (s:Shared) (e:Value) (s':Shared),Inv X pins σ H s→CX X.stack H s E e s'→X.xe e s'
section
variable {X:Cx} {CX:CXT} {k:Nat} {f C:Addr} {fd:FuncData} {ps:List Str} {sp:Sp} {dvs:List V} {ds:List Value} {E:XK} {x m:Str} {p pos apos:Pos} {e o:Expr} {es:List Expr} {ta:TE} {t:TA}
theorem run_fn{pins:List (Addr×Obj)}{σ:St}{H:Hp}{s:Shared}{Q:VK}{us:List Value}{vs:List V}(F:FnOk X.prog X.w X.K X.mg X.base CX k f fd ps sp)(hr:Room k X.A)(hb:Binds X.K fd ps ds)(hd:Vals dvs ds)(hx:Passes CX X E)
 (I:Inv X pins σ H s) (r:Vals vs us) (h:sp (vs++dvs) H Q E):wpAny (model X.prog X.w) X.A (call (.ref f) us) (EP X pins σ Q) X.xe s:=by
 have r2:Vals (vs++dvs) (us++ds):=r.append hd
 have hl:(us++ds).length=ps.length:=by rw [← r2.length];exact F.len _ _ _ _ h
 refine wpAny_call (codeAny_mono (F.run X.A X.stack s H ⟨us,[]⟩ (us++ds) (vs++dvs) Q E hr I.env0 (hb s us I.kIn hl) r2 h) fun r s' hq=>?_)
 cases r with
 | error e=>exact hx pins σ H s e s' I hq
 | ok fl=>
  cases fl with
  | ret u=>exact I.after hq
  | next=>exact False.elim hq
  | brk=>exact False.elim hq
  | cont=>exact False.elim hq
theorem pe_call(F:FnOk X.prog X.w X.K X.mg X.base CX k f fd ps sp)(hr:Room k X.A)(hg:Gl X x)(hm:X.mg x=some (.ref f))(hk:PySem.W.keepIn X.K (.ref f)=true)(hb:Binds X.K fd ps ds)(hd:Vals dvs ds)(hx:Passes CX X E)
 (ha:PA X (e::es) t) (hdb:(x==("__debug__":Str))=false:=by decide) (he:starEach (e::es) X.env=(false,eval e X.env)::starEach es X.env:=by rfl) (hpl:(backTo pos (starEach es X.env)).any (·.1)=false:=by rfl):
 PE X (.Call (.Name x p) (e::es) [] pos) (tCall sp dvs E t):=by
 intro pins s σ H Q I h
 refine wpAny_Call_Name_kw (ld_glob I hg hm ?_ hdb)
 refine PySem.W.callWith_K (h₀:=X.base) I.ok.mod.kin hk (thn (ha pos pins s σ H _ I h) fun us s1 ⟨vs,H1,I1,r,q⟩=>⟨I1.kIn,?_⟩) he hpl
 exact run_fn F hr hb hd hx I1 r q
structure Mk(K:PySem.W.Frag)(C f:Addr):Prop where
 makes:PySem.W.makesIn K C=true
 init:PySem.W.findIn K (.ref C) "__init__"=some (some (.ref f))
 fn:PySem.W.isFn K (.ref f)=true
 kp:PySem.W.keepIn K (.ref C)=true
end
structure FnScope(N P:List Str)(sc:Scope):Prop where
 kind:sc.kind= .function
 co:sc.isCoroutine=false
 gen:sc.isGenerator=false
 nd:N.Nodup
 pre:N.take P.length=P
 par:∀x∈P,sc.names.lookup x=some .local∨sc.names.lookup x=some .cell
 nofree:∀y∈sc.names,y.2≠ .free
theorem bindL_out{kindOf:Str→Option NameKind}{x:Str}:∀{binds:List (Str×Value)} {m:Str→Option Value},(∀v,(x,v)∉binds)→bindL kindOf binds m x=m x
 | [],_,_=>rfl
 | (n,v)::r,m,h=>by
  unfold bindL
  rw [bindL_out fun w hw=>h w (List.mem_cons_of_mem _ hw)]
  split
  · have:x≠n:=by rintro rfl;exact h v List.mem_cons_self
    simp [this]
  · rfl
theorem bindC_out{kindOf:Str→Option NameKind}{x:Str}:∀{binds:List (Str×Value)} {m:Str→Option Value},(∀v,(x,v)∉binds)→bindC kindOf binds m x=m x
 | [],_,_=>rfl
 | (n,v)::r,m,h=>by
  unfold bindC
  rw [bindC_out fun w hw=>h w (List.mem_cons_of_mem _ hw)]
  split
  · rfl
  · have:x≠n:=by rintro rfl;exact h v List.mem_cons_self
    simp [this]
theorem bindL_get{kindOf:Str→Option NameKind}{x:Str}{v:Value}:∀{P:List Str} {vs:List Value} {i:Nat} {m:Str→Option Value},P.Nodup→P[i]?=some x→vs[i]?=some v→kindOf x=some .local→
 bindL kindOf (P.zip vs) m x=some v
 | [],_,_,_,_,h,_,_=>by simp at h
 | _::_,[],_,_,_,_,h,_=>by simp at h
 | p::P,w::vs,0,m,nd,h1,h2,hk=>by
  simp at h1 h2;subst h1;subst h2
  show bindL kindOf ((p,w)::P.zip vs) m p=_
  unfold bindL
  rw [bindL_out fun v hv=>(List.nodup_cons.mp nd).1 (List.of_mem_zip hv).1,if_pos hk]
  simp
 | p::P,w::vs,i+1,m,nd,h1,h2,hk=>by
  show bindL kindOf ((p,w)::P.zip vs) m x=_
  unfold bindL
  exact bindL_get (i:=i) (List.nodup_cons.mp nd).2 (by simpa using h1) (by simpa using h2) hk
theorem bindC_get{kindOf:Str→Option NameKind}{x:Str}{v:Value}:∀{P:List Str} {vs:List Value} {i:Nat} {m:Str→Option Value},P.Nodup→P[i]?=some x→vs[i]?=some v→kindOf x≠some .local→
 bindC kindOf (P.zip vs) m x=some v
 | [],_,_,_,_,h,_,_=>by simp at h
 | _::_,[],_,_,_,_,h,_=>by simp at h
 | p::P,w::vs,0,m,nd,h1,h2,hk=>by
  simp at h1 h2;subst h1;subst h2
  show bindC kindOf ((p,w)::P.zip vs) m p=_
  unfold bindC
  rw [bindC_out fun v hv=>(List.nodup_cons.mp nd).1 (List.of_mem_zip hv).1,if_neg hk]
  simp
 | p::P,w::vs,i+1,m,nd,h1,h2,hk=>by
  show bindC kindOf ((p,w)::P.zip vs) m x=_
  unfold bindC
  exact bindC_get (i:=i) (List.nodup_cons.mp nd).2 (by simpa using h1) (by simpa using h2) hk
noncomputable def start(N:List Str)(vs:List V):St:=vs.map some++List.replicate (N.length - vs.length) none
noncomputable def cxOf(CX:CXT)(P:Program)(w:World)(K:PySem.W.Frag)(mg:Str→Option Value)(base:Heap)(N:List Str)(qual:Str)(scope:Scope)(f:Addr)(cd:Value)(A:Around)(outer:List Env)(s:Shared)(H:Hp)(E:XK):Cx where
 prog:=P
 w:=w
 K:=K
 mg:=mg
 base:=base
 A:=A.deeper (envOfC qual scope s.heap.objs.size f cd)
 N:=N
 s₀:=s
 H₀:=H
 env:=envOfC qual scope s.heap.objs.size f cd
 outer:=outer
 stack:=envOfC qual scope s.heap.objs.size f cd::outer
 ex:=[]
 calm:=true
 fn:=fun _=>true
 pn:=[]
 xe:=fun e s'=>wpAny (model P w) (A.deeper (envOfC qual scope s.heap.objs.size f cd)) (leaving (envOfC qual scope s.heap.objs.size f cd) e) (fun _ s''=>CX outer H s E e s'') (fun e' s''=>CX outer H s E e' s'') s'
theorem cell_has{sc:Scope}{n:Nat}{x:Str}(h:sc.names.lookup x=some .cell):∃c,(cellsFrom n sc.names []).lookup x=some c:=by
 have q:=PySem.W.cellsFrom_some sc.names n [] (.inl h)
 exact Option.isSome_iff_exists.mp q
theorem inv_start{CX:CXT}{P:Program}{w:World}{K:PySem.W.Frag}{mg:Str→Option Value}{base:Heap}{N ps:List Str}{qual:Str}{scope:Scope}{f:Addr}{cd:Value}{A:Around}{outer:List Env}{s s1:Shared}{H:Hp}{E:XK}{us:List Value}{vs:List V}
 (S:FnScope N ps scope) (hd:A.handled=none) (e0:Env0 P w K mg base A outer s H) (hl:vs.length=ps.length) (r:Vals vs us)
 (x:InCallC s s.heap.objs.size (bindL (envOfC qual scope s.heap.objs.size f cd).kindOf (ps.zip us) fun _=>none) (cellsFrom (s.heap.objs.size+1) scope.names []) (bindC (envOfC qual scope s.heap.objs.size f cd).kindOf (ps.zip us) fun _=>none) s1):
 Inv (cxOf CX P w K mg base N qual scope f cd A outer s H E) [] (start N vs) H s1:=by
 have hpl:ps.length≤N.length:=by have:=congrArg List.length S.pre;rw [List.length_take]at this;omega
 obtain ⟨h1,tk,rfl,hk⟩:=x.done
 have noA:∀b:Addr,b∉(cxOf CX P w K mg base N qual scope f cd A outer s H E).ex:=fun b z=>absurd (show b∈([]:List Addr) from z) (by simp)
 refine ⟨⟨e0.mod,S.kind,rfl,rfl,Nat.le_refl _,fun y z c h1 h2=>?_,fun y hy=>?_,fun y c _ h=>?_,fun _=>hd,Around.frames_deeper e0.frames,.inr ⟨rfl,rfl⟩,fun b z=>absurd z (noA b),e0.bs,e0.bsz,fun b _ _=>noA b,fun b z=>absurd z (noA b),e0.funs,e0.frf⟩,
  rfl,e0.bare,Un.kept hk,⟨_,x.toInCall.ns,fun i y v h1 h2 h3=>?_⟩,fun y c h=>⟨_,x.cell y c h⟩,e0.hok.fresh (Nat.le_refl _),fun y c h=>?_,fun p hp=>absurd (show p∈([]:List (Addr×Obj)) from hp) (by simp),e0.hok.kept hk,?_⟩
 · exact name_of_addr x.apart (PySem.mem_of_lookup h1) (PySem.mem_of_lookup h2)
 · have hy:scope.names.lookup y=some .cell∨scope.names.lookup y=some .free:=hy
   rcases hy with hy | hy
   · exact cell_has hy
   · exact absurd rfl (S.nofree _ (PySem.mem_of_lookup hy))
 · exact Nat.le_of_lt (x.above y c (PySem.mem_of_lookup h))
 · have hi:i < vs.length:=by
    unfold start at h2
    by_cases hi:i < vs.length
    · exact hi
    · rw [List.getElem?_append_right (by simpa using hi)]at h2
      rw [List.getElem?_replicate]at h2
      split at h2 <;> cases h2
   have ha:vs[i]?=some v:=by
    unfold start at h2
    rw [List.getElem?_append_left (by simpa using hi),List.getElem?_map]at h2
    cases e:vs[i]? with
    | none=>rw [e]at h2;cases h2
    | some a=>rw [e]at h2;cases h2;rfl
   obtain ⟨u,hu,rv⟩:=r.get ha
   have hp:ps[i]?=some y:=by
    rw [← S.pre,List.getElem?_take_of_lt (by omega)];exact h1
   have ndP:ps.Nodup:=by rw [← S.pre];exact S.nd.sublist (List.take_sublist _ _)
   refine ⟨u,rv,?_⟩
   rcases S.par y (List.mem_of_getElem? hp) with k | k
   · exact .inl ⟨k,bindL_get ndP hp hu k⟩
   · obtain ⟨c,e⟩:=cell_has (n:=s.heap.objs.size+1) k
     refine .inr ⟨.inl k,c,e,?_⟩
     have q:=x.cell y c e
     rw [bindC_get ndP hp hu (by show scope.names.lookup y≠_;rw [k];decide)]at q
     exact q
 · exact e0.hok.fresh (Nat.le_of_lt (x.above y c (PySem.mem_of_lookup h)))
 · unfold start
   show _=N.length
   rw [List.length_append,List.length_map,List.length_replicate]
   omega
theorem fn_of{CX:CXT}{P:Program}{w:World}{K:PySem.W.Frag}{mg:Str→Option Value}{base:Heap}{k:Nat}{f:Addr}{name qual:Str}{params:Arguments}{body:List Stmt}{scope:Scope}{dV kV doc pm cdv ct oc:Value}{an od:Option Addr}
 {osl:Array (Option Value)} {N ps:List Str} {sp:Sp} (lk:K.lookup f=some ⟨oc,od,.func (PySem.W.fnOf name qual params body scope dV kV doc pm an cdv ct),osl⟩) (hcd:PySem.W.codeIn K cdv qual=true) (S:FnScope N ps scope)
 (len:∀vs H Q E,sp vs H Q E→vs.length=ps.length)
 (hbody:∀(A:Around) (outer:List Env) (s:Shared) (H:Hp) (vs:List V) (Q:VK) (E:XK),Room k (A.deeper (envOfC qual scope s.heap.objs.size f cdv))→sp vs H Q E→
  ∃t,PSs (cxOf CX P w K mg base N qual scope f cdv A outer s H E) body t∧t {nx:=fun _ H'=>Q .non H',rt:=Q} (start N vs) H):
 FnOk P w K mg base CX (k+1) f (PySem.W.fnOf name qual params body scope dV kV doc pm an cdv ct) ps sp:=by
 refine ⟨len,fun A outer s H args us vs Q E hr e0 hb r hsp=>?_⟩
 have hl:=len _ _ _ _ hsp
 have KX:K.In s.heap:=e0.mod.kin.keeps fun b o e=>(e0.bs b o e).1
 have lim:s.heap.NoLimit:=e0.mod.nolimit.keeps fun b o e=>(e0.bs b o e).1
 have hkind:∀y∈ps.zip us,scope.names.lookup y.1=some .local∨(scope.names.lookup y.1=some .cell∧((cellsFrom (s.heap.objs.size+1) scope.names []).lookup y.1).isSome=true):=fun ⟨n,v⟩ hy=>by
  rcases S.par n (List.of_mem_zip hy).1 with q | q
  · exact .inl q
  · exact .inr ⟨q,PySem.W.cellsFrom_some _ _ _ (.inl q)⟩
 refine codeAny_call_function hr.depth (KX _ _ lk) rfl S.co S.gen rfl (PySem.W.codeRec_of KX hcd) (hb _ _ _ _ ?_)
 refine wpAny_newFunctionEnv_cells S.kind hkind fun env he s1 x=>?_
 subst he
 refine ⟨lim.keeps x.toInCall.keep,codeAny_func ?_⟩
 obtain ⟨t,ht,hq⟩:=hbody A outer s H vs Q E (hr.deeper _) hsp
 have I:Inv (cxOf CX P w K mg base N qual scope f cdv A outer s H E) [] (start N vs) H s1:=inv_start S hr.hd e0 hl r x
 refine wpAny_mono (ht [] s1 (start N vs) H _ I hq) (fun fl s' hs=>?_) fun e s' hs=>hs
 have fin:∀{σ':St} {H':Hp} {v:V} {u:Value},Inv (cxOf CX P w K mg base N qual scope f cdv A outer s H E) [] σ' H' s'→RelV v u→Q v H'→CE outer P w H s Q u s':=
  fun {σ' H' v u} J rv q=>⟨v,H',J.os,J.bare,J.base,J.hok,rv,q⟩
 cases fl with
 | ret u=>
  obtain ⟨v,σ',H',J,rv,q⟩:=hs
  exact fin J rv q
 | next=>
  obtain ⟨σ',H',J,q⟩:=hs
  exact fin (v:=V.non) (u:=Value.none) J rfl q
 | brk=>
  obtain ⟨_,_,_,q⟩:=hs
  exact False.elim q
 | cont=>
  obtain ⟨_,_,_,q⟩:=hs
  exact False.elim q
end L2
namespace L2
section
variable {X:Cx} {x:Str} {p pos:Pos} {e:Expr} {es:List Expr} {t:TA} {id T:String} {r:List V→Hp→VK→Prop}
noncomputable def tCB(r:List V→Hp→VK→Prop)(t:TA):TE:=fun σ H Q=>t σ H fun vs H1=>r vs H1 Q
theorem pe_callB(hc:CallR X (.builtin id) r)(hg:Gl X x)(hm:X.mg x=none)(hv:bootBuiltins x=some (.builtin id))(ha:PA X (e::es) t)(hn:x≠"__name__":=by decide)(hdb:(x==("__debug__":Str))=false:=by decide)
 (he:starEach (e::es) X.env=(false,eval e X.env)::starEach es X.env:=by rfl) (hpl:(backTo pos (starEach es X.env)).any (·.1)=false:=by rfl):PE X (.Call (.Name x p) (e::es) [] pos) (tCB r t):=by
 intro pins s σ H Q I h
 refine wpAny_Call_Name_kw (ld_blt I hg hm hv ?_ hn hdb)
 exact PyProof.Rows.callWith_builtin1 (thn (ha pos pins s σ H _ I h) fun us s1 ⟨vs,H1,I1,r1,q1⟩=>hc pins s1 σ H1 vs us Q I1 r1 q1) he hpl
theorem pe_callTy(hc:CallR X (.type T) r)(hg:Gl X x)(hm:X.mg x=none)(hv:bootBuiltins x=some (.type T))(ha:PA X (e::es) t)(hn:x≠"__name__":=by decide)(hdb:(x==("__debug__":Str))=false:=by decide)
 (he:starEach (e::es) X.env=(false,eval e X.env)::starEach es X.env:=by rfl) (hpl:(backTo pos (starEach es X.env)).any (·.1)=false:=by rfl):PE X (.Call (.Name x p) (e::es) [] pos) (tCB r t):=by
 intro pins s σ H Q I h
 refine wpAny_Call_Name_kw (ld_blt I hg hm hv ?_ hn hdb)
 exact PyProof.Rows.callWith_type1 (thn (ha pos pins s σ H _ I h) fun us s1 ⟨vs,H1,I1,r1,q1⟩=>hc pins s1 σ H1 vs us Q I1 r1 q1) he hpl
end
end L2
namespace HT
open PySem PyProof.Rows
noncomputable def lexLt:List Int→List Int→Bool
 | [],[]=>false
 | [],_::_=>true
 | _::_,[]=>false
 | x::xs,y::ys=>if x=y then lexLt xs ys else decide (x < y)
theorem lexLt_cons(x y:Int)(xs ys:List Int):lexLt (x::xs) (y::ys)=if x=y then lexLt xs ys else decide (x < y):=rfl
theorem lexLt_nil_nil:lexLt [] []=false:=rfl
theorem lexLt_nil_cons(y:Int)(ys:List Int):lexLt [] (y::ys)=true:=rfl
theorem lexLt_cons_nil(x:Int)(xs:List Int):lexLt (x::xs) []=false:=rfl
theorem eqAt_int(A:Around)(s:Shared)(a:Int)(t:Tok)(c:Int)(u:Tok):∃e,SeqAt.EqAt A s (.int a t) (.int c u) e∧(e=true↔a=c):=
 ⟨(a==c),SeqAt.EqAt.int_int a t c u,by simp⟩
theorem rcLt_int(A:Around)(s:Shared)(a:Int)(t:Tok)(c:Int)(u:Tok)(prog:Program)(w:World)(E:Value→Shared→Prop)(Q:Value→Shared→Prop)(h:Q (.bool (decide (a < c))) s):
 wpAny (model prog w) A (richCompare .Lt (.int a t) (.int c u)) Q E s:=
 (PyProof.Rows.lt_int h:wpAny (model prog w) A (compareOp .Lt (.int a t) (.int c u)) Q E s)
section
open PySem.SeqAt
open PySem.AutoSeq1 (wpAny_loadPart')
open PySem.MeetsSeq PySem.MeetsSeq2 PySem.MeetsSeq3
theorem tuple_lt_ints(l b:Addr)(items items2:Array Value)(n n2:Nat)(dd dd2:Option Addr)(sl sl2:Array (Option Value))(ns ms:List Int)(hi:IntsAre items.toList ns)(hj:IntsAre items2.toList ms):
 Meets (Builtin.«tuple.__lt__» ⟨[.ref l,.ref b],[]⟩)
  (fun _ R s=>s.heap.get? l=some {cls:= .type "tuple",dict:=dd,data:= .seq items n,slots:=sl}∧s.heap.get? b=some {cls:= .type "tuple",dict:=dd2,data:= .seq items2 n2,slots:=sl2}∧
   R (.ok (.ret (.bool (lexLt ns ms)))) s):=
 .of_wp fun prog w A R s h=>by
  obtain ⟨hp,g,d,tk,os⟩:=s;obtain ⟨hl,hb,h⟩:=h
  have f2:=AutoSeq1.sub_tuple_tuple
  have z1:items.size=ns.length:=by rw [← hi.length];simp
  have z2:items2.size=ms.length:=by rw [← hj.length];simp
  wp_walk using wpAny_loadPart' hl,wpAny_loadPart' hb,wpAny_forIn_list _ (fun rest b s'=>b.1=none∧s'=⟨hp,g,d,tk,os⟩∧∃(vs ws:List Value) (ns' ms':List Int),rest=vs.zip ws∧
   IntsAre vs ns'∧IntsAre ws ms'∧ns'.length+items2.size=ms'.length+items.size∧R (.ok (.ret (.bool (lexLt ns' ms')))) ⟨hp,g,d,tk,os⟩) _
  case turn=>
   rintro ⟨y,x⟩ rest b s' ⟨hb',rfl,vs,ws,ns',ms',hz,hvi,hwi,hlen,hR⟩
   cases hvi with
   | nil=>rw [List.zip_nil_left]at hz;cases hz
   | cons a t hvi'=>
    cases hwi with
    | nil=>rw [List.zip_nil_right]at hz;cases hz
    | cons c u hwi'=>
     rw [List.zip_cons_cons]at hz
     injection hz with hyx hrest
     injection hyx with hy hx
     subst hy hx
     rw [lexLt_cons]at hR
     simp only [List.length_cons]at hlen
     obtain ⟨e,he,hiff⟩:=eqAt_int A.in1 ⟨hp,g,d,tk,os⟩ a t c u
     refine wpAny_bind (he prog w _ _ ?_)
     cases e with
     | true=>
      rw [if_pos (hiff.mp rfl)]at hR
      wp_walk
      exact ⟨rfl,rfl,_,_,_,_,hrest,hvi',hwi',by omega,hR⟩
     | false=>
      rw [if_neg (fun q=>absurd (hiff.mpr q) Bool.false_ne_true)]at hR
      have hri:=rcLt_int A.in1 ⟨hp,g,d,tk,os⟩ a t c u prog w
      wp_walk using hri
      exact ⟨_,rfl,by simpa using hR⟩
  case fin=>
   rintro ⟨b1,b2⟩ s' ⟨hb',rfl,vs,ws,ns',ms',hz,hvi,hwi,hlen,hR⟩
   simp only at hb'
   subst hb'
   have hv:lexLt ns' ms'=decide (items.size < items2.size):=by
    cases hvi with
    | nil=>
     cases hwi with
     | nil=>
      simp only [List.length_nil]at hlen
      rw [lexLt_nil_nil]
      exact (decide_eq_false (by omega)).symm
     | cons c u hw=>
      simp only [List.length_nil,List.length_cons]at hlen
      rw [lexLt_nil_cons]
      exact (decide_eq_true (by omega)).symm
    | cons a t hv=>
     cases hwi with
     | nil=>
      simp only [List.length_nil,List.length_cons]at hlen
      rw [lexLt_cons_nil]
      exact (decide_eq_false (by omega)).symm
     | cons c u hw=>
      rw [List.zip_cons_cons]at hz
      cases hz
   rw [hv]at hR
   wp_walk
   exact ⟨_,rfl,by simpa [Builtin.Tuple.tupleCompareSizes] using hR⟩
  case h=>
   exact ⟨rfl,rfl,items.toList,items2.toList,ns,ms,rfl,hi,hj,by omega,h⟩
end
section
variable {prog:Program} {w:World} {A:Around} {E:Value→Shared→Prop} {s:Shared}
theorem lt_tupInts{l b:Addr}{items items2:Array Value}{ns ms:List Int}{Q:Value→Shared→Prop}(hl:IsTup s.heap l items)(hb:IsTup s.heap b items2)(hi:IntsAre items.toList ns)(hj:IntsAre items2.toList ms)
 (hu:A.units < cLine) (h:Q (.bool (lexLt ns ms)) s):wpAny (model prog w) A (compareOp .Lt (.ref l) (.ref b)) Q E s:=by
 obtain ⟨⟨cls,dd,data,sl⟩,ho,hc,n,hd⟩:=id hl
 obtain ⟨⟨cls2,dd2,data2,sl2⟩,ho2,hc2,n2,hd2⟩:=id hb
 simp only at hc hd hc2 hd2
 subst hc hd hc2 hd2
 exact richCompare_meets_room (op:= .Lt) ⟨_,ho,rfl⟩ ⟨_,ho2,rfl⟩ PySem.F.slot_tuple_lt PySem.F.entry_tuple_lt (PySem.F.args_tuple_lt_2 _ _) (tuple_lt_ints l b items items2 n n2 dd dd2 sl sl2 ns ms hi hj)
  ⟨ho,ho2,show Value.bool (lexLt ns ms)≠Value.notImplemented∧Q (.bool (lexLt ns ms)) s from ⟨(fun x=>nomatch x),h⟩⟩ hu
noncomputable def sIx(n d:Nat):Option Int→Nat
 | none=>d
 | some v=>if v < 0 then (v+(n:Int)).toNat else min v.toNat n
end
end HT
namespace L2
noncomputable abbrev TO:=St→Hp→(Option Int→Hp→Prop)→Prop
noncomputable def PO(X:Cx)(e:Option Expr)(t:TO):Prop:=
 ∀(pins:List (Addr×Obj)) (s:Shared) (σ:St) (H:Hp) (Q:Option Int→Hp→Prop),Inv X pins σ H s→t σ H Q→
   wpAny (model X.prog X.w) X.A (evalPart e X.env) (fun u s'=>∃o H',Inv X pins σ H' s'∧IsPart u o∧Q o H') X.xe s
noncomputable def tNoPart:TO:=fun _ H Q=>Q none H
noncomputable def tPart(t:TE):TO:=fun σ H Q=>t σ H fun x H1=>∃i,x= .int i∧Q (some i) H1
theorem intsAre_of{ns:List Int}:∀{us:List Value},Vals (ns.map V.int) us→IntsAre us ns:=by
 induction ns with
 | nil=>intro us r;rw [List.map_nil]at r;cases r;exact .nil
 | cons n ns ih=>
  intro us r
  rw [List.map_cons]at r
  cases r with
  | cons r1 r2=>
   obtain ⟨t,e⟩:=r1
   subst e
   exact .cons n t (ih r2)
section
variable {X:Cx} {e:Expr} {te:TE} {lo hi:Option Expr} {tl th:TO} {pos p2:Pos}
theorem po_some(h:PE X e te):PO X (some e) (tPart te):=by
 intro pins s σ H Q I hw
 rw [evalPart_some]
 refine thn (h pins s σ H _ I hw) fun u s1 hq_=>?_
 obtain ⟨x,H1,I1,r1,q1⟩:=hq_
 obtain ⟨i,rfl,q⟩:=q1
 obtain ⟨t,rfl⟩:=r1
 exact ⟨some i,H1,I1,.int i t,q⟩
noncomputable def SlR(X:Cx)(r:V→Option Int→Option Int→Hp→VK→Prop):Prop:=
 ∀(pins:List (Addr×Obj)) (s:Shared) (σ:St) (H:Hp) (x:V) (v vl vu:Value) (lo hi:Option Int) (sl:Addr) (Q:VK),Inv X pins σ H s→RelV x v→s.heap.IsSliceOf sl vl vu .none→IsPart vl lo→IsPart vu hi→r x lo hi H Q→
   ∃T id,typeLookup (.type T) "__getitem__"=pure (some (.builtin id))∧s.TypeIs v T∧wpAny (model X.prog X.w) X.A (getItem v (.ref sl)) (EP X pins σ Q) X.xe s
noncomputable def tSl(r:V→Option Int→Option Int→Hp→VK→Prop)(te:TE)(tl th:TO):TE:=fun σ H Q=>te σ H fun x H1=>tl σ H1 fun l H2=>th σ H2 fun u H3=>r x l u H3 Q
theorem pe_slice{r:V→Option Int→Option Int→Hp→VK→Prop}(hr:SlR X r)(he:PE X e te)(hl:PO X lo tl)(hu:PO X hi th):PE X (.Subscript e (.Slice lo hi none p2) pos) (tSl r te tl th):=by
 intro pins s σ H Q I h
 refine Subscript_ (thn (he pins s σ H _ I h) fun v s1 hq_=>?_)
 obtain ⟨x,H1,I1,r1,q1⟩:=hq_
 refine wpAny_Slice (thn (hl pins s1 σ H1 _ I1 q1) fun vl s2 ⟨l,H2,I2,pl,q2⟩=>thn (hu pins s2 σ H2 _ I2 q2) fun vu s3 hq_=>?_)
 obtain ⟨u,H3,I3,pu,q3⟩:=hq_
 rw [evalPart_none]
 refine wpAny_pure ?_
 have I4:Inv X pins σ H3 {s3 with heap:=s3.heap.push {cls:= .type "slice",data:= .fields #[vl,vu,.none]}}:=I3.kept (t':=s3.toks) fun b ob q=>Heap.get?_push_of_some _ q
 obtain ⟨T,id,hT,ht,hg⟩:=hr pins {s3 with heap:=s3.heap.push {cls:= .type "slice",data:= .fields #[vl,vu,.none]}} σ H3 x v vl vu l u s3.heap.objs.size Q I4 r1 (Heap.IsSliceOf.new ..) pl pu q3
 show wpAny (model X.prog X.w) X.A (subscriptTail e (.Slice lo hi none p2) v (.ref s3.heap.objs.size)) (EP X pins σ Q) X.xe {s3 with heap:=s3.heap.push {cls:= .type "slice",data:= .fields #[vl,vu,.none]}}
 exact tail_any (ops:=[.ref s3.heap.objs.size,v]) ht hT hg (by with_unfolding_all rfl)
noncomputable def cutV(xs:List V)(lo hi:Option Int):List V:=(xs.drop (HT.sIx xs.length 0 lo)).take (HT.sIx xs.length xs.length hi - HT.sIx xs.length 0 lo)
theorem cutV_length(xs:List V)(lo hi:Option Int):(cutV xs lo hi).length≤xs.length:=by
 unfold cutV
 rw [List.length_take,List.length_drop]
 omega
end
end L2
namespace L2
noncomputable def ixN(n:Nat)(i:Int):Option Nat:=if 0≤i then (if i < n then some i.toNat else none) else if -(n:Int)≤i then some (i+n).toNat else none
noncomputable def atI{α:Type}(xs:List α)(i:Int):Option α:=(ixN xs.length i).bind fun j=>xs[j]?
theorem ixN_seq{n:Nat}{i:Int}{j:Nat}(h:ixN n i=some j):seqIndex? i n=some j∧j < n∧-(n:Int)≤i∧i < n:=by
 unfold ixN at h
 by_cases h0:0≤i
 · rw [if_pos h0]at h
   by_cases h1:i < n
   · rw [if_pos h1]at h
     have e:i.toNat=j:=Option.some.inj h
     exact ⟨by rw [seqIndex_of h0 h1,e],by omega,by omega,h1⟩
   · rw [if_neg h1]at h;cases h
 · rw [if_neg h0]at h
   by_cases h1:-(n:Int)≤i
   · rw [if_pos h1]at h
     have e:(i+n).toNat=j:=Option.some.inj h
     exact ⟨by rw [seqIndex_neg (by omega) h1,e],by omega,h1,by omega⟩
   · rw [if_neg h1]at h;cases h
theorem atI_get{α:Type}{xs:List α}{i:Int}{v:α}(h:atI xs i=some v):∃j,seqIndex? i xs.length=some j∧xs[j]?=some v∧j < xs.length∧-(xs.length:Int)≤i∧i < xs.length:=by
 unfold atI at h
 cases e:ixN xs.length i with
 | none=>rw [e]at h;cases h
 | some j=>
  rw [e]at h
  obtain ⟨h1,h2,h3,h4⟩:=ixN_seq e
  exact ⟨j,h1,h,h2,h3,h4⟩
theorem atI_nat{α:Type}{xs:List α}{j:Nat}{v:α}(h:xs[j]?=some v):atI xs (j:Int)=some v:=by
 have hj:j < xs.length:=(List.getElem?_eq_some_iff.mp h).1
 have e:ixN xs.length (j:Int)=some j:=by
  unfold ixN
  rw [if_pos (by omega),if_pos (by omega)];simp
 unfold atI;rw [e];exact h
noncomputable def PlainIx(b:Expr):Prop:=∀o i,subscripted b false o i=operate [o,i] (getItem o i)
noncomputable def IxR(X:Cx)(r:R2):Prop:=
 ∀(value slice:Expr) (pins:List (Addr×Obj)) (s:Shared) (σ:St) (H:Hp) (x y:V) (v u:Value) (Q:VK),Inv X pins σ H s→RelV x v→RelV y u→r x y H Q→
   subscripted slice false v u=operate [v,u] (getItem v u)→wpAny (model X.prog X.w) X.A (subscriptTail value slice v u) (EP X pins σ Q) X.xe s
noncomputable def MtR(X:Cx)(id:String)(r:V→List V→Hp→VK→Prop):Prop:=
 ∀(pins:List (Addr×Obj)) (s:Shared) (σ:St) (H:Hp) (x:V) (xs:List V) (v:Value) (us:List Value) (Q:VK),Inv X pins σ H s→RelV x v→Vals xs us→r x xs H Q→
   wpAny (model X.prog X.w) X.A (call (.builtin id) (v::us)) (EP X pins σ Q) X.xe s
section
variable {X:Cx} {a b:Expr} {ta tb:TE} {pos:Pos}
theorem pe_ix{r:R2}(hr:IxR X r)(ha:PE X a ta)(hb:PE X b tb)(hs:PlainIx b):PE X (.Subscript a b pos) (tOp r ta tb):=by
 intro pins s σ H Q I h
 exact Subscript_ (binT ha hb I h fun v u s2 x y H2 I2 rx ry q=>hr a b pins s2 σ H2 x y v u Q I2 rx ry q (hs _ _))
noncomputable def rIxL(K:PySem.W.Frag):R2:=fun x y H Q=>∃p xs i v,x= .ref p∧y= .int i∧SqL K H p xs∧atI xs i=some v∧Q v H
noncomputable def rIxT(K:PySem.W.Frag):R2:=fun x y H Q=>∃p xs i v,x= .ref p∧y= .int i∧SqT K H p xs∧atI xs i=some v∧Q v H
noncomputable def rIxS:R2:=fun x y H Q=>∃z i c,x= .str z∧y= .int i∧z.length≤sizeLine∧atI z.cps.toList i=some c∧Q (.str ⟨#[c]⟩) H
theorem ix_list:IxR X (rIxL X.K):=by
 intro value slice pins s σ H x y v u Q I rx ry h hs
 obtain ⟨p,xs,i,z,rfl,rfl,hq,he,q⟩:=h
 cases rx
 obtain ⟨t,rfl⟩:=ry
 obtain ⟨its,r,pl,hz⟩:=I.list hq
 obtain ⟨j,h1,h2,h3,h4,h5⟩:=atI_get he
 obtain ⟨w,ew,rw'⟩:=r.get h2
 have hl:=r.length
 have hn:=line63
 have fin:EP X pins σ Q w s:=⟨z,H,I,rw',q⟩
 by_cases h0:0≤i
 · have hj:i.toNat=j:=by
    rw [seqIndex_of h0 h5]at h1
    exact Option.some.inj h1
   exact item_listR pl.isList h0 (by omega) (by rw [hj];simpa using ew) fin hs
 · have hj:(i+(its.toArray.size:Int)).toNat=j:=by
    rw [seqIndex_neg (by omega) h4]at h1
    rw [List.size_toArray,← hl]
    exact Option.some.inj h1
   exact subscriptTail_builtinR (x:=w) pl.isList.typeIs slot_list_getitem.lookup
    (wpAny_getItem_list_neg (Q:=fun r s'=>r=w∧EP X pins σ Q r s') pl.isList (by omega) (by rw [List.size_toArray] <;> omega) (by omega) (by rw [hj];simpa using ew) ⟨rfl,fin⟩) hs
theorem ix_tup:IxR X (rIxT X.K):=by
 intro value slice pins s σ H x y v u Q I rx ry h hs
 obtain ⟨p,xs,i,z,rfl,rfl,hq,he,q⟩:=h
 cases rx
 obtain ⟨t,rfl⟩:=ry
 obtain ⟨its,r,pl,hz⟩:=I.tuple hq
 obtain ⟨j,h1,h2,h3,h4,h5⟩:=atI_get he
 obtain ⟨w,ew,rw'⟩:=r.get h2
 have hl:=r.length
 have hn:=line63
 have fin:EP X pins σ Q w s:=⟨z,H,I,rw',q⟩
 exact subscriptTail_builtinR (x:=w) pl.typeIs slot_tuple_getitem.lookup
  (getItem_tuple (j:=j) (Q:=fun r s'=>r=w∧EP X pins σ Q r s') pl (by omega) (by omega) (by rw [List.size_toArray,← hl];exact h1) (by simpa using ew) ⟨rfl,fin⟩) hs
theorem ix_str:IxR X rIxS:=by
 intro value slice pins s σ H x y v u Q I rx ry h hs
 obtain ⟨z,i,c,rfl,rfl,hz,he,q⟩:=h
 obtain ⟨t,rfl⟩:=rx
 obtain ⟨t',rfl⟩:=ry
 obtain ⟨j,h1,h2,h3,h4,h5⟩:=atI_get he
 have hl:z.cps.toList.length=z.length:=by simp [Str.length]
 rw [hl]at h1 h4 h5
 have hn:=line63
 exact tail_any (typeIs_str s z t) slot_str_getitem.lookup (getItem_str (c:=c) (by
  have e1:decide (i < -(2 ^ 63:Int))=false:=decide_eq_false (by omega)
  have e2:decide (i ≥ 2 ^ 63)=false:=decide_eq_false (by omega)
  rw [e1,e2,Bool.or_false]) (by rw [h1];simpa using h2) ⟨.str ⟨#[c]⟩,H,I.tok _,⟨_,rfl⟩,q⟩) hs
noncomputable def rSetL:V→V→V→Hp→(Hp→Prop)→Prop:=fun o i v H Q=>∃p xs k j,o= .ref p∧i= .int k∧H p=some (.lst xs)∧ixN xs.length k=some j∧Q (upd H p (.lst (xs.set j v)))
theorem slice_bounds(lo hi:Option Int)(n:Nat):(sliceBounds lo hi none n).1=((HT.sIx n 0 lo:Nat):Int)∧(sliceBounds lo hi none n).2.1=((HT.sIx n n hi:Nat):Int)∧(sliceBounds lo hi none n).2.2=1:=by
 refine ⟨?_,?_,rfl⟩
 · cases lo with
   | none=>simp [sliceBounds,HT.sIx]
   | some i=>
    simp only [sliceBounds,HT.sIx,Option.getD_none,show (1:Int) > 0 by decide,if_true]
    by_cases h:i < 0
    · simp only [h,if_true] <;> omega
    · simp only [h,if_false] <;> omega
 · cases hi with
   | none=>simp [sliceBounds,HT.sIx]
   | some i=>
    simp only [sliceBounds,HT.sIx,Option.getD_none,show (1:Int) > 0 by decide,if_true]
    by_cases h:i < 0
    · simp only [h,if_true] <;> omega
    · simp only [h,if_false] <;> omega
theorem slicePick_cut(its:List Value)(lo hi:Option Int):slicePick its.toArray lo hi none=((its.drop (HT.sIx its.length 0 lo)).take (HT.sIx its.length its.length hi - HT.sIx its.length 0 lo)).toArray:=by
 obtain ⟨h1,h2,h3⟩:=slice_bounds lo hi its.toArray.size
 unfold slicePick
 rw [h1,h2,h3]
 simp only [sliceRange_one,pick_run,List.size_toArray] <;> rfl
noncomputable def rSlL(K:PySem.W.Frag):V→Option Int→Option Int→Hp→VK→Prop:=fun x lo hi H Q=>∃a xs,x= .ref a∧SqL K H a xs∧∀p,H p=none→Q (.ref p) (upd H p (.lst (cutV xs lo hi)))
theorem sl_list:SlR X (rSlL X.K):=by
 intro pins s σ H x v vl vu lo hi sl Q I rx hs pl pu h
 obtain ⟨a,xs,rfl,hx,q⟩:=h
 cases rx
 obtain ⟨its,r,ht,hz⟩:=I.list hx
 have hlen:=r.length
 refine ⟨"list",_,slot_list_getitem.lookup,ht.isList.typeIs,?_⟩
 refine wpAny_getItem_list_slice ht.isList hs pl pu .none (by simp) ?_ (by rw [List.size_toArray] <;> omega)
 rw [slicePick_cut,← hlen]
 refine ⟨.ref s.heap.objs.size,_,I.laid (t':=s.toks) (o:= .lst (cutV xs lo hi)) (fun b ob q=>Heap.get?_push_of_some _ q) (Nat.le_refl _) ?_,rfl,q _ (I.hok.fresh (Nat.le_refl _))⟩
 exact ⟨Nat.le_trans (cutV_length xs lo hi) hz,_,0,(r.drop (HT.sIx xs.length 0 lo)).take (HT.sIx xs.length xs.length hi - HT.sIx xs.length 0 lo),Heap.get?_push_size _ rfl⟩
noncomputable def flatV:V→Bool
 | .non=>true
 | .bl _=>true
 | .int _=>true
 | .str _=>true
 | _=>false
noncomputable def eqV:V→V→Bool
 | .non,.non=>true
 | .bl a,.bl b=>a==b
 | .bl a,.int b=>(if a then 1 else 0)==b
 | .int a,.bl b=>a==(if b then 1 else 0)
 | .int a,.int b=>a==b
 | .str a,.str b=>a==b
 | _,_=>false
theorem eqAt_V{A:Around}{s:Shared}{y x:V}{u v:Value}(ry:RelV y u)(rx:RelV x v)(fy:flatV y=true)(fx:flatV x=true):SeqAt.EqAt A s u v (eqV y x):=by
 cases y with
 | non=>
  cases ry
  cases x with
  | non=>cases rx;exact SeqAt.EqAt.same _
  | bl b=>cases rx;exact SeqAt.EqAt.none_bool b
  | int b=>obtain ⟨t,rfl⟩:=rx;exact SeqAt.EqAt.none_int b t
  | str b=>obtain ⟨t,rfl⟩:=rx;exact SeqAt.EqAt.none_str b t
  | _=>exact absurd (show false=true from fx) Bool.false_ne_true
 | bl a=>
  cases ry
  cases x with
  | non=>cases rx;exact SeqAt.EqAt.bool_none a
  | bl b=>cases rx;exact SeqAt.EqAt.bool_bool a b
  | int b=>obtain ⟨t,rfl⟩:=rx;exact SeqAt.EqAt.bool_int a b t
  | str b=>obtain ⟨t,rfl⟩:=rx;exact SeqAt.EqAt.bool_str a b t
  | _=>exact absurd (show false=true from fx) Bool.false_ne_true
 | int a=>
  obtain ⟨t',rfl⟩:=ry
  cases x with
  | non=>cases rx;exact SeqAt.EqAt.int_none a t'
  | bl b=>cases rx;exact SeqAt.EqAt.int_bool a t' b
  | int b=>obtain ⟨t,rfl⟩:=rx;exact SeqAt.EqAt.int_int a t' b t
  | str b=>obtain ⟨t,rfl⟩:=rx;exact SeqAt.EqAt.int_str a t' b t
  | _=>exact absurd (show false=true from fx) Bool.false_ne_true
 | str a=>
  obtain ⟨t',rfl⟩:=ry
  cases x with
  | non=>cases rx;exact SeqAt.EqAt.str_none a t'
  | bl b=>cases rx;exact SeqAt.EqAt.str_bool a t' b
  | int b=>obtain ⟨t,rfl⟩:=rx;exact SeqAt.EqAt.str_int a t' b t
  | str b=>obtain ⟨t,rfl⟩:=rx;exact SeqAt.EqAt.str_str a t' b t
  | _=>exact absurd (show false=true from fx) Bool.false_ne_true
 | _=>exact absurd (show false=true from fy) Bool.false_ne_true
noncomputable def eqU(x:V)(u:Value):Bool:=match u with
 | .none=>eqV .non x
 | .bool b=>eqV (.bl b) x
 | .int i _=>eqV (.int i) x
 | .str z _=>eqV (.str z) x
 | _=>false
theorem eqU_of{x y:V}{u:Value}(r:RelV y u)(f:flatV y=true):eqU x u=eqV y x:=by
 cases y with
 | non=>cases r;rfl
 | bl b=>cases r;rfl
 | int i=>obtain ⟨t,rfl⟩:=r;rfl
 | str z=>obtain ⟨t,rfl⟩:=r;rfl
 | _=>exact absurd (show false=true from f) Bool.false_ne_true
theorem any_eqU{x:V}:∀{xs:List V} {us:List Value},Vals xs us→xs.all flatV=true→us.any (eqU x)=xs.any fun y=>eqV y x
 | _,_,.nil,_=>rfl
 | y::xs,u::us,.cons r t,f=>by
  rw [List.all_cons,Bool.and_eq_true]at f
  rw [List.any_cons,List.any_cons,eqU_of r f.1,any_eqU t f.2]
theorem mem_eqAt{A:Around}{s:Shared}{x:V}{v:Value}(rx:RelV x v)(fx:flatV x=true):∀{xs:List V} {us:List Value},Vals xs us→xs.all flatV=true→∀u∈us,SeqAt.EqAt A s u v (eqU x u)
 | _,_,.nil,_=>fun u hu=>by cases hu
 | y::xs,u::us,.cons r t,f=>fun u' hu=>by
  rw [List.all_cons,Bool.and_eq_true]at f
  rcases List.mem_cons.mp hu with rfl | hu
  · rw [eqU_of r f.1];exact eqAt_V r rx f.1 fx
  · exact mem_eqAt rx fx t f.2 u' hu
noncomputable def inV(x:V)(xs:List V):Bool:=xs.any fun y=>eqV y x
noncomputable def rIn(K:PySem.W.Frag)(neg:Bool):R2:=fun x y H Q=>∃p xs,y= .ref p∧(SqL K H p xs∨SqT K H p xs)∧flatV x=true∧xs.all flatV=true∧Q (.bl (if neg then !inV x xs else inV x xs)) H
theorem op_in_seq:OpR X (compareOp .In) (rIn X.K false):=by
 intro pins s σ H x y v u Q I rx ry h
 obtain ⟨p,xs,rfl,hq,fx,fs,q⟩:=h
 cases ry
 rcases hq with hq | hq
 · obtain ⟨its,r,pl,hz⟩:=I.list hq
   refine SeqAt.in_listAt (eqU x) pl.isList (fun w hw=>mem_eqAt rx fx r fs w (by simpa using hw)) ⟨.bl _,H,I,rfl,?_⟩
   rw [show its.toArray.any (eqU x)=its.any (eqU x) by simp,any_eqU r fs]
   exact q
 · obtain ⟨its,r,pl,hz⟩:=I.tuple hq
   refine SeqAt.in_tupleAt (eqU x) pl (fun w hw=>mem_eqAt rx fx r fs w (by simpa using hw)) ⟨.bl _,H,I,rfl,?_⟩
   rw [show its.toArray.any (eqU x)=its.any (eqU x) by simp,any_eqU r fs]
   exact q
theorem op_notIn_seq:OpR X (compareOp .NotIn) (rIn X.K true):=by
 intro pins s σ H x y v u Q I rx ry h
 obtain ⟨p,xs,rfl,hq,fx,fs,q⟩:=h
 cases ry
 rcases hq with hq | hq
 · obtain ⟨its,r,pl,hz⟩:=I.list hq
   refine SeqAt.notIn_listAt (eqU x) pl.isList (fun w hw=>mem_eqAt rx fx r fs w (by simpa using hw)) ⟨.bl _,H,I,rfl,?_⟩
   rw [show its.toArray.any (eqU x)=its.any (eqU x) by simp,any_eqU r fs]
   exact q
 · obtain ⟨its,r,pl,hz⟩:=I.tuple hq
   refine SeqAt.notIn_tupleAt (eqU x) pl (fun w hw=>mem_eqAt rx fx r fs w (by simpa using hw)) ⟨.bl _,H,I,rfl,?_⟩
   rw [show its.toArray.any (eqU x)=its.any (eqU x) by simp,any_eqU r fs]
   exact q
theorem call_len_seq:CallR X (.builtin "len") (fun xs H Q=>∃p ys,xs=[.ref p]∧(SqL X.K H p ys∨SqT X.K H p ys)∧Q (.int ys.length) H):=by
 intro pins s σ H xs us Q I r h
 obtain ⟨p,ys,rfl,hq,q⟩:=h
 obtain ⟨u,rfl,rx⟩:=vals1 r
 cases rx
 have hn:=line63
 rcases hq with hq | hq
 · obtain ⟨its,r',pl,hz⟩:=I.list hq
   have hlen:=r'.length
   exact Calls.call_len_list pl.isList (by simp only [List.size_toArray] <;> omega) ⟨.int ys.length,H,I.tok _,⟨s.toks+1,by rw [List.size_toArray,hlen]⟩,q⟩
 · obtain ⟨its,r',pl,hz⟩:=I.tuple hq
   have hlen:=r'.length
   exact len_tuple pl (by simp only [List.size_toArray] <;> omega) ⟨.int ys.length,H,I.tok _,⟨s.toks+1,by rw [List.size_toArray,hlen]⟩,q⟩
theorem call_len_str:CallR X (.builtin "len") (fun xs H Q=>∃z,xs=[.str z]∧z.length≤sizeLine∧Q (.int z.length) H):=by
 intro pins s σ H xs us Q I r h
 obtain ⟨z,rfl,hz,q⟩:=h
 obtain ⟨u,rfl,t,rfl⟩:=vals1 r
 have hn:=line63
 exact len_str (by omega) ⟨.int z.length,H,I.tok _,⟨_,rfl⟩,q⟩
theorem call_list_of:CallR X (.type "list") (fun xs H Q=>∃p ys,xs=[.ref p]∧(SqL X.K H p ys∨SqT X.K H p ys)∧∀l,H l=none→Q (.ref l) (upd H l (.lst ys))):=by
 intro pins s σ H xs us Q I r h
 obtain ⟨p,ys,rfl,hq,q⟩:=h
 obtain ⟨u,rfl,rx⟩:=vals1 r
 cases rx
 have fin:∀(its:List Value),Vals ys its→ys.length≤sizeLine→∀(h':Heap) (c':Nat),(∀b o',s.heap.get? b=some o'→h'.get? b=some o')→
  h'.get? s.heap.objs.size=some {cls:= .type "list",dict:=none,data:= .seq its.toArray c',slots:=#[]}→EP X pins σ Q (.ref s.heap.objs.size) {s with heap:=h'}:=fun its r' hz h' c' kp e=>
  ⟨.ref s.heap.objs.size,_,I.laid (t':=s.toks) kp (Nat.le_refl _) (show ObjOk X.prog X.w _ h' _ (.lst ys) from ⟨hz,its,c',r',e⟩),rfl,q _ (I.hok.fresh (Nat.le_refl _))⟩
 rcases hq with hq | hq
 · obtain ⟨its,r',pl,hz⟩:=I.list hq
   have hlen:=r'.length
   obtain ⟨o,ho,hc,n,hd⟩:=pl.isList
   exact call_list_seq p (.inl rfl) ho hc hd (fun h' c' kp e=>fin its r' hz h' c' kp e) (by simp only [List.size_toArray] <;> omega)
 · obtain ⟨its,r',pl,hz⟩:=I.tuple hq
   have hlen:=r'.length
   obtain ⟨o,ho,hc,n,hd⟩:=pl
   exact call_list_seq p (.inr rfl) ho hc hd (fun h' c' kp e=>fin its r' hz h' c' kp e) (by simp only [List.size_toArray] <;> omega)
noncomputable def tyV(K:PySem.W.Frag)(T:String)(x:V)(H:Hp):Prop:=match x with
 | .str _=>T="str"
 | .int _=>T="int"
 | .ref p=>(T="list"∧∃xs,SqL K H p xs)∨(T="tuple"∧∃o,K.lookup p=some o∧o.cls= .type "tuple"∧o.dict=none)∨
  (T="dict"∧((∃kvs,H p=some (.dK kvs))∨∃kvs,H p=some (.dT kvs)))∨(T="set"∧∃S n,H p=some (.set S n))
 | _=>False
theorem tyV_is{pins:List (Addr×Obj)}{σ:St}{H:Hp}{s:Shared}{T:String}{x:V}{v:Value}(I:Inv X pins σ H s)(r:RelV x v)(ty:tyV X.K T x H):
 s.TypeIs v T∧∀a,v= .ref a→∃ob,s.heap.get? a=some ob∧ob.dict=none:=by
 cases x with
 | str z=>
  obtain ⟨t,rfl⟩:=r
  cases (show T="str" from ty)
  exact ⟨typeIs_str s z t,fun _ e=>nomatch e⟩
 | int i=>
  obtain ⟨t,rfl⟩:=r
  cases (show T="int" from ty)
  exact ⟨typeIs_int s i t,fun _ e=>nomatch e⟩
 | ref p=>
  cases r
  rcases ty with ⟨rfl,xs,hq⟩ | ⟨rfl,o,hk,hc,hd⟩ | ⟨rfl,hk⟩ | ⟨rfl,S,n,hk⟩
  · obtain ⟨its,_,pl,_⟩:=I.list hq
    refine ⟨pl.isList.typeIs,fun a e=>?_⟩
    cases e
    obtain ⟨o,n,e,c,hd,_⟩:=pl
    exact ⟨o,e,hd⟩
  · refine ⟨⟨o,I.kIn p o hk,hc⟩,fun a e=>?_⟩
    cases e
    exact ⟨o,I.kIn _ o hk,hd⟩
  · have z:∃o,s.heap.get? p=some o∧o.ExactDict:=by
     rcases hk with ⟨kvs,hk⟩ | ⟨kvs,hk⟩
     · obtain ⟨_,_,_,_,o,_,_,e,ex,_⟩:=I.hok p _ hk
       exact ⟨o,e,ex⟩
     · obtain ⟨_,_,_,_,o,_,_,e,ex,_⟩:=I.hok p _ hk
       exact ⟨o,e,ex⟩
    obtain ⟨o,e,ex⟩:=z
    refine ⟨⟨o,e,ex.1⟩,fun a e2=>?_⟩
    cases e2
    exact ⟨o,e,ex.2.1⟩
  · obtain ⟨o,_,_,_,e,ex,_⟩:=I.hok p _ hk
    refine ⟨⟨o,e,ex.1⟩,fun a e2=>?_⟩
    cases e2
    exact ⟨o,e,ex.2.1⟩
 | _=>exact False.elim ty
noncomputable def tBM0(K:PySem.W.Frag)(T:String)(r:V→List V→Hp→VK→Prop)(to:TE):TE:=fun σ H Q=>to σ H fun x H1=>tyV K T x H1∧r x [] H1 Q
noncomputable def tBM(K:PySem.W.Frag)(T:String)(r:V→List V→Hp→VK→Prop)(to:TE)(t:TA):TE:=fun σ H Q=>to σ H fun x H1=>tyV K T x H1∧t σ H1 fun xs H2=>r x xs H2 Q
variable {o e:Expr} {es:List Expr} {to:TE} {t:TA} {name:Str} {apos cpos:Pos} {T id:String} {r:V→List V→Hp→VK→Prop}
theorem pe_bm0(pa:PlainAttrs T)(slot:Slot T name id)(hty:typeOf (.builtin id)=pure (.type "method_descriptor"))(hm:MtR X id r)(ho:PE X o to)
 (hbase:attributeBase o name X.env (eval o X.env)=eval o X.env:=by rfl) (hline:(apos.endLine==cpos.line)=true:=by rfl):PE X (.Call (.Attribute o name apos) [] [] cpos) (tBM0 X.K T r to):=by
 intro pins s σ H Q I h
 refine wpAny_Call_method0_late hbase hline (thn (ho pins s σ H _ I h) fun v s1 hq_=>?_)
 obtain ⟨x,H1,I1,r1,ty,q1⟩:=hq_
 obtain ⟨h1,h2⟩:=tyV_is I1 r1 ty
 exact ⟨T,id,pa,slot,hty,h1,h2,Calls.callWith_builtin rfl (PySem.evalArgs_none (hm pins s1 σ H1 x [] v [] Q I1 r1 .nil q1))⟩
theorem pe_bm(pa:PlainAttrs T)(slot:Slot T name id)(hty:typeOf (.builtin id)=pure (.type "method_descriptor"))(hm:MtR X id r)(ho:PE X o to)(ha:PA X (e::es) t)
 (hbase:attributeBase o name X.env (eval o X.env)=eval o X.env:=by rfl)
 (hfew:((backTo cpos (starEach (e::es) X.env)).all (fun x=>!x.1) && (backToKw cpos (keywordEach [] X.env)).all (fun x=>x.1.isSome)
  && decide ((e::es).length+([]:List Keyword).length+(if ([]:List Keyword).isEmpty then 0 else 1) < 30))=true:=by rfl)
 (hline:(apos.endLine==cpos.line)=true:=by rfl) (hs:starEach (e::es) X.env=(false,eval e X.env)::starEach es X.env:=by rfl) (hplain:(backTo cpos (starEach es X.env)).any (·.1)=false:=by rfl):
 PE X (.Call (.Attribute o name apos) (e::es) [] cpos) (tBM X.K T r to t):=by
 intro pins s σ H Q I h
 refine wpAny_Call_method_late hbase hfew hline rfl (thn (ho pins s σ H _ I h) fun v s1 hq_=>?_)
 obtain ⟨x,H1,I1,r1,ty,q1⟩:=hq_
 obtain ⟨h1,h2⟩:=tyV_is I1 r1 ty
 refine ⟨T,id,pa,slot,hty,h1,h2,?_⟩
 have hA:=ha cpos pins s1 σ H1 _ I1 q1
 rw [hs]at hA ⊢
 refine Calls.callWith_builtin (by show (false || (backTo cpos (starEach es X.env)).any (·.1))=false;rw [hplain] <;> rfl) (Calls.evalArgs_plain ?_)
 exact thn hA fun us s2 ⟨vs,H2,I2,r2,q2⟩=>hm pins s2 σ H2 x vs v us Q I2 r1 r2 q2
end
end L2
namespace L2
noncomputable def MtM(X:Cx)(id:String)(r:V→List V→Hp→VK→Prop):Prop:=
 ∀(pins:List (Addr×Obj)) (s:Shared) (σ:St) (H:Hp) (x:V) (xs:List V) (v:Value) (us:List Value) (Q:VK),Inv X pins σ H s→RelV x v→Vals xs us→r x xs H Q→
   wpAny (model X.prog X.w) X.A (call (.builtin id) (v::us)) (EP X pins σ Q) X.xe s
theorem Vals.one:∀{x:V} {us:List Value},Vals [x] us→∃u,us=[u]∧RelV x u
 | _,_,.cons r .nil=>⟨_,rfl,r⟩
theorem Vals.zero:∀{us:List Value},Vals [] us→us=[]
 | _,.nil=>rfl
theorem Vals.eraseIdx:∀{xs:List V} {us:List Value} (i:Nat),Vals xs us→Vals (xs.eraseIdx i) (us.eraseIdx i)
 | _,_,_,.nil=> .nil
 | _,_,0,.cons _ t=>t
 | _,_,i+1,.cons r t=> .cons r (Vals.eraseIdx i t)
theorem len_erase{α:Type}:∀(l:List α) (i:Nat),(l.eraseIdx i).length≤l.length
 | [],_=>Nat.le_refl _
 | _::_,0=>Nat.le_succ _
 | _::r,i+1=>Nat.succ_le_succ (len_erase r i)
section
variable {X:Cx} {pins:List (Addr×Obj)} {σ:St} {H:Hp} {s:Shared} {l b:Addr} {xs ys zs:List V}
theorem Inv.lset{its its':List Value}{n:Nat}{f:Array Value→Array Value}{t':Nat}(I:Inv X pins σ H s)(hH:H l=some (.lst xs))
 (e:s.heap.get? l=some {cls:= .type "list",data:= .seq its.toArray n}) (hf:f its.toArray=its'.toArray) (hv:Vals ys its') (hz:ys.length≤sizeLine):
 Inv X pins σ (upd H l (.lst ys)) {s with heap:=s.heap.update l (Obj.mapSeq f),toks:=t'}:=by
 have q:=PySem.IsL.update e f
 rw [hf]at q
 refine I.write (x:=l) (e:=l) (by rw [hH];exact trivial) (.inl rfl) (fun b' u hb hu=>(Heap.get?_update_other s.heap (Obj.mapSeq f) (Ne.symm hb)).trans hu) ⟨_,q⟩ ?_
 exact ⟨hz,its',_,hv,q⟩
theorem Inv.lnew{its:List Value}{t':Nat}(I:Inv X pins σ H s)(hv:Vals ys its)(hz:ys.length≤sizeLine):
 Inv X pins σ (upd H s.heap.objs.size (.lst ys)) {s with heap:=s.heap.push {cls:= .type "list",data:= .seq its.toArray},toks:=t'}:=
 I.laid (fun _ _ q=>Heap.get?_push_of_some _ q) (Nat.le_refl _) ⟨hz,its,0,hv,Heap.get?_push_size _ rfl⟩
theorem Inv.fresh(I:Inv X pins σ H s):H s.heap.objs.size=none:=I.hok.fresh (Nat.le_refl _)
theorem Inv.lstM(I:Inv X pins σ H s)(hH:H l=some (.lst xs)):xs.length≤sizeLine∧∃(its:List Value) (n:Nat),Vals xs its∧xs.length=its.length∧s.heap.get? l=some {cls:= .type "list",data:= .seq its.toArray n}:=by
 obtain ⟨z,its,n,r,e⟩:=I.hok l _ hH
 exact ⟨z,its,n,r,r.length,e⟩
end
section
variable {X:Cx}
noncomputable def rAppend:V→List V→Hp→VK→Prop:=fun x vs H Q=>∃l xs y,x= .ref l∧vs=[y]∧H l=some (.lst xs)∧xs.length < sizeLine∧Q .non (upd H l (.lst (xs++[y])))
theorem mt_append:MtM X "list.append" rAppend:=by
 intro pins s σ H x vs v us Q I rx rv h
 obtain ⟨l,xs,y,rfl,rfl,hH,hz,q⟩:=h
 cases rx
 obtain ⟨u,rfl,ru⟩:=rv.one
 obtain ⟨z,its,n,r,hl,e⟩:=I.lstM hH
 refine call_meets F.slot_list_append ⟨_,e,rfl⟩ F.entry_list_append (F.args_list_append_2 _ _) (PySem.list_append l its.toArray n u (by rw [List.size_toArray];omega)) ⟨e,?_⟩
 refine ⟨.non,_,I.lset (its':=its++[u]) hH e (by simp) (r.append (.cons ru .nil)) ?_,rfl,q⟩
 rw [List.length_append,List.length_singleton]
 omega
noncomputable def rPopAt:V→List V→Hp→VK→Prop:=fun x vs H Q=>∃l xs i k y,x= .ref l∧vs=[.int i]∧H l=some (.lst xs)∧-(2 ^ 63)≤i∧i < 2 ^ 63∧seqIndex? i xs.length=some k∧xs[k]?=some y∧Q y (upd H l (.lst (xs.eraseIdx k)))
theorem mt_popAt:MtM X "list.pop" rPopAt:=by
 intro pins s σ H x vs v us Q I rx rv h
 obtain ⟨l,xs,i,k,y,rfl,rfl,hH,h1,h2,hk,hy,q⟩:=h
 cases rx
 obtain ⟨u,rfl,ru⟩:=rv.one
 obtain ⟨t,rfl⟩:=ru
 obtain ⟨z,its,n,r,hl,e⟩:=I.lstM hH
 obtain ⟨w,hw,rw'⟩:=r.get hy
 refine call_meets F.slot_list_pop ⟨_,e,rfl⟩ F.entry_list_pop (F.args_list_pop_2 _ _)
  (MeetsSeq.list_pop_at l its.toArray n i t k w (fitsIndex_both h1 h2) (by rw [List.size_toArray,← hl];exact hk) (by rw [← Array.getElem?_toList];exact hw) (by rw [List.size_toArray];omega)) ⟨e,?_⟩
 refine ⟨y,_,I.lset (its':=its.eraseIdx k) hH e ?_ (r.eraseIdx k) ?_,rw',q⟩
 · show its.toArray.eraseIdxIfInBounds k=(its.eraseIdx k).toArray
   rw [List.eraseIdxIfInBounds_toArray]
 · have:=len_erase xs k
   omega
noncomputable def rCat:R2:=fun x y H Q=>∃l b xs zs,x= .ref l∧y= .ref b∧H l=some (.lst xs)∧H b=some (.lst zs)∧xs.length+zs.length≤sizeLine∧∀p,H p=none→Q (.ref p) (upd H p (.lst (xs++zs)))
theorem op_cat:OpR X (binaryOp .Add) rCat:=by
 intro pins s σ H x y v u Q I rx ry h
 obtain ⟨l,b,xs,zs,rfl,rfl,hH,hB,hz,q⟩:=h
 cases rx
 cases ry
 obtain ⟨z,its,n,r,hl,e⟩:=I.lstM hH
 obtain ⟨z2,its2,n2,r2,hl2,e2⟩:=I.lstM hB
 refine PySem.P.add_list e e2 ?_ (by rw [List.size_toArray,List.size_toArray];omega)
 have ea:its.toArray++its2.toArray=(its++its2).toArray:=by simp
 rw [ea]
 exact ⟨.ref _,_,I.lnew (t':=s.toks) (r.append r2) (by rw [List.length_append];omega),rfl,q _ I.fresh⟩
end
end L2
namespace Att
open PySem PySem.W PySem.Calls PyProof.Rows
theorem ints_of_wellAll{P:Params}{h:Heap}:∀(ns:List Int) (vs:List Value),WellAll P h vs (ns.map WData.int)→IntsAre vs ns:=by
 intro ns
 induction ns with
 | nil=>
  intro vs w
  rw [List.map_nil]at w
  cases w
  exact .nil
 | cons n ns ih=>
  intro vs w
  rw [List.map_cons]at w
  cases w with
  | cons a b=>
   cases a
   exact .cons _ _ (ih _ b)
theorem script_of{l:OpenLaw}{n:Nat}(hn:l.most=some n){P:Params}{h:Heap}{args:List WData}{vals:List Value}
 (hpre:l.row.toRowW.claim.pre args=true) (hwl:WellAll P h vals args):
 ∃a vs ns,vals=[Value.ref a]∧args=[WData.list (ns.map WData.int)]∧h.get? a=some {cls:= .type "list",data:= .seq vs.toArray}∧IntsAre vs ns∧ns.length≤n:=by
 have hsh:WShape.hasAll [] args [.list .int]=true:=(pre_splitW hpre).1
 have hc:l.pre.holds [] {args:=args}=true:=(pre_splitW hpre).2
 obtain ⟨d,r,rfl,h1,h2⟩:=hasAllW_cons hsh
 obtain rfl:=hasAllW_nil h2
 obtain ⟨xs,rfl,h3⟩:=hasW_list h1
 obtain ⟨ns,rfl⟩:=items_int h3
 have hlen:ns.length≤n:=by
  unfold OpenLaw.pre at hc
  have h4:(WTm.not (.lt (.lit (.int (n:Int))) (.len (.arg 0)))).holds [] {args:=[.list (ns.map .int)]}=true:=by
   have h4:=(holds_andW hc).1
   rw [hn]at h4
   exact h4
  have h5:=condW_of h4 (w_not (w_lt w_lit (w_len_list (w_arg rfl))))
  rw [List.length_map]at h5
  refine Nat.le_of_not_lt fun q=>?_
  have q':(n:Int) < ((ns.length:Nat):Int):=by omega
  first
   | (rw [decide_eq_true q']at h5;exact absurd h5 (by decide))
   | (simp at h5;omega)
 cases hwl with
 | cons w1 w2=>
  cases w2
  cases w1 with
  | list ho hall=>exact ⟨_,_,ns,rfl,rfl,ho,ints_of_wellAll ns _ hall,hlen⟩
theorem post_true(l:OpenLaw)(args:List WData):l.row.toRowW.claim.post args (.bool true) args=true:=
 postW_of (r:=l.row.toRowW) (X:=(true==true))
  (show WShape.has [] (.bool true) .bool=true by first | rfl | decide | simp [WShape.has,WShape.arms,WShape.armsAll])
  (show (WTm.eq .res (.lit (.bool true))).value [] {args:=args,res:=some (.bool true),after:=args}=some (.bool (true==true)) from w_eq_bool (w_res rfl) w_lit) rfl
theorem attach_call{l:OpenLaw}{n:Nat}{q:Program}{loose:List Str}{XP:(Str→Option Value)→Heap→Prop}{YP:World→Heap→Prop}{d:DefRec}
 (hn:l.most=some n) (hdf:d.params.defaults=[])
 (call:∀(w:World) (s₀ s₁:Shared) (mg mb:Str→Option Value) (fa:Addr) (o:Obj) (pm cd doc:Value) (a:Addr) (vs:List Value) (ns:List Int),
  Ground q loose [] XP w s₀ mg mb s₁.heap→YP w s₁.heap→
  s₁.heap.get? fa=some o→o.data= .func (docDef d.name d.params d.body d.scope pm cd doc)→s₁.heap.CodeRec cd d.name→mg d.name=some (.ref fa)→
  s₁.heap.get? a=some {cls:= .type "list",data:= .seq vs.toArray}→IntsAre vs ns→ns.length≤n→s₁.gens=#[]→
  codeAny (model l.prog w) callerA (.call (.ref fa) ⟨[.ref a],[]⟩) (fun r s'=>r= .ok (.ret (.bool true))∧OldK s₁.heap s'.heap∧s'.os=s₁.os∧AllBare s'.gens) s₁):
 WalkO q loose XP YP l.row.toRowW d [] (fun f vs=>PySem.call f vs):=by
 intro w s₀ s₁ mg mb G Y fa o pm cd doc dV kV ho hd hcd hD hmg hg args vals as hpre hlay hrd hwl hlo
 obtain rfl:dV= .none:=Dflts.none hD hdf
 obtain rfl:kV= .none:=Dflts.noKw hD
 obtain ⟨a,vs,ns,rfl,rfl,hobj,hints,hlen⟩:=script_of hn hpre hwl
 refine enter_call (codeAny_mono (call w s₀ s₁ mg mb fa o pm cd doc a vs ns G Y ho (fd_plain hd) hcd hmg hobj hints hlen hg) fun r s' hq=>?_)
 obtain ⟨rfl,h2,h3,h4⟩:=hq
 exact ⟨.inl ⟨.bool true,.bool true,[],rfl,fun _=>rfl,.bool true,post_true l _,fun _=>⟨List.Pairwise.nil,fun _ hm=>(nomatch hm)⟩⟩,h2,h3,h4⟩
end Att
namespace L2
theorem vals_ints:∀{vs:List Value} {ns:List Int},IntsAre vs ns→Vals (ns.map V.int) vs
 | _,_,.nil=> .nil
 | _,_,.cons n t h=> .cons ⟨t,rfl⟩ (vals_ints h)
end L2
namespace L2
noncomputable def inClass(s:Stmt)(j:Nat):Stmt:=match s with
 | .ClassDef _ _ _ body _ _ _ _ _ _ _=>body.getD j (.Pass ⟨0,0,0,0⟩)
 | _=> .Pass ⟨0,0,0,0⟩
noncomputable def defArgs(s:Stmt):Arguments:=match s with
 | .FunctionDef _ a _ _ _ _ _ _ _ _=>a
 | _=>{posonlyargs:=[],args:=[],vararg:=none,kwonlyargs:=[],kw_defaults:=[],kwarg:=none,defaults:=[]}
noncomputable def defBody(s:Stmt):List Stmt:=match s with
 | .FunctionDef _ _ b _ _ _ _ _ _ _=>b
 | _=>[]
noncomputable def defScope(s:Stmt):Scope:=match s with
 | .FunctionDef _ _ _ _ _ _ sc _ _ _=>sc
 | _=>{kind:= .function,names:=[],isGenerator:=false,isCoroutine:=false}
noncomputable abbrev CX0:CXT:=fun _ _ _ _ _ _=>False
noncomputable abbrev E0:XK:=fun _ _ _=>False
theorem pass0{X:Cx}:Passes CX0 X E0:=fun _ _ _ _ _ _ _ h=>h.elim
structure Fun(K:PySem.W.Frag)(x qual:Str)(st:Stmt)(f:Addr)(fd:FuncData):Prop where
 ex:∃(oc:Value) (od:Option Addr) (kV doc pm:Value) (an:Option Addr) (cdv ct:Value) (osl:Array (Option Value)),
  fd=PySem.W.fnOf x qual (defArgs st) (defBody st) (defScope st) .none kV doc pm an cdv ct∧K.lookup f=some ⟨oc,od,.func fd,osl⟩∧PySem.W.codeIn K cdv qual=true
 kp:PySem.W.keepIn K (.ref f)=true
section
variable {P:Program} {w:World} {K:PySem.W.Frag} {mg:Str→Option Value} {base:Heap}
theorem Fun.ok{x qual:Str}{st:Stmt}{f:Addr}{fd:FuncData}{N ps:List Str}{k:Nat}{sp:Sp}(F:Fun K x qual st f fd)(S:FnScope N ps (defScope st))(len:∀vs H Q E,sp vs H Q E→vs.length=ps.length)
 (hbody:∀(cdv:Value) (A:Around) (outer:List Env) (s:Shared) (H:Hp) (vs:List V) (Q:VK) (E:XK),Room k (A.deeper (envOfC qual (defScope st) s.heap.objs.size f cdv))→sp vs H Q E→
  ∃t,PSs (cxOf CX0 P w K mg base N qual (defScope st) f cdv A outer s H E).nox (defBody st) t∧t {nx:=fun _ H'=>Q .non H',rt:=Q} (start N vs) H):FnOk P w K mg base CX0 (k+1) f fd ps sp:=by
 obtain ⟨oc,od,kV,doc,pm,an,cdv,ct,osl,rfl,lk,hcd⟩:=F.ex
 refine fn_of lk hcd S len fun A outer s H vs Q E hr hsp=>?_
 obtain ⟨t,h,q⟩:=hbody cdv A outer s H vs Q E hr hsp
 exact ⟨t,h.nox,q⟩
theorem Fun.binds{x qual:Str}{st:Stmt}{f:Addr}{fd:FuncData}{ps:List Str}(F:Fun K x qual st f fd)
 (h:∀(kV doc pm:Value) (an:Option Addr) (cdv ct:Value) (us:List Value),us.length=ps.length→bindArgs (PySem.W.fnOf x qual (defArgs st) (defBody st) (defScope st) .none kV doc pm an cdv ct) ⟨us,[]⟩=pure (ps.zip us)):Binds K fd ps []:=by
 obtain ⟨oc,od,kV,doc,pm,an,cdv,ct,osl,rfl,lk,hcd⟩:=F.ex
 exact .all (h kV doc pm an cdv ct)
theorem fun_mk{x qual:Str}{st:Stmt}{f:Addr}{oc:Value}{od an:Option Addr}{osl:Array (Option Value)}{kV doc pm cdv ct:Value}(l:K.lookup f=some ⟨oc,od,.func (PySem.W.fnOf x qual (defArgs st) (defBody st) (defScope st) .none kV doc pm an cdv ct),osl⟩)
 (c:PySem.W.codeIn K cdv qual=true) (k:PySem.W.keepIn K (.ref f)=true):Fun K x qual st f (PySem.W.fnOf x qual (defArgs st) (defBody st) (defScope st) .none kV doc pm an cdv ct):=⟨⟨oc,od,kV,doc,pm,an,cdv,ct,osl,rfl,l,c⟩,k⟩
end
theorem hu_of{A:Around}{k:Nat}(hr:Room k A):A.units+1 < cLine:=Nat.lt_of_le_of_lt (Nat.add_le_add_left (by decide:1≤64) _) hr.units
section
variable {X:Cx}
theorem pv(i:Nat){x:Str}{pos:Pos}(hN:X.N[i]?=some x:=by rfl)(hv:Vis X.env.scope x:=by first | exact Or.inl rfl | exact Or.inr (Or.inl rfl) | exact Or.inr (Or.inr rfl))(hd:(x==("__debug__":Str))=false:=by decide)
 (hcd:(x==("__classdict__":Str))=false:=by decide):PE X (.Name x pos) (tVar i):=pe_var hN hv hd hcd
end
noncomputable def Same(H H':Hp):Prop:=∀b o,H b=some o→H' b=some o
theorem Same.refl(H:Hp):Same H H:=fun _ _ h=>h
theorem Same.trans{H H1 H2:Hp}(a:Same H H1)(b:Same H1 H2):Same H H2:=fun c o h=>b c o (a c o h)
theorem Same.seq{K:PySem.W.Frag}{H H':Hp}{a:Addr}{xs:List V}(e:Same H H')(h:SqL K H a xs):SqL K H' a xs:=by
 rcases h with (h | ⟨o,h⟩) | h
 · exact .inl (.inl (e _ _ h))
 · exact .inl (.inr ⟨o,e _ _ h⟩)
 · exact .inr h
end L2
namespace L2
section
variable {κ:Type} [DecidableEq κ]
noncomputable def valV(kvs:List (κ×V))(k:κ):Option V:=(kvs.find? fun kv=>decide (kv.1=k)).map (·.2)
noncomputable def putK(kvs:List (κ×V))(k:κ)(v:V):List (κ×V):=
 if (kvs.any fun kv=>decide (kv.1=k))=true then kvs.map (fun kv=>if kv.1=k then (kv.1,v) else kv) else kvs++[(k,v)]
noncomputable def dropK(kvs:List (κ×V))(k:κ):List (κ×V):=kvs.filter fun kv=>decide (kv.1≠k)
theorem valV_pos{p:κ×V}{r:List (κ×V)}{k:κ}(e:p.1=k):valV (p::r) k=some p.2:=by simp [valV,List.find?_cons,e]
theorem valV_neg{p:κ×V}{r:List (κ×V)}{k:κ}(e:¬p.1=k):valV (p::r) k=valV r k:=by simp [valV,List.find?_cons,e]
theorem valV_any(k:κ):∀kvs:List (κ×V),(kvs.any fun kv=>decide (kv.1=k))=(valV kvs k).isSome
 | []=>rfl
 | p::r=>by
  rw [List.any_cons]
  by_cases e:p.1=k
  · simp only [valV_pos e,decide_eq_true e,Bool.true_or,Option.isSome_some]
  · rw [valV_neg e,decide_eq_false e,Bool.false_or];exact valV_any k r
theorem valV_map(k j:κ)(y:V):∀kvs:List (κ×V),valV (kvs.map fun kv=>if kv.1=k then (kv.1,y) else kv) j=(valV kvs j).map fun x=>if j=k then y else x
 | []=>rfl
 | p::r=>by
  have ih:=valV_map k j y r
  rw [List.map_cons]
  by_cases h:p.1=k
  · rw [if_pos h]
    by_cases e:p.1=j
    · rw [valV_pos (p:=(p.1,y)) e,valV_pos e,Option.map_some,if_pos (e.symm.trans h)]
    · rw [valV_neg (p:=(p.1,y)) e,valV_neg e,ih]
  · rw [if_neg h]
    by_cases e:p.1=j
    · rw [valV_pos (p:=p) e,valV_pos e,Option.map_some,if_neg (fun z=>h (e.trans z))]
    · rw [valV_neg (p:=p) e,valV_neg e,ih]
theorem valV_snoc(k j:κ)(y:V):∀kvs:List (κ×V),valV kvs k=none→valV (kvs++[(k,y)]) j=if j=k then some y else valV kvs j
 | [],_=>by
  by_cases e:k=j
  · rw [if_pos e.symm];exact valV_pos (p:=(k,y)) e
  · rw [if_neg (fun z=>e z.symm)];exact valV_neg (p:=(k,y)) e
 | p::r,hn=>by
  rw [List.cons_append]
  have hk:¬p.1=k:=fun z=>by rw [valV_pos z]at hn;cases hn
  rw [valV_neg hk]at hn
  have ih:=valV_snoc k j y r hn
  by_cases e:p.1=j
  · rw [valV_pos e,valV_pos e,if_neg (fun z=>hk (e.trans z))]
  · rw [valV_neg e,valV_neg e,ih]
theorem valV_put(kvs:List (κ×V))(k j:κ)(y:V):valV (putK kvs k y) j=if j=k then some y else valV kvs j:=by
 unfold putK
 by_cases a:(kvs.any fun kv=>decide (kv.1=k))=true
 · rw [if_pos a,valV_map]
   rw [valV_any]at a
   by_cases e:j=k
   · obtain ⟨x,hx⟩:=Option.isSome_iff_exists.mp a
     rw [if_pos e,e,hx,Option.map_some,if_pos rfl]
   · rw [if_neg e]
     cases valV kvs j with
     | none=>rfl
     | some x=>rw [Option.map_some,if_neg e]
 · rw [if_neg a]
   refine valV_snoc k j y kvs ?_
   rw [valV_any]at a
   cases q:valV kvs k with
   | none=>rfl
   | some x=>rw [q]at a;exact (a rfl).elim
theorem length_putK(kvs:List (κ×V))(k:κ)(v:V):(putK kvs k v).length≤kvs.length+1:=by
 unfold putK
 split
 · rw [List.length_map];omega
 · rw [List.length_append,List.length_cons,List.length_nil];omega
theorem putK_new{kvs:List (κ×V)}{k:κ}(v:V)(h:valV kvs k=none):putK kvs k v=kvs++[(k,v)]:=by
 unfold putK
 rw [valV_any,h]
 exact if_neg (by decide)
theorem RelO.isSome_eq{o:Option V}{u:Option Value}(r:RelO o u):o.isSome=u.isSome:=by
 cases o with
 | none=>cases u with
  | none=>rfl
  | some _=>exact (show False from r).elim
 | some _=>cases u with
  | none=>exact (show False from r).elim
  | some _=>rfl
theorem RelO.getD{o:Option V}{u:Option Value}{d:V}{d':Value}(r:RelO o u)(rd:RelV d d'):RelV (o.getD d) (u.getD d'):=by
 cases o with
 | none=>cases u with
  | none=>exact rd
  | some _=>exact (show False from r).elim
 | some _=>cases u with
  | none=>exact (show False from r).elim
  | some _=>exact r
theorem KV.val{kvs:List (κ×V)}{vs:List (κ×Value)}(r:KV kvs vs)(k:κ):RelO (valV kvs k) (valueAt vs k):=by
 unfold KV at r
 induction r with
 | nil=>exact True.intro
 | @cons p q ps qs h t ih=>
  obtain ⟨h1,h2⟩:=h
  by_cases e:p.1=k
  · have e':q.1=k:=h1.symm.trans e
    have b:valueAt (q::qs) k=some q.2:=by simp [valueAt,List.find?_cons,e']
    rw [valV_pos e,b];exact h2
  · have e':¬q.1=k:=fun z=>e (h1.trans z)
    have b:valueAt (q::qs) k=valueAt qs k:=by simp [valueAt,List.find?_cons,e']
    rw [valV_neg e,b];exact ih
theorem KV.any{kvs:List (κ×V)}{vs:List (κ×Value)}(r:KV kvs vs)(k:κ):(kvs.any fun kv=>decide (kv.1=k))=vs.any fun kv=>decide (kv.1=k):=by
 unfold KV at r
 induction r with
 | nil=>rfl
 | cons h t ih=>rw [List.any_cons,List.any_cons,ih,h.1]
theorem KV.repl{kvs:List (κ×V)}{vs:List (κ×Value)}(r:KV kvs vs)(k:κ){y:V}{u:Value}(ry:RelV y u):
 KV (kvs.map fun kv=>if kv.1=k then (kv.1,y) else kv) (vs.map fun kv=>if kv.1=k then (kv.1,u) else kv):=by
 unfold KV at r ⊢
 induction r with
 | nil=>exact .nil
 | @cons p q ps qs h t ih=>
  rw [List.map_cons,List.map_cons]
  refine .cons ?_ ih
  obtain ⟨h1,h2⟩:=h
  by_cases e:p.1=k
  · rw [if_pos e,if_pos (h1.symm.trans e)];exact ⟨h1,ry⟩
  · rw [if_neg e,if_neg (fun z=>e (h1.trans z))];exact ⟨h1,h2⟩
theorem KV.put{kvs:List (κ×V)}{vs:List (κ×Value)}(r:KV kvs vs)(k:κ){y:V}{u:Value}(ry:RelV y u):KV (putK kvs k y) (stored vs k u):=by
 unfold putK stored
 rw [r.any k]
 by_cases e:(vs.any fun kv=>decide (kv.1=k))=true
 · rw [if_pos e,if_pos e];exact r.repl k ry
 · rw [if_neg e,if_neg e];exact Paired.snoc r ⟨rfl,ry⟩
theorem KV.drop{kvs:List (κ×V)}{vs:List (κ×Value)}(r:KV kvs vs)(k:κ):KV (dropK kvs k) (without vs k):=by
 unfold KV at r ⊢
 unfold dropK without
 induction r with
 | nil=>exact .nil
 | @cons p q ps qs h t ih=>
  obtain ⟨h1,h2⟩:=h
  rw [List.filter_cons,List.filter_cons]
  by_cases e:p.1=k
  · have a:¬decide (p.1≠k)=true:=by simp [e]
    have b:¬decide (q.1≠k)=true:=by simp [h1.symm.trans e]
    rw [if_neg a,if_neg b];exact ih
  · have e':¬q.1=k:=fun z=>e (h1.trans z)
    have a:decide (p.1≠k)=true:=by simp [e]
    have b:decide (q.1≠k)=true:=by simp [e']
    rw [if_pos a,if_pos b];exact .cons ⟨h1,h2⟩ ih
theorem KV.length{kvs:List (κ×V)}{vs:List (κ×Value)}(r:KV kvs vs):kvs.length=vs.length:=Paired.length r
theorem dropK_le(kvs:List (κ×V))(k:κ):(dropK kvs k).length≤kvs.length:=List.length_filter_le _ _
end
theorem kV_is{P:Program}{w:World}{k:Key}{u:Value}(r:RelV (kV k) u):(mixKind P w).is k u=true:=by
 cases k with
 | inl i=>obtain ⟨t,e⟩:=(show ∃t,u=Value.int i t from r);subst e;exact mixKind_int P w i t
 | inr x=>obtain ⟨t,e⟩:=(show ∃t,u=Value.str x t from r);subst e;exact mixKind_str P w x t
theorem items_are{P:Program}{w:World}:∀{ks:List Key} {us:List Value},Vals (ks.map kV) us→ItemsAre (mixKind P w) ks us
 | [],_,r=>by rw [List.map_nil]at r;cases r;exact .nil
 | k::ks,_,r=>by
  rw [List.map_cons]at r
  cases r with
  | cons h t=>exact .cons (kV_is h) (items_are t)
noncomputable abbrev KT(H:Hp):List (List Key×V)→List (List Key×Addr×Value)→Prop:=Paired fun p q=>p.1=q.1∧H q.2.1=some (.tup (p.1.map kV))∧RelV p.2 q.2.2
theorem KT.val{H:Hp}{kvs:List (List Key×V)}{xs:List (List Key×Addr×Value)}(r:KT H kvs xs)(k:List Key):RelO (valV kvs k) ((atKey xs k).map (·.2)):=by
 induction r with
 | nil=>exact True.intro
 | @cons p q ps qs h t ih=>
  obtain ⟨h1,_,h2⟩:=h
  by_cases e:p.1=k
  · have e':q.1=k:=h1.symm.trans e
    have b:atKey (q::qs) k=some q.2:=by simp [atKey,List.find?_cons,e']
    rw [valV_pos e,b];exact h2
  · have e':¬q.1=k:=fun z=>e (h1.trans z)
    have b:atKey (q::qs) k=atKey qs k:=by simp [atKey,List.find?_cons,e']
    rw [valV_neg e,b];exact ih
theorem KT.repl{H:Hp}{kvs:List (List Key×V)}{xs:List (List Key×Addr×Value)}(r:KT H kvs xs)(k:List Key){y:V}{u:Value}(ry:RelV y u):
 KT H (kvs.map fun kv=>if kv.1=k then (kv.1,y) else kv) (xs.map (putAt k u)):=by
 induction r with
 | nil=>exact .nil
 | @cons p q ps qs h t ih=>
  rw [List.map_cons,List.map_cons]
  refine .cons ?_ ih
  obtain ⟨h1,h2,h3⟩:=h
  unfold putAt
  by_cases e:p.1=k
  · rw [if_pos e,if_pos (h1.symm.trans e)];exact ⟨h1,h2,ry⟩
  · rw [if_neg e,if_neg (fun z=>e (h1.trans z))];exact ⟨h1,h2,h3⟩
theorem KT.put{H:Hp}{kvs:List (List Key×V)}{xs:List (List Key×Addr×Value)}(r:KT H kvs xs)(k:List Key){b:Addr}{y:V}{u:Value}(hb:H b=some (.tup (k.map kV)))(ry:RelV y u):
 KT H (putK kvs k y) (storedH xs k b u):=by
 have e:(kvs.any fun kv=>decide (kv.1=k))=(atKey xs k).isSome:=by
  rw [valV_any,(r.val k).isSome_eq,Option.isSome_map]
 unfold putK storedH
 rw [e]
 by_cases q:(atKey xs k).isSome=true
 · rw [if_pos q,if_pos q];exact r.repl k ry
 · rw [if_neg q,if_neg q];exact Paired.snoc r ⟨rfl,hb,ry⟩
theorem KT.keeps{H H':Hp}{kvs:List (List Key×V)}{xs:List (List Key×Addr×Value)}(r:KT H kvs xs)(ht:∀b ys,H b=some (.tup ys)→H' b=some (.tup ys)):KT H' kvs xs:=
 Paired.mapP r fun _ _ z=>⟨z.1,ht _ _ z.2.1,z.2.2⟩
section
variable {P:Program} {w:World} {H:Hp} {h:Heap} {a:Addr}
theorem rd_of{u:HO}(ok:HOk P w H h)(e:Rd H a u):ObjOk P w H h a u:=e.ok ok
theorem dk_rd{kvs:List (Key×V)}(ok:HOk P w H h)(e:Rd H a (.dK kvs)):kvs.length≤sizeLine∧(a==sysModules)=false∧∃vs,KV kvs vs∧h.DictOf (mixKind P w) a vs:=
 show ObjOk P w H h a (.dK kvs) from rd_of ok e
theorem dk_of{kvs:List (Key×V)}(ok:HOk P w H h)(e:H a=some (.dK kvs)):kvs.length≤sizeLine∧(a==sysModules)=false∧∃vs,KV kvs vs∧h.DictOf (mixKind P w) a vs:=dk_rd ok (.inl e)
theorem key_of{ks:List Key}(ok:HOk P w H h)(e:H a=some (.tup (ks.map kV))):(tupleKind (mixKind P w)).is h ks a:=by
 obtain ⟨_,its,r,o,h1,h2,n,h3⟩:=(show ObjOk P w H h a (.tup (ks.map kV)) from ok a _ e)
 exact ⟨o,its.toArray,n,h1,h2,h3,by simpa using items_are r⟩
theorem dt_rd{kvs:List (List Key×V)}(ok:HOk P w H h)(e:Rd H a (.dT kvs)):kvs.length≤sizeLine∧(a==sysModules)=false∧
 ∃xs,KT H kvs xs∧h.DictOfH (tupleKind (mixKind P w)) a xs:=by
 obtain ⟨z,y,xs,r,o,es,ep,h1,h2,h3,h4,h5⟩:=(show ObjOk P w H h a (.dT kvs) from rd_of ok e)
 refine ⟨z,y,xs,r,o,es,ep,h1,h2,h3,h4,fun x hx=>?_,h5⟩
 have all:∀{l:List (List Key×V)} {m:List (List Key×Addr×Value)},KT H l m→∀x∈m,(tupleKind (mixKind P w)).is h x.1 x.2.1:=by
  intro l m q
  induction q with
  | nil=>intro x hx;exact nomatch hx
  | @cons p q ps qs hq t ih=>
   intro x hx
   rcases List.mem_cons.mp hx with e | hx
   · subst e
     exact key_of ok (by rw [← hq.1];exact hq.2.1)
   · exact ih x hx
 exact all r x hx
theorem dt_of{kvs:List (List Key×V)}(ok:HOk P w H h)(e:H a=some (.dT kvs)):kvs.length≤sizeLine∧(a==sysModules)=false∧
 ∃xs,KT H kvs xs∧h.DictOfH (tupleKind (mixKind P w)) a xs:=dt_rd ok (.inl e)
end
noncomputable def DGet(H:Hp)(a:Addr)(y:V)(r:Option V):Prop:=
 (∃kvs k,Rd H a (.dK kvs)∧y=kV k∧r=valV kvs k)∨∃kvs k b,Rd H a (.dT kvs)∧y= .ref b∧H b=some (.tup (k.map kV))∧r=valV kvs k
noncomputable def DPut(H:Hp)(a:Addr)(y v:V)(H':Hp):Prop:=
 (∃kvs k,H a=some (.dK kvs)∧y=kV k∧kvs.length < sizeLine∧H'=upd H a (.dK (putK kvs k v)))∨
 ∃kvs k b,H a=some (.dT kvs)∧y= .ref b∧H b=some (.tup (k.map kV))∧kvs.length < sizeLine∧H'=upd H a (.dT (putK kvs k v))
theorem DGet.k{H:Hp}{a:Addr}{kvs:List (Key×V)}{k:Key}(e:H a=some (.dK kvs)):DGet H a (kV k) (valV kvs k):= .inl ⟨kvs,k,.inl e,rfl,rfl⟩
theorem DPut.k{H:Hp}{a:Addr}{kvs:List (Key×V)}{k:Key}{v:V}(e:H a=some (.dK kvs))(hl:kvs.length < sizeLine):DPut H a (kV k) v (upd H a (.dK (putK kvs k v))):= .inl ⟨kvs,k,e,rfl,hl,rfl⟩
section
variable {X:Cx} {pins:List (Addr×Obj)} {σ:St} {H:Hp} {s:Shared} {a:Addr} {y v:V} {u r:Value} {o:Option V} {A:Around} {E:Value→Shared→Prop}
theorem Inv.big(I:Inv X pins σ H s):sysModules < s.heap.objs.size:=by
 have h:mainGlobals < s.heap.objs.size:=(I.mod.glob.keeps I.bk).lt
 exact Nat.lt_trans (by decide) h
theorem d_getItem{Q:Value→Shared→Prop}(hu:A.units+1 < cLine)(I:Inv X pins σ H s)(g:DGet H a y (some v))(ry:RelV y u)(h:∀w' s',Inv X pins σ H s'→RelV v w'→Q w' s'):
 wpAny (model X.prog X.w) A (getItem (.ref a) u) Q E s:=by
 rcases g with ⟨kvs,k,e,ey,l⟩ | ⟨kvs,k,b,e,ey,eb,l⟩
 · subst ey
   obtain ⟨z,hd,vs,rel,dd⟩:=dk_rd I.hok e
   obtain ⟨w',hw,rw'⟩:=RelO.some_of (v:=v) (o:=valueAt vs k) (by rw [l];exact rel.val k)
   exact wpAny_getItem_of (kV_is ry) dd.mapOf hw (h w' _ (I.tok _) rw')
 · subst ey
   cases (show u=Value.ref b from ry)
   obtain ⟨z,hd,xs,rel,dd⟩:=dt_rd I.hok e
   obtain ⟨w',hw,rw'⟩:=RelO.some_of (v:=v) (o:=(atKey xs k).map (·.2)) (by rw [l];exact rel.val k)
   obtain ⟨p,hp,hp2⟩:=Option.map_eq_some_iff.mp hw
   refine wpAny_getItem_heap (tupleKind_room_in1 hu) (key_of I.hok eb) dd hp ?_
   rw [hp2]
   exact h w' _ (I.tok _) rw'
theorem d_in{Q:Value→Shared→Prop}(hu:A.units+1 < cLine)(I:Inv X pins σ H s)(g:DGet H a y o)(ry:RelV y u)(h:∀s',Inv X pins σ H s'→Q (.bool o.isSome) s'):
 wpAny (model X.prog X.w) A (compareOp .In u (.ref a)) Q E s:=by
 rcases g with ⟨kvs,k,e,ey,l⟩ | ⟨kvs,k,b,e,ey,eb,l⟩
 · subst ey
   obtain ⟨z,hd,vs,rel,dd⟩:=dk_rd I.hok e
   refine wpAny_in_of (kV_is ry) hd dd.mapOf ?_
   rw [← (rel.val k).isSome_eq,← l]
   exact h _ (I.tok _)
 · subst ey
   cases (show u=Value.ref b from ry)
   obtain ⟨z,hd,xs,rel,dd⟩:=dt_rd I.hok e
   refine wpAny_in_heap (tupleKind_room_in1 hu) (key_of I.hok eb) hd dd ?_
   have q:=(rel.val k).isSome_eq
   rw [Option.isSome_map]at q
   rw [← q,← l]
   exact h _ (I.tok _)
theorem d_notIn{Q:Value→Shared→Prop}(hu:A.units+1 < cLine)(I:Inv X pins σ H s)(g:DGet H a y o)(ry:RelV y u)(h:∀s',Inv X pins σ H s'→Q (.bool (!o.isSome)) s'):
 wpAny (model X.prog X.w) A (compareOp .NotIn u (.ref a)) Q E s:=by
 rcases g with ⟨kvs,k,e,ey,l⟩ | ⟨kvs,k,b,e,ey,eb,l⟩
 · subst ey
   obtain ⟨z,hd,vs,rel,dd⟩:=dk_rd I.hok e
   refine wpAny_notIn_of (kV_is ry) hd dd.mapOf ?_
   rw [← (rel.val k).isSome_eq,← l]
   exact h _ (I.tok _)
 · subst ey
   cases (show u=Value.ref b from ry)
   obtain ⟨z,hd,xs,rel,dd⟩:=dt_rd I.hok e
   refine wpAny_notIn_heap (tupleKind_room_in1 hu) (key_of I.hok eb) hd dd ?_
   have q:=(rel.val k).isSome_eq
   rw [Option.isSome_map]at q
   rw [← q,← l]
   exact h _ (I.tok _)
theorem d_write{h':Heap}{t':Nat}{ob:HO}(I:Inv X pins σ H s)(mu:Mut (H a))(hs:Heap.SameBut a s.heap h')(he:∃q,h'.get? a=some q)(new:ObjOk X.prog X.w (upd H a ob) h' a ob):
 Inv X pins σ (upd H a ob) {s with heap:=h',toks:=t'}:=
 I.write (x:=a) (e:=a) mu (.inl rfl) (fun b q hb z=>(hs.2 b hb).trans z) he new
theorem dk_new{P:Program}{w:World}{H':Hp}{h':Heap}{kvs:List (Key×V)}{vs:List (Key×Value)}(z:kvs.length≤sizeLine)(hd:(a==sysModules)=false)(rel:KV kvs vs)(dd:h'.DictOf (mixKind P w) a vs):
 ObjOk P w H' h' a (.dK kvs):=⟨z,hd,vs,rel,dd⟩
theorem d_setItem{H':Hp}{Q:Unit→Shared→Prop}(hu:A.units+1 < cLine)(I:Inv X pins σ H s)(g:DPut H a y v H')(ry:RelV y u)(rv:RelV v r)(h:∀s',Inv X pins σ H' s'→Q () s'):
 wpAny (model X.prog X.w) A (setItem (.ref a) u r) Q E s:=by
 rcases g with ⟨kvs,k,e,ey,l,eH⟩ | ⟨kvs,k,b,e,ey,eb,l,eH⟩
 · subst ey eH
   obtain ⟨z,hd,vs,rel,dd⟩:=dk_of I.hok e
   have hz:vs.length≤sizeLine:=by rw [← rel.length];exact z
   have hl:(putK kvs k v).length≤sizeLine:=by have:=length_putK kvs k v;omega
   refine wpAny_setItem_pairs (hsz:=hz) (kV_is ry) dd fun h' dd' hs=>h _ ?_
   have he:∃q,h'.get? a=some q:=let ⟨q,_,_,hq,_⟩:=dd';⟨q,hq⟩
   exact d_write I (by rw [e];exact True.intro) hs he (dk_new hl hd (rel.put k rv) dd')
 · subst ey eH
   cases (show u=Value.ref b from ry)
   obtain ⟨z,hd,xs,rel,dd⟩:=dt_of I.hok e
   have hz:xs.length≤sizeLine:=by rw [← Paired.length rel];exact z
   have hl:(putK kvs k v).length≤sizeLine:=by have:=length_putK kvs k v;omega
   refine wpAny_setItem_heap (hsz:=hz) (tupleKind_room_in1 hu) (key_of I.hok eb) dd fun h' dd' hs=>h _ ?_
   obtain ⟨q,es,ep,hq,h2,h3,h4,_,h5⟩:=dd'
   refine d_write I (by rw [e];exact True.intro) hs ⟨q,hq⟩ ⟨hl,hd,_,(rel.put k eb rv).keeps fun c ys ec=>?_,q,es,ep,hq,h2,h3,h4,h5⟩
   rw [upd_ne (ne_of ec e (fun z=>nomatch z))]
   exact ec
end
section
variable {X:Cx} {pins:List (Addr×Obj)} {σ:St} {H:Hp} {s:Shared} {a:Addr} {kvs:List (Key×V)} {k:Key} {u:Value} {A:Around} {E:Value→Shared→Prop}
theorem d_pop{v:V}{more:List Value}{Q:Value→Shared→Prop}(I:Inv X pins σ H s)(e:H a=some (.dK kvs))(ry:RelV (kV k) u)(l:valV kvs k=some v)(hm:more=[]∨∃x,more=[x])
 (h:∀w' s',Inv X pins σ (upd H a (.dK (dropK kvs k))) s'→RelV v w'→Q w' s'):wpAny (model X.prog X.w) A (call (.builtin "dict.pop") (.ref a::u::more)) Q E s:=by
 obtain ⟨z,hd,vs,rel,dd⟩:=dk_of I.hok e
 obtain ⟨w',hw,rw'⟩:=RelO.some_of (v:=v) (o:=valueAt vs k) (by rw [← l];exact rel.val k)
 have hp:(keyPart u).isSome=true:=by
  cases k with
  | inl i=>obtain ⟨t,q⟩:=(show ∃t,u=Value.int i t from ry);subst q;rfl
  | inr x=>obtain ⟨t,q⟩:=(show ∃t,u=Value.str x t from ry);subst q;rfl
 have ha:argsOk "dict.pop" ⟨.ref a::u::more,[]⟩:=by
  rcases hm with q | ⟨x,q⟩
  · subst q;exact PySem.F.args_dict_pop_2 _ _
  · subst q;exact PySem.F.args_dict_pop_3 _ _ _
 refine call_meetsIn PySem.F.slot_dict_pop dd.typeIs PySem.F.entry_dict_pop ha (meets_dict_pop_there (mixKind X.prog X.w) a (kV_is ry) more hm hp)
  ⟨vs,w',dd,by rw [← rel.length];exact z,hw,fun h' dd' hs=>h w' _ ?_ rw'⟩
 have he:∃q,h'.get? a=some q:=let ⟨q,_,_,hq,_⟩:=dd';⟨q,hq⟩
 exact d_write I (by rw [e];exact True.intro) hs he (dk_new (Nat.le_trans (dropK_le kvs k) z) hd (rel.drop k) dd')
theorem d_len{Q:Value→Shared→Prop}(I:Inv X pins σ H s)(e:Rd H a (.dK kvs))(h:∀t s',Inv X pins σ H s'→Q (.int kvs.length t) s'):wpAny (model X.prog X.w) A (call (.builtin "len") [.ref a]) Q E s:=by
 obtain ⟨z,hd,vs,rel,dd⟩:=dk_rd I.hok e
 refine call_len_dict hd dd (by rw [← rel.length];rw [sizeLine_eq]at z;omega) ?_
 rw [← rel.length]
 exact h _ _ (I.tok _)
end
noncomputable def NoSl(i:Expr):Prop:=∀ov iv,subscripted i false ov iv=operate [ov,iv] (getItem ov iv)
theorem subD_of{prog:Program}{w:World}{A:Around}{E:Value→Shared→Prop}{s:Shared}{env:Env}{value slice:Expr}{pos:Pos}{T id:String}{Q:Value→Shared→Prop}
 (hl:typeLookup (.type T) "__getitem__"=pure (some (.builtin id))) (hs:NoSl slice)
 (h:wpAny (model prog w) A (eval value env) (fun o s₁=>wpAny (model prog w) A (eval slice env) (fun i s₂=>s₂.TypeIs o T∧wpAny (model prog w) A (getItem o i) Q E s₂) E s₁) E s):
 wpAny (model prog w) A (eval (.Subscript value slice pos) env) Q E s:=by
 refine Subscript_ (wpAny_mono h (fun o s₁ h₁=>wpAny_mono h₁ (fun i s₂ h₂=>?_) fun _ _ x=>x) fun _ _ x=>x)
 obtain ⟨hT,h₂⟩:=h₂
 unfold subscriptTail
 refine wpAny_bind ?_
 rw [getitemInPython_of_ne hT.not_modules]
 refine wpAny_bind (wpAny_specialOf hT hl ?_)
 have fin:wpAny (model prog w) A (subscripted slice false o i) (fun r s₃=>wpAny (model prog w) A (letTemporaryGo value o r >>=fun _=>pure r) Q E s₃) E s₂:=by
  rw [hs o i]
  exact wpAny_operating (wpAny_mono h₂ (fun r s₃ h₃=>wpAny_bind (wpAny_letTemporaryGo (wpAny_pure h₃))) fun _ _ x=>x)
 first
  | exact wpAny_pure (wpAny_bind fin)
  | exact wpAny_bind (wpAny_pure (wpAny_bind fin))
  | exact wpAny_bind fin
theorem dict_typeIs{X:Cx}{pins:List (Addr×Obj)}{σ:St}{H:Hp}{s:Shared}{a:Addr}{y:V}{o:Option V}(I:Inv X pins σ H s)(g:DGet H a y o):s.TypeIs (.ref a) "dict":=by
 rcases g with ⟨kvs,k,e,_,_⟩ | ⟨kvs,k,b,e,_,_,_⟩
 · obtain ⟨_,_,vs,_,dd⟩:=dk_rd I.hok e
   exact dd.typeIs
 · obtain ⟨_,_,xs,_,dd⟩:=dt_rd I.hok e
   exact dd.typeIs
noncomputable def tDGet(td ty:TE):TE:=fun σ H Q=>td σ H fun x H1=>ty σ H1 fun y H2=>∃a v,x= .ref a∧DGet H2 a y (some v)∧Q v H2
noncomputable def tDIn(ty td:TE):TE:=fun σ H Q=>ty σ H fun y H1=>td σ H1 fun x H2=>∃a o,x= .ref a∧DGet H2 a y o∧Q (.bl o.isSome) H2
noncomputable def tDNotIn(ty td:TE):TE:=fun σ H Q=>ty σ H fun y H1=>td σ H1 fun x H2=>∃a o,x= .ref a∧DGet H2 a y o∧Q (.bl (!o.isSome)) H2
noncomputable def sDPut(td ty tv:TE):TS:=fun D σ H=>tv σ H fun v H1=>td σ H1 fun x H2=>ty σ H2 fun y H3=>∃a H4,x= .ref a∧DPut H3 a y v H4∧D.nx σ H4
section
variable {X:Cx} {o i e value:Expr} {pos pos' tpos:Pos} {td ty tv:TE}
theorem pe_dget(hu:X.A.units+1 < cLine)(ho:PE X o td)(hi:PE X i ty)(hs:NoSl i):PE X (.Subscript o i pos) (tDGet td ty):=by
 intro pins s σ H Q I h
 refine subD_of PySem.F.slot_dict_getitem.lookup hs (thn (ho pins s σ H _ I h) fun u s1 ⟨x,H1,I1,rx,q1⟩=>thn (hi pins s1 σ H1 _ I1 q1) fun iv s2 hq_=>?_)
 obtain ⟨y,H2,I2,ry,a,v,ex,g,q2⟩:=hq_
 subst ex
 obtain rfl:u=Value.ref a:=rx
 exact ⟨dict_typeIs I2 g,d_getItem hu I2 g ry fun w' s3 I3 rw'=>⟨v,H2,I3,rw',q2⟩⟩
theorem pc_din(hu:X.A.units+1 < cLine)(hi:PE X i ty)(ho:PE X o td):PC X .In i o (tDIn ty td):=by
 intro pins s σ H Q I h
 refine thn (hi pins s σ H _ I h) fun iv s1 ⟨y,H1,I1,ry,q1⟩=>thn (ho pins s1 σ H1 _ I1 q1) fun u s2 hq_=>?_
 obtain ⟨x,H2,I2,rx,a,ov,ex,g,q2⟩:=hq_
 subst ex
 obtain rfl:u=Value.ref a:=rx
 exact d_in hu I2 g ry fun s3 I3=>⟨.bl ov.isSome,H2,I3,rfl,q2⟩
theorem pc_dnotin(hu:X.A.units+1 < cLine)(hi:PE X i ty)(ho:PE X o td):PC X .NotIn i o (tDNotIn ty td):=by
 intro pins s σ H Q I h
 refine thn (hi pins s σ H _ I h) fun iv s1 ⟨y,H1,I1,ry,q1⟩=>thn (ho pins s1 σ H1 _ I1 q1) fun u s2 hq_=>?_
 obtain ⟨x,H2,I2,rx,a,ov,ex,g,q2⟩:=hq_
 subst ex
 obtain rfl:u=Value.ref a:=rx
 exact d_notIn hu I2 g ry fun s3 I3=>⟨.bl (!ov.isSome),H2,I3,rfl,q2⟩
theorem ps_dput(hu:X.A.units+1 < cLine)(ho:PE X o td)(hi:PE X i ty)(hv:PE X value tv)(hs:swapsWith value (some (.Subscript o i pos')) pos.line X.env=pure false):
 PS X (.Assign [.Subscript o i pos'] value pos) (sDPut td ty tv):=by
 intro pins s σ H D I h
 refine wpAny_Assign_Subscript (thn (hv pins s σ H _ I h) fun r s1 ⟨v,H1,I1,rv,q1⟩=>thn (ho pins s1 σ H1 _ I1 q1) fun u s2 ⟨x,H2,I2,rx,q2⟩=>thn (hi pins s2 σ H2 _ I2 q2) fun iv s3 hq_=>?_) hs
 obtain ⟨y,H3,I3,ry,a,H4,ex,g,q3⟩:=hq_
 subst ex
 obtain rfl:u=Value.ref a:=rx
 exact d_setItem hu I3 g ry rv fun s4 I4=>⟨σ,H4,I4,q3⟩
end
theorem dk_empty{P:Program}{w:World}{H:Hp}(h:Heap)(hb:sysModules < h.objs.size):ObjOk P w H (h.push {cls:= .type "dict",data:= .dict #[]}) h.objs.size (.dK []):=
 ⟨Nat.zero_le _,beq_eq_false_iff_ne.mpr (Ne.symm (Nat.ne_of_lt hb)),[],.nil,Heap.DictOf.new h⟩
noncomputable def tDNewK:TE:=fun _ H Q=>∀p,H p=none→Q (.ref p) (upd H p (.dK []))
section
variable {X:Cx} {pos:Pos}
theorem pe_dnewK:PE X (.Dict [] [] pos) tDNewK:=fun pins s σ H Q I h=>
 wpAny_Dict_empty ⟨.ref s.heap.objs.size,_,I.laid (a:=s.heap.objs.size) (o:= .dK []) (t':=s.toks) (fun _ _ q=>Heap.get?_push_of_some _ q) (Nat.le_refl _) (dk_empty s.heap I.big),rfl,h _ (I.hok.fresh (Nat.le_refl _))⟩
end
noncomputable def tPairs:List (TE×TE)→St→Hp→(List (V×V)→Hp→Prop)→Prop
 | [],_,H,Q=>Q [] H
 | (tk,tv)::r,σ,H,Q=>tk σ H fun x H1=>tv σ H1 fun y H2=>tPairs r σ H2 fun ps H3=>Q ((x,y)::ps) H3
noncomputable def mergeK(kvs more:List (Key×V)):List (Key×V):=more.foldl (fun acc kv=>putK acc kv.1 kv.2) kvs
noncomputable def tDisp(trs:List (TE×TE)):TE:=fun σ H Q=>∀p,H p=none→tPairs trs σ (upd H p (.dK [])) fun ps H2=>H2 p=some (.dK [])∧∃kvs:List (Key×V),ps=kvs.map (fun kv=>(kV kv.1,kv.2))∧kvs.length≤15∧Q (.ref p) (upd H2 p (.dK (mergeK [] kvs)))
structure M1(X:Cx)(o:Expr)(m:Str)(apos:Pos)(e:Expr)(cpos:Pos):Prop where
 base:attributeBase o m X.env (eval o X.env)=eval o X.env
 few:((backTo cpos (starEach [e] X.env)).all (fun x=>!x.1) && (backToKw cpos (keywordEach [] X.env)).all (fun x=>x.1.isSome)
  && decide (([e]:List Expr).length+([]:List Keyword).length+(if ([]:List Keyword).isEmpty then 0 else 1) < 30))=true
 line:(apos.endLine==cpos.line)=true
 trees:backTo cpos (starEach [e] X.env)=[(false,eval e X.env)]
structure M2(X:Cx)(o:Expr)(m:Str)(apos:Pos)(e f:Expr)(cpos:Pos):Prop where
 base:attributeBase o m X.env (eval o X.env)=eval o X.env
 few:((backTo cpos (starEach [e,f] X.env)).all (fun x=>!x.1) && (backToKw cpos (keywordEach [] X.env)).all (fun x=>x.1.isSome)
  && decide (([e,f]:List Expr).length+([]:List Keyword).length+(if ([]:List Keyword).isEmpty then 0 else 1) < 30))=true
 line:(apos.endLine==cpos.line)=true
 trees:backTo cpos (starEach [e,f] X.env)=[(false,eval e X.env),(false,eval f X.env)]
noncomputable def IsD(H:Hp)(a:Addr):Prop:=(∃kvs,Rd H a (.dK kvs))∨∃kvs,Rd H a (.dT kvs)
theorem isD_at{X:Cx}{pins:List (Addr×Obj)}{σ:St}{H:Hp}{s:Shared}{a:Addr}(I:Inv X pins σ H s)(d:IsD H a):
 s.TypeIs (.ref a) "dict"∧(∀b,Value.ref a= .ref b→∃ob,s.heap.get? b=some ob∧ob.dict=none)∧(a==sysModules)=false:=by
 rcases d with ⟨kvs,e⟩ | ⟨kvs,e⟩
 · obtain ⟨_,hd,vs,_,dd⟩:=dk_rd I.hok e
   refine ⟨dd.typeIs,fun b q=>?_,hd⟩
   cases q
   obtain ⟨ob,_,_,h1,h2,_⟩:=dd
   exact ⟨ob,h1,h2.2.1⟩
 · obtain ⟨_,hd,xs,_,dd⟩:=dt_rd I.hok e
   refine ⟨dd.typeIs,fun b q=>?_,hd⟩
   cases q
   obtain ⟨ob,_,_,h1,h2,_⟩:=dd
   exact ⟨ob,h1,h2.2.1⟩
section
variable {X:Cx} {pins:List (Addr×Obj)} {σ:St} {H:Hp} {s:Shared} {a:Addr} {y d:V} {u r:Value} {o:Option V} {A:Around} {E:Value→Shared→Prop}
theorem d_get2{Q:Value→Shared→Prop}(hu:A.units+1 < cLine)(I:Inv X pins σ H s)(g:DGet H a y o)(ry:RelV y u)(rd:RelV d r)(h:∀w' s',Inv X pins σ H s'→RelV (o.getD d) w'→Q w' s'):
 wpAny (model X.prog X.w) A (call (.builtin "dict.get") [.ref a,u,r]) Q E s:=by
 rcases g with ⟨kvs,k,e,ey,l⟩ | ⟨kvs,k,b,e,ey,eb,l⟩
 · subst ey
   obtain ⟨z,hd,vs,rel,dd⟩:=dk_rd I.hok e
   refine call_meetsIn PySem.F.slot_dict_get dd.typeIs PySem.F.entry_dict_get (PySem.F.args_dict_get_3 _ _ _) (meets_dict_get_default (mixKind X.prog X.w) a (kV_is ry) hd r) ⟨_,dd.mapOf,h _ _ (I.tok _) ?_⟩
   rw [l]
   exact (rel.val k).getD rd
 · subst ey
   cases (show u=Value.ref b from ry)
   obtain ⟨z,hd,xs,rel,dd⟩:=dt_rd I.hok e
   refine call_meetsIn PySem.F.slot_dict_get dd.typeIs PySem.F.entry_dict_get (PySem.F.args_dict_get_3 _ _ _) (meetsH_dict_get_default (tupleKind (mixKind X.prog X.w)) a b hd r) ⟨tupleKind_room_in1 hu,k,xs,key_of I.hok eb,dd,h _ _ (I.tok _) ?_⟩
   rw [l]
   exact (rel.val k).getD rd
end
noncomputable def tDGet1(td ty:TE):TE:=fun σ H Q=>td σ H fun x H1=>∃a,x= .ref a∧IsD H1 a∧ty σ H1 fun y H2=>∃o,DGet H2 a y o∧Q (o.getD .non) H2
noncomputable def tDGet2(td ty tx:TE):TE:=fun σ H Q=>td σ H fun x H1=>∃a,x= .ref a∧IsD H1 a∧ty σ H1 fun y H2=>tx σ H2 fun z H3=>∃o,DGet H3 a y o∧Q (o.getD z) H3
noncomputable def tDPop1(td ty:TE):TE:=fun σ H Q=>td σ H fun x H1=>∃a,x= .ref a∧IsD H1 a∧ty σ H1 fun y H2=>∃kvs k v,H2 a=some (.dK kvs)∧y=kV k∧valV kvs k=some v∧Q v (upd H2 a (.dK (dropK kvs k)))
section
variable {X:Cx} {o e f:Expr} {apos cpos:Pos} {td ty tx:TE}
theorem pe_dget2(hu:X.A.units+1 < cLine)(ho:PE X o td)(he:PE X e ty)(hf:PE X f tx)(m:M2 X o "get" apos e f cpos):PE X (.Call (.Attribute o "get" apos) [e,f] [] cpos) (tDGet2 td ty tx):=by
 intro pins s σ H Q I h
 refine wpAny_Call_method m.base m.few m.line PySem.F.plainAttrs_dict PySem.F.slot_dict_get PySem.F.type_dict_get (thn (ho pins s σ H _ I h) fun u s1 hq_=>?_)
 obtain ⟨x,H1,I1,rx,a,ex,d,q1⟩:=hq_
 subst ex
 obtain rfl:u=Value.ref a:=rx
 obtain ⟨t1,t2,_⟩:=isD_at I1 d
 refine ⟨t1,t2,?_⟩
 rw [m.trees]
 refine Calls.callWith_builtin rfl (Calls.evalArgs_plain (Calls.spliced_cons (thn (he pins s1 σ H1 _ I1 q1) fun iv s2 ⟨y,H2,I2,ry,q2⟩=>
  Calls.spliced_cons (thn (hf pins s2 σ H2 _ I2 q2) fun fv s3 ⟨z,H3,I3,rz,ov,g,q3⟩=>Calls.spliced_nil ?_))))
 exact d_get2 hu I3 g ry rz fun w' s4 I4 rw'=>⟨_,H3,I4,rw',q3⟩
theorem pe_dpop1(ho:PE X o td)(he:PE X e ty)(m:M1 X o "pop" apos e cpos):PE X (.Call (.Attribute o "pop" apos) [e] [] cpos) (tDPop1 td ty):=by
 intro pins s σ H Q I h
 refine wpAny_Call_method m.base m.few m.line PySem.F.plainAttrs_dict PySem.F.slot_dict_pop PySem.F.type_dict_pop (thn (ho pins s σ H _ I h) fun u s1 hq_=>?_)
 obtain ⟨x,H1,I1,rx,a,ex,d,q1⟩:=hq_
 subst ex
 obtain rfl:u=Value.ref a:=rx
 obtain ⟨t1,t2,_⟩:=isD_at I1 d
 refine ⟨t1,t2,?_⟩
 rw [m.trees]
 refine Calls.callWith_builtin rfl (Calls.evalArgs_plain (Calls.spliced_cons (thn (he pins s1 σ H1 _ I1 q1) fun iv s2 ⟨y,H2,I2,ry,kvs,k,v,ea,ey,l,q2⟩=>Calls.spliced_nil ?_)))
 subst ey
 exact d_pop I2 ea ry l (.inl rfl) fun w' s3 I3 rw'=>⟨v,_,I3,rw',q2⟩
end
end L2
namespace L2
section
variable {X:Cx}
theorem call_lenD:CallR X (.builtin "len") (fun xs H Q=>∃a kvs,xs=[V.ref a]∧H a=some (.dK kvs)∧Q (.int kvs.length) H):=by
 intro pins s σ H xs us Q I r h
 obtain ⟨a,kvs,rfl,ha,q⟩:=h
 obtain ⟨u,rfl,ru⟩:=vals1 r
 cases ru
 exact d_len I (.inl ha) fun t s' I'=>⟨.int kvs.length,H,I',⟨t,rfl⟩,q⟩
end
section
variable {κ:Type} [DecidableEq κ]
theorem valV_not{kvs:List (κ×V)}{k:κ}(h:valV kvs k=none):¬k∈kvs.map (·.1):=by
 intro m
 obtain ⟨p,hp,e⟩:=List.mem_map.mp m
 have q:(kvs.any fun kv=>decide (kv.1=k))=true:=List.any_eq_true.mpr ⟨p,hp,decide_eq_true e⟩
 rw [valV_any,h]at q
 exact absurd q (by simp)
theorem valV_in{kvs:List (κ×V)}{k:κ}{v:V}(h:valV kvs k=some v):k∈kvs.map (·.1):=by
 have q:(kvs.any fun kv=>decide (kv.1=k))=true:=by
  rw [valV_any,h]
  all_goals rfl
 obtain ⟨p,hp,e⟩:=List.any_eq_true.mp q
 exact List.mem_map.mpr ⟨p,hp,of_decide_eq_true e⟩
end
end L2
namespace L2
structure Def(P:Program)(w:World)(K:PySem.W.Frag)(mg:Str→Option Value)(base:Heap)(CX:CXT)(k:Nat)(x:Str)(ps:List Str)(sp:Sp):Prop where
 ex:∃(f:Addr) (fd:FuncData),FnOk P w K mg base CX k f fd ps sp∧mg x=some (.ref f)∧PySem.W.keepIn K (.ref f)=true∧Binds K fd ps []
noncomputable def tCallD(sp:Sp)(E:XK)(t:TA):TE:=fun σ H Q=>t σ H fun vs H1=>sp vs H1 Q E
section
variable {X:Cx} {CX:CXT} {k j:Nat} {ps:List Str} {sp:Sp} {E:XK} {x:Str} {p pos:Pos} {e:Expr} {es:List Expr} {t:TA}
theorem pe_callD(D:Def X.prog X.w X.K X.mg X.base CX j x ps sp)(hr:Room k X.A)(hg:Gl X x)(hx:Passes CX X E)(ha:PA X (e::es) t)(hj:j≤k:=by decide)
 (hdb:(x==("__debug__":Str))=false:=by decide) (he:starEach (e::es) X.env=(false,eval e X.env)::starEach es X.env:=by rfl) (hpl:(backTo pos (starEach es X.env)).any (·.1)=false:=by rfl):
 PE X (.Call (.Name x p) (e::es) [] pos) (tCallD sp E t):=by
 obtain ⟨f,fd,F,hm,hk,hb⟩:=D.ex
 intro pins s σ H Q I h
 refine pe_call (F.mono hj) hr hg hm hk hb .nil hx ha hdb he hpl pins s σ H Q I ?_
 show t σ H fun vs H1=>sp (vs++[]) H1 Q E
 have z:(fun (vs:List V) (H1:Hp)=>sp (vs++[]) H1 Q E)=fun vs H1=>sp vs H1 Q E:=by funext vs H1;rw [List.append_nil]
 rw [z]
 exact h
end
noncomputable def CBig(i j:Int):Prop:=i.natAbs < 10 ^ 100∧j.natAbs < 10 ^ 100
theorem big_pow:(10:Nat) ^ 100≤2 ^ 1000:=by decide+kernel
theorem bits_of{i:Int}(h:i.natAbs < 10 ^ 100):Builtin.Int.intBits i≤2 ^ 20:=by
 have h1:Builtin.Int.intBits i≤1000:=by
  unfold Builtin.Int.intBits
  split
  · omega
  · rename_i hne
    have:=(Nat.log2_lt (n:=i.natAbs) (k:=1000) (by simpa using hne)).mpr (Nat.lt_of_lt_of_le h big_pow)
    omega
 exact Nat.le_trans h1 (by decide)
section
variable {X:Cx}
theorem op_mulB:OpR X (binaryOp .Mult) (rI CBig fun i j=> .int (i * j)):=opI fun _ _ _ _ _ _ _ hc q=>mul_int q (.of_bits (bits_of hc.1) (bits_of hc.2))
end
noncomputable def Isi(K:PySem.W.Frag)(H:Hp)(x:V)(n:String)(b:Bool):Prop:=∃t,TyOf K H x t∧PySem.W.kitOne K t (.type n)=some b
section
variable {X:Cx}
theorem call_isinst:CallR X (.builtin "isinstance") (fun xs H Q=>∃x n b,xs=[x,.ty n]∧Isi X.K H x n b∧Q (.bl b) H):=by
 intro pins s σ H xs us Q I r h
 obtain ⟨x,n,b,rfl,⟨t,ty,e⟩,q⟩:=h
 obtain ⟨u,c,rfl,r1,r2⟩:=vals2 r
 cases r2
 exact isinst_ok I r1 ty e fun tk=>⟨.bl b,H,I.tok _,rfl,q⟩
end
section
variable {K:PySem.W.Frag} {H:Hp}
theorem isi_ii{i:Int}:Isi K H (.int i) "int" true:=⟨_,.int i,rfl⟩
theorem isi_ib{i:Int}:Isi K H (.int i) "bool" false:=⟨_,.int i,by with_unfolding_all rfl⟩
theorem isi_is{i:Int}:Isi K H (.int i) "str" false:=⟨_,.int i,by with_unfolding_all rfl⟩
theorem isi_bb{i:Bool}:Isi K H (.bl i) "bool" true:=⟨_,.bl i,rfl⟩
theorem isi_bi{i:Bool}:Isi K H (.bl i) "int" true:=⟨_,.bl i,by with_unfolding_all rfl⟩
theorem isi_bs{i:Bool}:Isi K H (.bl i) "str" false:=⟨_,.bl i,by with_unfolding_all rfl⟩
theorem isi_ss{i:Str}:Isi K H (.str i) "str" true:=⟨_,.str i,rfl⟩
theorem isi_si{i:Str}:Isi K H (.str i) "int" false:=⟨_,.str i,by with_unfolding_all rfl⟩
theorem isi_sb{i:Str}:Isi K H (.str i) "bool" false:=⟨_,.str i,by with_unfolding_all rfl⟩
theorem isi_ni:Isi K H .non "int" false:=⟨_,.non,by with_unfolding_all rfl⟩
theorem isi_ns:Isi K H .non "str" false:=⟨_,.non,by with_unfolding_all rfl⟩
theorem isi_lstl{a:Addr}{xs:List V}(e:H a=some (.lst xs)):Isi K H (.ref a) "list" true:=⟨_,.lst e,rfl⟩
theorem isi_lsts{a:Addr}{xs:List V}(e:H a=some (.lst xs)):Isi K H (.ref a) "str" false:=⟨_,.lst e,by with_unfolding_all rfl⟩
theorem isi_lsti{a:Addr}{xs:List V}(e:H a=some (.lst xs)):Isi K H (.ref a) "int" false:=⟨_,.lst e,by with_unfolding_all rfl⟩
theorem isi_lstt{a:Addr}{xs:List V}(e:H a=some (.lst xs)):Isi K H (.ref a) "tuple" false:=⟨_,.lst e,by with_unfolding_all rfl⟩
theorem isi_tupt{a:Addr}{xs:List V}(e:H a=some (.tup xs)):Isi K H (.ref a) "tuple" true:=⟨_,.tup e,rfl⟩
theorem isi_tups{a:Addr}{xs:List V}(e:H a=some (.tup xs)):Isi K H (.ref a) "str" false:=⟨_,.tup e,by with_unfolding_all rfl⟩
theorem isi_tupi{a:Addr}{xs:List V}(e:H a=some (.tup xs)):Isi K H (.ref a) "int" false:=⟨_,.tup e,by with_unfolding_all rfl⟩
theorem isi_tupl{a:Addr}{xs:List V}(e:H a=some (.tup xs)):Isi K H (.ref a) "list" false:=⟨_,.tup e,by with_unfolding_all rfl⟩
theorem isi_go{x:V}{n:String}{b:Bool}{R:Bool→Prop}(h:Isi K H x n b)(q:R b):∃b,Isi K H x n b∧R b:=⟨b,h,q⟩
theorem len_goL{p:Addr}{xs:List V}{R:List V→Prop}(h:SqL K H p xs)(q:R xs):∃ys,(SqL K H p ys∨SqT K H p ys)∧R ys:=⟨xs,.inl h,q⟩
theorem len_goT{p:Addr}{xs:List V}{R:List V→Prop}(h:SqT K H p xs)(q:R xs):∃ys,(SqL K H p ys∨SqT K H p ys)∧R ys:=⟨xs,.inr h,q⟩
theorem ixT_of{p:Addr}{xs:List V}{i:Int}{v:V}{Q:VK}(h:SqT K H p xs)(e:atI xs i=some v)(q:Q v H):rIxT K (.ref p) (.int i) H Q:=⟨p,xs,i,v,rfl,rfl,h,e,q⟩
theorem ixL_of{p:Addr}{xs:List V}{i:Int}{v:V}{Q:VK}(h:SqL K H p xs)(e:atI xs i=some v)(q:Q v H):rIxL K (.ref p) (.int i) H Q:=⟨p,xs,i,v,rfl,rfl,h,e,q⟩
end
theorem while_d{c:TT}{tb:TS}{D:Ends}{σ:St}{H:Hp}{m0:Nat}(Pv:Nat→St→Hp→Prop)(h0:Pv m0 σ H)
 (hs:∀m σ H,Pv m σ H→c σ H fun b H1=>if b=true then ∃N:St→Hp→Prop,(∀σ' H',N σ' H'→∃m',m' < m∧Pv m' σ' H')∧tb {D with nx:=N,ct:=N,bk:=D.nx} σ H1 else D.nx σ H1):tWhile c tb D σ H:=⟨Pv,⟨m0,h0⟩,hs⟩
theorem atI_of{α:Type}{xs:List α}{i:Int}{v:α}(h0:0≤i)(h:xs[i.toNat]?=some v):atI xs i=some v:=by
 unfold atI ixN
 have hl:i.toNat < xs.length:=(List.getElem?_eq_some_iff.mp h).1
 rw [if_pos h0,if_pos (show i < xs.length by omega)]
 exact h
theorem cxOf_K{CX:CXT}{P:Program}{w:World}{K:PySem.W.Frag}{mg:Str→Option Value}{base:Heap}{N:List Str}{qual:Str}{scope:Scope}{f:Addr}{cd:Value}{A:Around}{outer:List Env}{s:Shared}{H:Hp}{E:XK}:
 (cxOf CX P w K mg base N qual scope f cd A outer s H E).K=K:=rfl
theorem getMap{ns:List Int}{k:Nat}(h:k < ns.length):(ns.map V.int)[k]?=some (V.int (ns.getD k 0)):=by
 rw [List.getElem?_map,List.getD_eq_getElem?_getD,List.getElem?_eq_getElem h];rfl
theorem Same.tup{K:PySem.W.Frag}{H H':Hp}{a:Addr}{xs:List V}(e:Same H H')(h:SqT K H a xs):SqT K H' a xs:=by
 rcases h with (h | ⟨o,h⟩) | h
 · exact .inl (.inl (e _ _ h))
 · exact .inl (.inr ⟨o,e _ _ h⟩)
 · exact .inr h
theorem Same.new{H:Hp}{p:Addr}{o:HO}(h:H p=none):Same H (upd H p o):=fun b u e=>by
 rw [upd_ne (ne_of_none e h)];exact e
section
variable {σ:St} {H:Hp} {Q:VK} {QT:Bool→Hp→Prop} {QA:List V→Hp→Prop} {D:Ends} {K:PySem.W.Frag}
theorem rd_asg{te:TE}{g:TG}:tAsg te g D σ H=te σ H fun x H1=>g x σ H1 D.nx:=rfl
theorem rd_var{i:Nat}:tVar i σ H Q=∃v,σ[i]?=some (some v)∧Q v H:=rfl
theorem rd_c{v:V}:tC v σ H Q=Q v H:=rfl
theorem rd_op{r:R2}{ta tb:TE}:tOp r ta tb σ H Q=ta σ H fun x H1=>tb σ H1 fun y H2=>r x y H2 Q:=rfl
theorem rd_I0{g:Int→Int→V}{x y:V}:rI0 g x y H Q=∃i j,x= .int i∧y= .int j∧Q (g i j) H:=rfl
theorem rd_I{C:Int→Int→Prop}{g:Int→Int→V}{x y:V}:rI C g x y H Q=∃i j,x= .int i∧y= .int j∧C i j∧Q (g i j) H:=rfl
theorem rd_U{g:Int→V}{x:V}:rU g x H Q=∃i,x= .int i∧Q (g i) H:=rfl
theorem rd_name{i:Nat}{v:V}{N:St→Hp→Prop}:gName i v σ H N=N (σ.set i (some v)) H:=rfl
theorem rd_ifS{c:TT}{t u:TS}:tIfS c t u D σ H=c σ H fun b H1=>if b=true then t D σ H1 else u D σ H1:=rfl
theorem rd_test{t:TE}:tTest t σ H QT=t σ H fun x H'=>∃k,x= .bl k∧QT k H':=rfl
theorem rd_b{t:TE}:tB t σ H QT=t σ H fun x H1=>∃c,x= .bl c∧QT c H1:=rfl
theorem rd_ret{te:TE}:tRet te D σ H=te σ H D.rt:=rfl
theorem rd_retN:tRetN D σ H=D.rt .non H:=rfl
theorem rd_next:tNext D σ H=D.nx σ H:=rfl
theorem rd_break:tBreak D σ H=D.bk σ H:=rfl
theorem rd_cont:tCont D σ H=D.ct σ H:=rfl
theorem rd_cb{r:List V→Hp→VK→Prop}{t:TA}:tCB r t σ H Q=t σ H fun vs H1=>r vs H1 Q:=rfl
theorem rd_cons{ta:TE}{tr:TA}:tCons ta tr σ H QA=ta σ H fun x H1=>tr σ H1 fun xs H2=>QA (x::xs) H2:=rfl
theorem rd_nil:tNil σ H QA=QA [] H:=rfl
theorem rd_call{sp:Sp}{E:XK}{t:TA}:tCallD sp E t σ H Q=t σ H fun vs H1=>sp vs H1 Q E:=rfl
theorem rd_not{t:TT}:tNot t σ H QT=t σ H fun c H1=>QT (!c) H1:=rfl
theorem rd_or{t u:TT}:tOr t u σ H QT=t σ H fun c H1=>if c=true then QT true H1 else u σ H1 QT:=rfl
theorem rd_and{t u:TT}:tAnd t u σ H QT=t σ H fun c H1=>if c=true then u σ H1 QT else QT false H1:=rfl
theorem rd_andV{ta tb:TE}:tAndV ta tb σ H Q=ta σ H fun x H1=>∃c,x= .bl c∧if c=true then tb σ H1 Q else Q (.bl false) H1:=rfl
theorem rd_orV{ta tb:TE}:tOrV ta tb σ H Q=ta σ H fun x H1=>∃c,x= .bl c∧if c=true then Q (.bl true) H1 else tb σ H1 Q:=rfl
theorem rd_notV{ta:TE}:tNotV ta σ H Q=ta σ H fun x H1=>∃c,x= .bl c∧Q (.bl (!c)) H1:=rfl
theorem rd_if{t:TT}{ta tb:TE}:tIf t ta tb σ H Q=t σ H fun c H1=>if c=true then ta σ H1 Q else tb σ H1 Q:=rfl
theorem rd_un{r:V→Hp→VK→Prop}{ta:TE}:tUn r ta σ H Q=ta σ H fun x H1=>r x H1 Q:=rfl
theorem rd_eq{x y:V}:rEq x y H Q=(scal x y=true∧Q (.bl (decide (x=y))) H):=rfl
theorem rd_ne{x y:V}:rNe x y H Q=(scal x y=true∧Q (.bl (!decide (x=y))) H):=rfl
theorem rd_par{i j:Nat}{ta:TA}:tPar i j ta D σ H=ta σ H fun vs H1=>∃v w,vs=[v,w]∧D.nx ((σ.set i (some v)).set j (some w)) H1:=rfl
theorem rd_tup{t:TA}:tTup t σ H Q=t σ H fun xs H1=>xs.length≤sizeLine∧∀p,H1 p=none→Q (.ref p) (upd H1 p (.tup xs)):=rfl
theorem rd_lst{t:TA}:tLst t σ H Q=t σ H fun xs H1=>xs.length≤sizeLine∧∀p,H1 p=none→Q (.ref p) (upd H1 p (.lst xs)):=rfl
theorem rd_never:tNever D σ H=False:=rfl
theorem rd_drop{te:TE}:tDrop te D σ H=te σ H fun _ H1=>D.nx σ H1:=rfl
theorem rd_gcons{t:TG}{u:TGs}{vs:List V}{N:St→Hp→Prop}:gCons t u vs σ H N=∃v r,vs=v::r∧t v σ H fun σ' H'=>u r σ' H' N:=rfl
theorem rd_gnil{vs:List V}{N:St→Hp→Prop}:gNil vs σ H N=(vs=[]∧N σ H):=rfl
theorem rd_gsub{to ti:TE}{t:TSet}{v:V}{N:St→Hp→Prop}:gSub to ti t v σ H N=to σ H fun o H1=>ti σ H1 fun i H2=>t o i v H2 fun H3=>N σ H3:=rfl
theorem rd_chain{r r':R2}{ta tb tc:TE}:tChain r r' ta tb tc σ H Q=ta σ H fun x H1=>tb σ H1 fun y H2=>r x y H2 fun z H3=>∃k,z= .bl k∧
 (if k=true then tc σ H3 fun w' H4=>r' y w' H4 Q else Q (.bl false) H3):=rfl
theorem rd_rng1{ta:TA}{R:It→Hp→Prop}:iRng1 ta σ H R=ta σ H fun vs H1=>∃j:Int,vs=[.int j]∧-(2 ^ 62)≤j∧j < 2 ^ 62∧R (Itr 0 j.toNat) H1:=rfl
theorem rd_rng2{ta:TA}{R:It→Hp→Prop}:iRng2 ta σ H R=ta σ H fun vs H1=>∃i j:Int,vs=[.int i,.int j]∧(-(2 ^ 62)≤i∧i < 2 ^ 62∧-(2 ^ 62)≤j∧j < 2 ^ 62)∧R (Itr i (j - i).toNat) H1:=rfl
theorem rd_ilist{tl:TE}{R:It→Hp→Prop}:iList K tl σ H R=tl σ H fun x H1=>∃a,x= .ref a∧(∃xs,SqL K H1 a xs)∧R (Itl K a) H1:=rfl
theorem rd_itup{tl:TE}{R:It→Hp→Prop}:iTup K tl σ H R=tl σ H fun x H1=>∃a,x= .ref a∧(∃xs,SqT K H1 a xs)∧R (Itt K a) H1:=rfl
noncomputable def ForTail(g:TG)(tb:TS)(D:Ends)(σ:St):It→Hp→Prop:=fun J H1=>∃W:Nat→Nat→St→Hp→Prop,(∃m,W 0 m σ H1)∧∀i m σ H,W i m σ H→
 (J.stop i H∧D.nx σ H)∨(J.go i H∧∃N:St→Hp→Prop,(∀σ' H',N σ' H'→∃m',m' < m∧W (i+1) m' σ' H')∧∀x H',J.yld i H x H'→g x σ H' fun σ2 H2=>tb {D with nx:=N,ct:=N,bk:=D.nx} σ2 H2)
theorem rd_for'{wi:TI}{g:TG}{tb:TS}:tFor wi g tb D σ H=wi σ H (ForTail g tb D σ):=rfl
theorem forR_by{lo:Int}{n:Nat}{g:TG}{tb:TS}(Pv:Nat→St→Hp→Prop)(h0:Pv 0 σ H)
 (hs:∀i σ H,i < n→Pv i σ H→g (.int (lo+i)) σ H fun σ2 H2=>tb {D with nx:=Pv (i+1),ct:=Pv (i+1),bk:=D.nx} σ2 H2) (hd:∀σ H,Pv n σ H→D.nx σ H):ForTail g tb D σ (Itr lo n) H:=for_range Pv h0 hs hd
theorem forL_by{a:Addr}{xs:List V}{g:TG}{tb:TS}(Pv:Nat→St→Hp→Prop)(h0:Pv 0 σ H)(hl:∀i σ H,i≤xs.length→Pv i σ H→SqL K H a xs)
 (hs:∀i x σ H,xs[i]?=some x→Pv i σ H→g x σ H fun σ2 H2=>tb {D with nx:=Pv (i+1),ct:=Pv (i+1),bk:=D.nx} σ2 H2) (hd:∀σ H,Pv xs.length σ H→D.nx σ H):ForTail g tb D σ (Itl K a) H:=for_list Pv h0 hl hs hd
theorem seq_go{t u:TS}(h:∀rest:St→Hp→Prop,rest=u D→t {D with nx:=rest} σ H):tSeq t u D σ H:=h _ rfl
theorem leaf_go{rest r:St→Hp→Prop}(h:rest=r)(q:r σ H):rest σ H:=by rw [h];exact q
theorem cell_go{a:Addr}{ns:List Int}{k:Int}{R:List Int→Prop}(h:SqL K H a (ns.map V.int))(h0:0≤k)(hl:ns.length≤63)(q:R ns):∃x:List Int,SqL K H a (x.map V.int)∧0≤k∧x.length≤63∧R x:=⟨ns,h,h0,hl,q⟩
theorem cdiv_of{i j:Int}(h1:0 < j)(h2:j < 1073741824):CDiv i j:=⟨h1,h2⟩
theorem cpow_of{i j:Int}(h1:0≤j)(h2:j≤1000000)(h3:i.natAbs < 2 ^ 64):CPow i j:=⟨h1,h2,h3⟩
theorem cmul_l{i j:Int}(h1:-(2 ^ 64) < i)(h2:i < 2 ^ 64):CMul i j:= .inl ⟨h1,h2⟩
theorem cmul_r{i j:Int}(h1:-(2 ^ 64) < j)(h2:j < 2 ^ 64):CMul i j:= .inr ⟨h1,h2⟩
end
end L2
namespace L2
noncomputable def PassesS(CX:CXT)(X:Cx)(EE:St→XK):Prop:=∀(pins:List (Addr×Obj)) (σ:St) (H:Hp) (s:Shared) (e:Value) (s':Shared),Inv X pins σ H s→CX X.stack H s (EE σ) e s'→X.xe e s'
noncomputable abbrev TH:=Value→Addr→TS
end L2
namespace L2
theorem compLoop_any{prog:Program}{w:World}{A:Around}{R:Result→Shared→Prop}{s:Shared}{elt target iter:Expr}{ifs:List Expr}{scope:Scope}{pos:Pos}{it acc:Value}{env:Env}(I:Nat→Shared→Prop)
 (turn:∀n s,I n s→wpAny (model prog w) A (pyNext it) (fun r s₁=>match r with
  | none=>R (.ok .next) s₁
  | some v=>wpAny (model prog w) A (letOwnedTupleGo target it v) (fun _ s₁=>wpAny (model prog w) A (assign target env v) (fun _ s₂=>
   wpAny (model prog w) A (forIn ifs true fun c r=>if r=true then do let ok ← isTrue c env (eval c env);pure (ForInStep.yield ok) else pure (ForInStep.yield r)) (fun ok s₃=>
    if ok=true then wpAny (model prog w) A (eval elt env) (fun x s₄=>
     wpAny (model prog w) A (call (.builtin "list.append") [acc,x]) (fun _ s₅=>∃m,m < n∧I m s₅) (notedBy (model prog w) A env fun e s'=>R (.error e) s') s₄) (notedBy (model prog w) A env fun e s'=>R (.error e) s') s₃
    else ∃m,m < n∧I m s₃) (notedBy (model prog w) A env fun e s'=>R (.error e) s') s₂) (notedBy (model prog w) A env fun e s'=>R (.error e) s') s₁) (notedBy (model prog w) A env fun e s'=>R (.error e) s') s₁) (notedBy (model prog w) A env fun e s'=>R (.error e) s') s)
 (n:Nat) (h:I n s):
 codeAny (model prog w) A (.compLoop (.ListComp elt [⟨target,iter,ifs,0⟩] scope pos) 0 it acc env) R s:=by
 refine codeAny_loop rfl I (fun n s hI=>?_) n h
 show wpAny _ A ((compTurn (.ListComp elt [⟨target,iter,ifs,0⟩] scope pos) 0 it acc env).onRaise (fun x=>do noteFrame x env;theTreesLotGoes x)) _ _ s
 refine wpAny_noted ?_
 rw [compTurn_list]
 refine wpAny_bind (wpAny_standAt (wpAny_bind (wpAny_mono (turn n s hI) (fun r s₁ h₁=>?_) fun _ _ h'=>h')))
 cases r with
 | none=>exact wpAny_pure h₁
 | some v=>
  refine wpAny_bind (wpAny_mono h₁ (fun _ s₁ h₁=>?_) fun _ _ h'=>h')
  refine wpAny_bind (wpAny_mono h₁ (fun _ s₂ h₂=>wpAny_bind (wpAny_mono h₂ (fun ok s₃ h₃=>?_) fun _ _ h'=>h')) fun _ _ h'=>h')
  cases ok with
  | false=>exact wpAny_pure ⟨rfl,h₃⟩
  | true=>
   exact wpAny_bind (wpAny_bind (wpAny_mono h₃ (fun x s₄ h₄=>wpAny_bind (wpAny_mono h₄ (fun _ s₅ h₅=>wpAny_pure (wpAny_pure ⟨rfl,h₅⟩)) fun _ _ h'=>h')) fun _ _ h'=>h'))
noncomputable def clo(env:Env):List (Str×NameKind)→List (Str×Addr)→List (Str×Addr)
 | [],cs=>cs
 | (n,k)::r,cs=>clo env r (if (k== .free)=true then (match env.cells.lookup n with | some c=>(n,c)::cs | none=>cs) else cs)
theorem clo_loop{env:Env}:∀(names:List (Str×NameKind)) (cs:List (Str×Addr)),(∀y∈names,y.2= .free→∃c,env.cells.lookup y.1=some c)→
 (forIn (m:=Sem) names cs fun (x:Str×NameKind) (r:List (Str×Addr))=>match x with | (name,kind)=>if (kind== .free)=true then do let c ← cellOf env name;pure (ForInStep.yield ((name,c)::r)) else pure (ForInStep.yield r))=pure (clo env names cs)
 | [],cs,_=>rfl
 | (n,k)::r,cs,h=>by
  rw [List.forIn_cons]
  have ih:=fun cs=>clo_loop r cs fun y hy=>h y (List.mem_cons_of_mem _ hy)
  by_cases hk:(k==NameKind.free)=true
  · obtain ⟨c,hc⟩:=h (n,k) List.mem_cons_self (by simpa using hk)
    have e:cellOf env n=pure c:=by unfold cellOf;rw [show env.cells.lookup n=some c from hc]
    simp only [hk,if_true,e,clo]
    rw [show env.cells.lookup n=some c from hc]
    exact ih _
  · simp only [hk,clo]
    exact ih _
theorem clo_closure{scope:Scope}{env:Env}(h:∀y∈scope.names,y.2= .free→∃c,env.cells.lookup y.1=some c):closureFor scope env=pure (clo env scope.names []):=by
 unfold closureFor
 show (forIn (m:=Sem) scope.names ([]:List (Str×Addr)) _ >>=fun r=>pure r)=_
 rw [clo_loop scope.names [] h]
 rfl
theorem clo_cells{env:Env}{x:Str}{c:Addr}:∀(names:List (Str×NameKind)) (cs:List (Str×Addr)),(clo env names cs).lookup x=some c→env.cells.lookup x=some c∨cs.lookup x=some c
 | [],cs,h=> .inr h
 | (n,k)::r,cs,h=>by
  unfold clo at h
  rcases clo_cells r _ h with q | q
  · exact .inl q
  · split at q
    · split at q
      · rename_i c' hc
        rw [List.lookup_cons]at q
        cases hx:x==n with
        | true=>
         rw [hx]at q
         have e:x=n:=by simpa using hx
         subst e
         simp only [Option.some.injEq]at q
         subst q
         exact .inl hc
        | false=>rw [hx]at q;exact .inr q
      · exact .inr q
    · exact .inr q
theorem clo_has{env:Env}{x:Str}{c:Addr}(hc:env.cells.lookup x=some c):∀(names:List (Str×NameKind)) (cs:List (Str×Addr)),(cs.lookup x=some c∨(cs.lookup x=none∧(x,NameKind.free)∈names))→(clo env names cs).lookup x=some c
 | [],cs,h=>by
  rcases h with h | ⟨_,h⟩
  · exact h
  · cases h
 | (n,k)::r,cs,h=>by
  unfold clo
  refine clo_has hc r _ ?_
  by_cases hx:x=n
  · subst hx
    by_cases hk:(k==NameKind.free)=true
    · rw [if_pos hk,hc]
      exact .inl (by simp [List.lookup_cons])
    · rw [if_neg hk]
      rcases h with h | ⟨h1,h2⟩
      · exact .inl h
      · refine .inr ⟨h1,?_⟩
        rcases List.mem_cons.mp h2 with e | e
        · cases e;exact absurd rfl hk
        · exact e
  · have hb:(x==n)=false:=by simpa using hx
    have key:∀cs':List (Str×Addr),cs'.lookup x=cs.lookup x→(cs'.lookup x=some c∨(cs'.lookup x=none∧(x,NameKind.free)∈r)):=fun cs' e=>by
     rw [e]
     rcases h with h | ⟨h1,h2⟩
     · exact .inl h
     · refine .inr ⟨h1,?_⟩
       rcases List.mem_cons.mp h2 with e | e
       · cases e;exact absurd rfl hx
       · exact e
    refine key _ ?_
    split
    · split
      · simp [List.lookup_cons,hb]
      · rfl
    · rfl
theorem relabel_kind{env:Env}{k':NameKind}:∀{names:List (Str×NameKind)} {x:Str},(∀y∈names,y.2≠ .cell)→
 (names.map fun (n,k)=>if (k==NameKind.free && env.scope.kind== .function && env.kindOf n==some .cell) then (n,NameKind.cell) else (n,k)).lookup x=some k'→(k'= .cell∨k'= .free)→(x,NameKind.free)∈names
 | [],_,_,h,_=>by simp at h
 | (n,k)::r,x,hc,h,hk=>by
  have ih:=@relabel_kind env k' r x (fun y hy=>hc y (List.mem_cons_of_mem _ hy))
  have h':List.lookup x ((if (k==NameKind.free && env.scope.kind== .function && env.kindOf n==some .cell)=true then (n,NameKind.cell) else (n,k))::(r.map fun (n,k)=>if (k==NameKind.free && env.scope.kind== .function && env.kindOf n==some .cell) then (n,NameKind.cell) else (n,k)))=some k':=h
  by_cases hx:x=n
  · subst hx
    by_cases q:(k==NameKind.free && env.scope.kind== .function && env.kindOf x==some .cell)=true
    · have:k= .free:=by simp only [Bool.and_eq_true,beq_iff_eq]at q;exact q.1.1
      subst this
      exact List.mem_cons_self
    · rw [if_neg q,List.lookup_cons]at h'
      simp only [beq_self_eq_true]at h'
      have e:k=k':=Option.some.inj h'
      rcases hk with z | z
      · exact absurd (e.trans z) (hc (x,k) List.mem_cons_self)
      · rw [e.trans z];exact List.mem_cons_self
  · have hb:(x==n)=false:=by simpa using hx
    refine List.mem_cons_of_mem _ (ih ?_ hk)
    split at h'
    · rw [List.lookup_cons,hb]at h';exact h'
    · rw [List.lookup_cons,hb]at h';exact h'
theorem lookup_relabel_free{env:Env}:∀{names:List (Str×NameKind)} {x:Str},names.lookup x=some .free→
 (names.map fun (n,k)=>if (k==NameKind.free && env.scope.kind== .function && env.kindOf n==some .cell) then (n,NameKind.cell) else (n,k)).lookup x=some .cell∨
 (names.map fun (n,k)=>if (k==NameKind.free && env.scope.kind== .function && env.kindOf n==some .cell) then (n,NameKind.cell) else (n,k)).lookup x=some .free
 | [],_,h=>by simp at h
 | (n,k)::r,x,h=>by
  have ih:=@lookup_relabel_free env r x
  show List.lookup x ((if (k==NameKind.free && env.scope.kind== .function && env.kindOf n==some .cell)=true then (n,NameKind.cell) else (n,k))::_)=_∨List.lookup x ((if (k==NameKind.free && env.scope.kind== .function && env.kindOf n==some .cell)=true then (n,NameKind.cell) else (n,k))::_)=_
  cases hx:x==n with
  | true=>
   simp only [List.lookup_cons,hx]at h
   cases h
   split
   · left;simp [List.lookup_cons,hx]
   · right;simp [List.lookup_cons,hx]
  | false=>
   simp only [List.lookup_cons,hx]at h
   split
   · simp only [List.lookup_cons,hx];exact ih h
   · simp only [List.lookup_cons,hx];exact ih h
structure Blk where
 s:Shared
 H:Hp
 C:Addr
 fp:List Addr
noncomputable abbrev Cx.blk(X:Cx)(scope:Scope)(N':List Str)(b:Blk):Cx:=
 {X with N:=N',s₀:=b.s,H₀:=b.H,env:=compEnvC scope (clo X.env scope.names []) b.C X.env,outer:=X.stack,ex:=b.fp,fn:=fun _=>false,pn:=[],xe:=fun _ _=>False}
noncomputable def around(N:List Str)(fs:List Nat):List Str:=fs.map fun j=>N.getD j ""
noncomputable def compOkB(N:List Str)(esc scope:Scope)(xs:List Str)(fs:List Nat):Bool:=
 decide (xs++around N fs).Nodup && (match scope.kind with | .function=>true | _=>false) && xs.all (fun x=>decide (scope.names.lookup x=some .local)) &&
 scope.names.all (fun y=>decide (y.2≠ .cell) && (!decide (y.2= .local) || decide (scope.names.lookup y.1=some .local)) && (!decide (y.2= .free) || decide (esc.names.lookup y.1=some .cell) || decide (esc.names.lookup y.1=some .free))) &&
 fs.all fun j=>decide (j < N.length) && decide (scope.names.lookup (N.getD j "")=some .free)
structure CompOk(N:List Str)(esc scope:Scope)(xs:List Str)(fs:List Nat):Prop where
 nd:(xs++around N fs).Nodup
 kind:scope.kind= .function
 own:∀x∈xs,scope.names.lookup x=some .local
 cell:∀y∈scope.names,y.2≠ .cell
 names:∀y∈scope.names,y.2= .local→scope.names.lookup y.1=some .local
 free:∀y∈scope.names,y.2= .free→esc.names.lookup y.1=some .cell∨esc.names.lookup y.1=some .free
 fs:∀j∈fs,j < N.length∧scope.names.lookup (N.getD j "")=some .free
theorem compOk_of{N:List Str}{esc scope:Scope}{xs:List Str}{fs:List Nat}(h:compOkB N esc scope xs fs=true):CompOk N esc scope xs fs:=by
 unfold compOkB at h
 simp only [Bool.and_eq_true,decide_eq_true_eq,List.all_eq_true]at h
 obtain ⟨⟨⟨⟨h1,h2⟩,h3⟩,h4⟩,h5⟩:=h
 refine ⟨h1,?_,h3,fun y hy=>(h4 y hy).1.1,fun y hy e=>?_,fun y hy e=>?_,h5⟩
 · split at h2
   · assumption
   · cases h2
 · have:=(h4 y hy).1.2
   simpa [e] using this
 · have:=(h4 y hy).2
   simpa [e] using this
section
variable {X:Cx} {pins:List (Addr×Obj)} {σ:St} {H:Hp} {s:Shared} {scope:Scope} {xs:List Str} {fs:List Nat} {fp:List Addr} {C:Addr}
theorem blk_ok(I:Inv X pins σ H s)(O:CompOk X.N X.env.scope scope xs fs)(hf:∀b∈fp,FpOk X pins H b)(hC:s.heap.objs.size≤C)(hfp:∀b∈fp,b < s.heap.objs.size):(X.blk scope (xs++around X.N fs) ⟨s,H,C,fp⟩).Ok:=by
 have hcl:∀x c,(clo X.env scope.names []).lookup x=some c→X.env.cells.lookup x=some c:=fun x c e=>by
  rcases clo_cells _ _ e with q | q
  · exact q
  · cases q
 have hsz:∀b o,X.base.get? b=some o→b < X.s₀.heap.objs.size:=fun b o e=>Nat.lt_of_lt_of_le (Heap.lt_size e) I.ok.bsz
 refine ⟨I.ok.mod,O.kind,I.ok.glob,I.ok.blt,hC,fun x y c h1 h2=>I.ok.inj x y c (hcl x c h1) (hcl y c h2),fun x hx=>?_,fun x c z=>(by cases z),I.ok.hd,I.ok.frames,.inl rfl,fun b hb=>⟨Nat.ne_of_lt (Nat.lt_of_lt_of_le (hfp b hb) hC),fun x c e=>(hf b hb).2.2.2.2.1 x c (hcl x c e)⟩,I.bs,Nat.le_trans I.ok.bsz I.sz,fun b o e hb=>?_,fun b hb hs=>?_,I.stack,I.stkFree⟩
 · have hm:(x,NameKind.free)∈scope.names:=by
    rcases hx with hx | hx
    · exact relabel_kind (env:=X.env) O.cell (show (scope.names.map _).lookup x=some NameKind.cell from hx) (.inl rfl)
    · exact relabel_kind (env:=X.env) O.cell (show (scope.names.map _).lookup x=some NameKind.free from hx) (.inr rfl)
   obtain ⟨c,hc⟩:=I.ok.has x (O.free _ hm rfl)
   exact ⟨c,clo_has hc _ _ (.inr ⟨rfl,hm⟩)⟩
 · obtain ⟨_,_,_,h4,_⟩:=hf b hb
   rcases h4 with h4 | h4
   · exact I.ok.noex b o e h4
   · exact absurd (Nat.lt_of_lt_of_le (hsz b o e) h4) (Nat.lt_irrefl _)
 · obtain ⟨_,h2,h3,_⟩:=hf b hb
   exact (List.mem_cons.mp (I.stkSub b hs)).elim h2 h3
theorem blk_in{h1:Heap}{t:Nat}{D:Addr}{m:Str→Option Value}(I:Inv X pins σ H s)(O:CompOk X.N X.env.scope scope xs fs)(hf:∀b∈fp,FpOk X pins H b)(hD:s.heap.objs.size≤D)(hC:s.heap.objs.size≤C)(hfp:∀b∈fp,b < s.heap.objs.size)(hDC:D≠C)
 (k:∀b u,s.heap.get? b=some u→h1.get? b=some u) (hDo:h1.get? D=some {cls:= .type "list",data:= .seq #[] 0}) (hn:h1.Ns C m):
 Inv (X.blk scope (xs++around X.N fs) ⟨s,H,C,fp⟩) [] (xs.map (fun _=>none)++fs.map fun j=>σ.getD j none) (upd H D (.lst [])) {s with heap:=h1,toks:=t}:=by
 have hcl:∀x c,(clo X.env scope.names []).lookup x=some c→X.env.cells.lookup x=some c:=fun x c e=>by
  rcases clo_cells _ _ e with q | q
  · exact q
  · cases q
 have ok:=blk_ok (C:=C) I O hf hC hfp
 have hnD:H D=none:=I.hok.fresh hD
 refine ⟨ok,rfl,I.bare,Un.laid k hD hnD,⟨m,hn,fun i x v e1 e2 e3=>?_⟩,fun x c e=>?_,?_,fun x c e=>?_,fun p hp=>absurd (show p∈([]:List (Addr×Obj)) from hp) (by simp),I.hok.laid k hD ⟨Nat.zero_le _,[],0,.nil,hDo⟩,by simp [around]⟩
 · by_cases hi:i < xs.length
   · rw [List.getElem?_append_left (by simpa using hi),List.getElem?_map]at e2
     cases q:xs[i]? with
     | none=>rw [q]at e2;cases e2
     | some a=>rw [q]at e2;cases e2
   · have hi:xs.length≤i:=Nat.le_of_not_lt hi
     rw [List.getElem?_append_right (by simpa using hi)]at e1 e2
     unfold around at e1
     rw [List.length_map]at e2
     rw [List.getElem?_map]at e1 e2
     cases q:fs[i - xs.length]? with
     | none=>rw [q]at e2;cases e2
     | some j=>
      rw [q]at e1 e2
      simp only [Option.map_some,Option.some.injEq]at e1 e2
      obtain ⟨hj,hl⟩:=O.fs j (List.mem_of_getElem? q)
      obtain ⟨m0,_,hl0⟩:=I.loc
      have e1':X.N[j]?=some x:=by rw [← e1,List.getD_eq_getElem?_getD,List.getElem?_eq_getElem hj];rfl
      have e2':σ[j]?=some (some v):=by
       rw [List.getD_eq_getElem?_getD]at e2
       cases z:σ[j]? with
       | none=>rw [z]at e2;cases e2
       | some y=>rw [z]at e2;simp only [Option.getD_some]at e2;rw [e2]
      rw [e1]at hl
      have hm:(x,NameKind.free)∈scope.names:=PySem.mem_of_lookup hl
      have hk:=O.free _ hm rfl
      obtain ⟨u,r,l⟩:=hl0 j x v e1' e2' (hk.elim (fun z=> .inr (.inl z)) fun z=> .inr (.inr z))
      refine ⟨u,r,?_⟩
      rcases l with ⟨z,_⟩ | ⟨_,c,hc,cell⟩
      · have z':X.env.scope.names.lookup x=some .local:=z
        rcases hk with hk | hk <;> (rw [z']at hk;cases hk)
      · refine .inr ⟨?_,c,clo_has hc _ _ (.inr ⟨rfl,hm⟩),?_⟩
        · exact lookup_relabel_free (env:=X.env) hl
        · obtain ⟨o,ho,hd⟩:=cell
          exact ⟨o,k _ _ ho,hd⟩
 · obtain ⟨v,o,ho,hd⟩:=I.cell x c (hcl x c e)
   exact ⟨v,o,k _ _ ho,hd⟩
 · show upd H D (.lst []) C=none
   rw [upd_ne (Ne.symm hDC)];exact I.hok.fresh hC
 · obtain ⟨v,q⟩:=I.cell x c (hcl x c e)
   rw [upd_ne (Nat.ne_of_lt (Nat.lt_of_lt_of_le q.lt hD))]
   exact I.freeC x c (hcl x c e)
theorem blk_out{N':List Str}{σ':St}{H':Hp}{s':Shared}{h2:Heap}{pl:List (Addr×Obj)}(I:Inv X pins σ H s)(hf:∀b∈fp,FpOk X pins H b)(hC:s.heap.objs.size≤C)(J:Inv (X.blk scope N' ⟨s,H,C,fp⟩) pl σ' H' s')(sb:Heap.SameBut C s'.heap h2):
 Inv X pins σ H' {s' with heap:=h2}:=by
 have u:=J.base
 have ne:∀b o,s.heap.get? b=some o→b≠C:=fun b o e=>Nat.ne_of_lt (Nat.lt_of_lt_of_le (Heap.lt_size e) hC)
 refine I.call' (ch:=fp) J.os ⟨fun b o e n h1 h2=>(sb.2 b (ne b o e)).trans (u.keep b o e n h1 h2),fun b o e n h1 h2=>?_,u.free,fun b o e hx=>?_,u.tups,u.frzs,u.tbls⟩ (fun a o e=>?_) J.bare fun b hb=>?_
 · obtain ⟨sl,q⟩:=u.slot b o e n h1 h2
   exact ⟨sl,(sb.2 b (ne b o e)).trans q⟩
 · obtain ⟨o',q⟩:=u.there b o e hx
   exact ⟨o',(sb.2 b (ne b o e)).trans q⟩
 · have fr:H' C=none:=J.free
   refine (J.hok a o e).stay (fun b v hc q=>(sb.2 b ?_).trans q) (fun _ q=>q) fun _ _ q=>q
   rcases hc with rfl | hc
   · exact ne_of_none e fr
   · exact ne_of_none hc fr
 · obtain ⟨_,h2,h3,h4,h5,h6⟩:=hf b hb
   exact ⟨h4,h2,h5,h6⟩
end
end L2
namespace L2
noncomputable def Kept(σ σ':St):Prop:=∀(i:Nat) (v:V),σ[i]?=some (some v)→σ'[i]?=some (some v)
noncomputable def PTs(X:Cx)(ifs:List Expr)(t:TT):Prop:=
 ∀(pins:List (Addr×Obj)) (s:Shared) (σ:St) (H:Hp) (Q:Bool→Hp→Prop),Inv X pins σ H s→t σ H Q→
   wpAny (model X.prog X.w) X.A (forIn ifs true fun c r=>if r=true then do let ok ← isTrue c X.env (eval c X.env);pure (ForInStep.yield ok) else pure (ForInStep.yield r)) (TP X pins σ Q) X.xe s
noncomputable def tYes:TT:=fun _ H Q=>Q true H
theorem pts_nil{X:Cx}:PTs X [] tYes:=fun _ _ _ H _ I h=>wpAny_tests_nil ⟨H,I,h⟩
theorem pts_one{X:Cx}{c:Expr}{t:TT}(hc:PT X c t):PTs X [c] t:=fun pins s σ H Q I h=>wpAny_tests_one (hc pins s σ H Q I h)
noncomputable def CompTail(σ0:St)(g:Blk→TG)(tt:Blk→TT)(te:Blk→TE)(Q:VK)(J:It)(H1:Hp):Prop:=∀(b:Blk) (D:Addr),H1 D=none→∃W:Nat→Nat→List V→Hp→Prop,(∃m,W 0 m [] (upd H1 D (.lst [])))∧∀i m ys H2,W i m ys H2→H2 D=some (.lst ys)∧
 ((J.stop i H2∧Q (.ref D) H2)∨(J.go i H2∧∀x H3,J.yld i H2 x H3→g b x σ0 H3 fun σ6 H6=>Kept σ0 σ6∧tt b σ6 H6 fun ok H7=>
   if ok=true then te b σ6 H7 fun y H8=>H8 D=some (.lst ys)∧ys.length < sizeLine∧∃m',m' < m∧W (i+1) m' (ys++[y]) (upd H8 D (.lst (ys++[y])))
   else ∃m',m' < m∧W (i+1) m' ys H7))
noncomputable def tComp(wi:TI)(n:Nat)(fs:List Nat)(g:Blk→TG)(tt:Blk→TT)(te:Blk→TE):TE:=fun σ H Q=>wi σ H (CompTail (List.replicate n none++fs.map fun j=>σ.getD j none) g tt te Q)
section
variable {X:Cx} {pins:List (Addr×Obj)} {σ:St} {scope:Scope} {xs:List Str} {fs:List Nat} {elt tg iter:Expr} {ifs:List Expr} {pos:Pos} {wi:TI} {g:Blk→TG} {tt:Blk→TT} {te:Blk→TE}
theorem turned_of{H:Hp}{s:Shared}{C:Addr}{h2:Heap}(I:Inv X pins σ H s)(F:FpOk X pins H C)(sb:Heap.SameBut C s.heap h2):Inv X pins σ H {s with heap:=h2}:=
 I.turned (t':=s.toks) (fun b o hb e=>(sb.2 b hb).trans e) F.1 F.2.1 F.2.2.2.1 F.2.2.2.2.1 F.2.2.2.2.2
theorem comp_run{Q:VK}{itv:Value}{s2:Shared}{E:Value→Shared→Prop}{RR:Value→Addr→Result→Shared→Prop}(hc:X.calm=true)(O:CompOk X.N X.env.scope scope xs fs)
 (hg:∀b,PG (X.blk scope (xs++around X.N fs) b) tg (g b)) (ht:∀b,PTs (X.blk scope (xs++around X.N fs) b) ifs (tt b)) (he:∀b,PE (X.blk scope (xs++around X.N fs) b) elt (te b))
 (h:PIE X pins σ tg (CompTail (List.replicate xs.length none++fs.map fun j=>σ.getD j none) g tt te Q) itv s2)
 (hR:∀D C s' m H',s'.heap.Ns C m→Inv X pins σ H' s'→Q (.ref D) H'→FpOk X pins H' C→RR (.ref D) C (.ok .next) s'):
 wpAny (model X.prog X.w) X.A (newList []) (fun acc s₃=>wpAny (model X.prog X.w) X.A (newFunctionEnv scope X.env.globals (clo X.env scope.names []) [] X.env.qual none .none (some X.env)) (fun cenv s₄=>
  codeAny (model X.prog X.w) X.A (.compStart (.ListComp elt [⟨tg,iter,ifs,0⟩] scope pos) 0 itv acc {cenv with scope:=relabel scope X.env}) (RR acc cenv.locals) s₄) E s₃) E s2:=by
 obtain ⟨it,fp,tn,J,H2,rfl,I2,T,st2,f2,rd⟩:=h
 have hfp:∀b∈fp,b < s2.heap.objs.size:=fun b hb=>by
  obtain ⟨o,e,_⟩:=T.obj _ _ st2 b hb
  exact Heap.lt_size e
 refine wpAny_newObj_type (wpAny_newFunctionEnv O.cell (by intro y hy;simp at hy) (fun h₁ hns₁ hsb₁=>?_) O.kind)
 dsimp only at hns₁ hsb₁ ⊢
 generalize hH2:s2.heap.push {cls:= .type "list",dict:=none,data:= .seq ([]:List Value).toArray}=HH at hns₁ hsb₁ ⊢
 have hC:HH.objs.size=s2.heap.objs.size+1:=by rw [← hH2,Heap.size_push]
 have hDC:s2.heap.objs.size≠HH.objs.size:=by rw [hC];exact Nat.ne_of_lt (Nat.lt_succ_self _)
 have hCle:s2.heap.objs.size≤HH.objs.size:=by rw [hC];exact Nat.le_succ _
 have old:∀b o,s2.heap.get? b=some o→h₁.get? b=some o:=fun b o e=>hsb₁.extBut b o (by rw [hC];exact Nat.ne_of_lt (Nat.lt_succ_of_lt (Heap.lt_size e))) (Heap.get?_push_of_some _ (hH2▸Heap.get?_push_of_some _ e))
 have hacc:h₁.get? s2.heap.objs.size=some {cls:= .type "list",data:= .seq #[] 0}:=hsb₁.extBut _ _ hDC (Heap.get?_push_of_some _ (hH2▸Heap.get?_push_size _ rfl))
 obtain ⟨W,⟨m0,w0⟩,turn⟩:=rd ⟨s2,H2,HH.objs.size,fp⟩ s2.heap.objs.size I2.fresh
 have I3:=blk_in (t:=s2.toks+([]:List (Str×Value)).length) I2 O f2 (Nat.le_refl _) hCle hfp hDC old hacc hns₁
 rw [show xs.map (fun _=>(none:Option V))=List.replicate xs.length none from List.map_const' ..]at I3
 generalize hX:X.blk scope (xs++around X.N fs) ⟨s2,H2,HH.objs.size,fp⟩=X' at I3
 have stat:∀{H':Hp},(∀b∈fp,H' b=none)→∀b∈fp,FpOk X' [] H' b:=fun hn b hb=>by
  subst hX
  refine ⟨hn b hb,?_,?_,.inl hb,fun x c e=>?_,fun p hp=>absurd hp (by simp)⟩
  · exact (I3.ok.exf b hb).1
  · exact I3.ok.exfs b hb
  · exact (I3.ok.exf b hb).2 x c e
 have fr3:∀b∈fp,upd H2 s2.heap.objs.size (.lst []) b=none:=fun b hb=>by
  rw [upd_ne (Nat.ne_of_lt (hfp b hb))];exact (f2 b hb).1
 have ccell:∀y c,X.env.cells.lookup y=some c→c≠HH.objs.size:=fun y c e=>by
  obtain ⟨v,q⟩:=I2.cell y c e
  exact Nat.ne_of_lt (Nat.lt_of_lt_of_le q.lt hCle)
 have cloc:HH.objs.size≠X.env.locals:=(Nat.ne_of_lt (Nat.lt_of_lt_of_le I2.lt hCle)).symm
 have eP:X'.prog=X.prog:=by rw [← hX]
 have ew:X'.w=X.w:=by rw [← hX]
 have eK:X'.K=X.K:=by rw [← hX]
 have eA:X'.A=X.A:=by rw [← hX]
 have ec:X'.calm=true:=by rw [← hX];exact hc
 have ex:X'.xe=fun _ _=>False:=by rw [← hX]
 have een:X'.env=compEnvC scope (clo X.env scope.names []) HH.objs.size X.env:=by rw [← hX]
 have hg':=hg ⟨s2,H2,HH.objs.size,fp⟩
 have ht':=ht ⟨s2,H2,HH.objs.size,fp⟩
 have he':=he ⟨s2,H2,HH.objs.size,fp⟩
 rw [hX]at hg' ht' he'
 have st1:tn 0 h₁:=T.keep _ _ _ st2 fun b hb o e=>old b o e
 have loop:∀s₃:Shared,s₃={s2 with heap:=h₁,toks:=s2.toks+([]:List (Str×Value)).length}→
  codeAny (model X.prog X.w) X.A (.compLoop (.ListComp elt [⟨tg,iter,ifs,0⟩] scope pos) 0 (.ref it) (.ref s2.heap.objs.size) (compEnvC scope (clo X.env scope.names []) HH.objs.size X.env))
   (RR (.ref s2.heap.objs.size) HH.objs.size) s₃:=by
  rintro s₃ rfl
  refine compLoop_any (fun n s'=>∃i ys H',Inv X' [] (List.replicate xs.length none++fs.map fun j=>σ.getD j none) H' s'∧tn i s'.heap∧(∀b∈fp,H' b=none)∧W i n ys H') ?_ m0 ⟨0,[],_,I3,st1,fr3,w0⟩
  rintro n s4 ⟨i,ys,H4,I4,st4,fr4,w4⟩
  obtain ⟨hD4,tn4⟩:=turn i n ys H4 w4
  rcases tn4 with ⟨stop,qn⟩ | ⟨go,step⟩
  · have td:=T.done X' eP ew eK ec i [] s4 _ H4 (notedBy (model X.prog X.w) X.A (compEnvC scope (clo X.env scope.names []) HH.objs.size X.env) fun e s'=>RR (.ref s2.heap.objs.size) HH.objs.size (.error e) s') I4 (stat fr4) st4 stop
    rw [eA]at td
    refine thn td fun r s5 ⟨hr,I5⟩=>?_
    subst hr
    obtain ⟨m5,hn5,_⟩:=I5.loc
    rw [een]at hn5
    have fr5:H4 HH.objs.size=none:=by have:=I5.free;rw [een]at this;exact this
    rw [← hX]at I5
    exact hR _ _ _ m5 H4 hn5 (blk_out I2 f2 hCle I5 (Heap.SameBut.refl ..)) qn (I2.fpOk hCle fr5)
  · have ti:=T.item X' eP ew eK ec i [] s4 _ H4 (notedBy (model X.prog X.w) X.A (compEnvC scope (clo X.env scope.names []) HH.objs.size X.env) fun e s'=>RR (.ref s2.heap.objs.size) HH.objs.size (.error e) s') I4 (stat fr4) st4 go
    rw [eA]at ti
    refine thn ti fun r s5 ⟨u,hr,h5⟩=>?_
    subst hr
    refine thn h5 fun _ s6 hq_=>?_
    obtain ⟨x,H6,I6,r6,y6,st6,fr6⟩:=hq_
    have I6':=I6.pinned (stat fr6) (T.obj _ _ st6)
    have g1:=hg' _ s6 _ H6 x u _ I6' r6 (step x H6 y6)
    rw [eP,ew,eA,een,ex]at g1
    refine wpAny_mono g1 (fun _ s7 hq_=>?_) fun _ _ z=>z.elim
    obtain ⟨σ7,H7,I7,kp7,q7⟩:=hq_
    have t1:=ht' _ s7 σ7 H7 _ I7 q7
    rw [eP,ew,eA,een,ex]at t1
    have back:∀{H9:Hp} {s9:Shared},Inv X' ([]++pinsAt fp s6.heap) σ7 H9 s9→Inv X' [] (List.replicate xs.length none++fs.map fun j=>σ.getD j none) H9 s9∧tn (i+1) s9.heap∧∀b∈fp,H9 b=none:=fun {H9 s9} I9=>by
     refine ⟨I9.unpinned.weak ?_ kp7,T.keep _ _ _ st6 fun b hb o e=>(I9.pin (b,o) (List.mem_append_right _ (List.mem_append_right _ (mem_pinsAt hb e)))).1,fun b hb=>?_⟩
     · rw [I9.len,I4.len]
     · obtain ⟨o,e,d⟩:=T.obj _ _ st6 b hb
       exact (I9.pin (b,o) (List.mem_append_right _ (List.mem_append_right _ (mem_pinsAt hb e)))).2.1
    refine wpAny_mono t1 (fun ok s8 ⟨H8,I8,q8⟩=>?_) fun _ _ z=>z.elim
    cases ok with
    | false=>
     rw [if_neg Bool.false_ne_true]at q8 ⊢
     obtain ⟨m',hm,w8⟩:=q8
     obtain ⟨b1,b2,b3⟩:=back I8
     exact ⟨m',hm,i+1,ys,H8,b1,b2,b3,w8⟩
    | true=>
     rw [if_pos rfl]at q8 ⊢
     have e1:=he' _ s8 σ7 H8 _ I8 q8
     rw [eP,ew,eA,een,ex]at e1
     refine wpAny_mono e1 (fun uy s9 hq_=>?_) fun _ _ z=>z.elim
     obtain ⟨y,H9,I9,r9,hD9,hz,m',hm,w9⟩:=hq_
     have a1:=mt_append (X:=X') (pins:=[]++pinsAt fp s6.heap) (s:=s9) (σ:=σ7) (H:=H9) (x:= .ref s2.heap.objs.size) (xs:=[y]) (v:= .ref s2.heap.objs.size) (us:=[uy]) (Q:=fun _ H'=>H'=upd H9 s2.heap.objs.size (.lst (ys++[y]))) I9 rfl (.cons r9 .nil) ⟨_,ys,y,rfl,rfl,hD9,hz,rfl⟩
     rw [eP,ew,eA,ex]at a1
     refine wpAny_mono a1 (fun _ s10 hq_=>?_) fun _ _ z=>z.elim
     obtain ⟨_,H10,I10,_,e10⟩:=hq_
     subst e10
     obtain ⟨b1,b2,b3⟩:=back I10
     exact ⟨m',hm,i+1,_,_,b1,b2,b3,w9⟩
 exact codeAny_compStart_list (loop _ rfl) (T.self _ 0 _ _ _ st1 (loop _ rfl))
theorem pe_compG(hc:X.calm=true)(hok:compOkB X.N X.env.scope scope xs fs=true)(hi:PI X tg iter wi)
 (hg:∀b,PG (X.blk scope (xs++around X.N fs) b) tg (g b)) (ht:∀b,PTs (X.blk scope (xs++around X.N fs) b) ifs (tt b)) (he:∀b,PE (X.blk scope (xs++around X.N fs) b) elt (te b))
 (hs:∀x,foldedSetIterable iter X.env x=pure x:=by intro _;rfl):
 PE X (.ListComp elt [⟨tg,iter,ifs,0⟩] scope pos) (tComp wi xs.length fs g tt te):=by
 intro pins s σ H Q I h
 have O:=compOk_of hok
 rw [eval_ListComp]
 refine wpAny_comprehension_free (use:=none) rfl hs (clo_closure fun y hy hf=>I.ok.has _ (O.free y hy hf)) O.kind O.names (thn (hi pins s σ H _ I h) fun v s1 h1=>thn h1 fun itv s2 h2=>?_)
 exact comp_run (RR:=fun acc C=>compPost (model X.prog X.w) X.A X.xe none (EP X pins σ Q) acc C) hc O hg ht he h2 fun D C s' m H' hn I' q F=>⟨m,hn,fun h2 sb=>⟨.ref D,H',turned_of I' F sb,rfl,q⟩⟩
theorem ps_comp{y:Str}{py:Pos}{i:Nat}(hN:X.N.Nodup)(hy:X.N[i]?=some y)(hyl:X.env.kindOf y=some .local)(hc:X.calm=true)(hok:compOkB X.N X.env.scope scope xs fs=true)(hi:PI X tg iter wi)
 (hg:∀b,PG (X.blk scope (xs++around X.N fs) b) tg (g b)) (ht:∀b,PTs (X.blk scope (xs++around X.N fs) b) ifs (tt b)) (he:∀b,PE (X.blk scope (xs++around X.N fs) b) elt (te b)) {spos:Pos}
 (hsw:swapsWith (.ListComp elt [⟨tg,iter,ifs,0⟩] scope pos) (some (.Name y py)) spos.line X.env=pure true:=by rfl)
 (hs:∀x,foldedSetIterable iter X.env x=pure x:=by intro _;rfl):
 PS X (.Assign [.Name y py] (.ListComp elt [⟨tg,iter,ifs,0⟩] scope pos) spos) (tAsg (tComp wi xs.length fs g tt te) (gName i)):=by
 intro pins s σ H D I h
 have O:=compOk_of hok
 rw [exec_Assign_Name_used _ _ _ _ hsw]
 refine wpAny_bind (wpAny_standAt (wpAny_bind ?_))
 show wpAny _ X.A (do let _ ← comprehension (.ListComp elt [⟨tg,iter,ifs,0⟩] scope pos) scope X.env _ (newList []) false (eval iter X.env) (some (assign (.Name y py) X.env))) _ _ s
 refine wpAny_bind (wpAny_mono (wpAny_comprehension_free (use:=some (assign (.Name y py) X.env)) (Q:=fun _ s'=>SP X pins D .next s') rfl hs (clo_closure fun y hy hf=>I.ok.has _ (O.free y hy hf)) O.kind O.names
  (thn (hi pins s σ H _ I h) fun v s1 h1=>thn h1 fun itv s2 h2=>?_)) (fun _ s' hq=>wpAny_pure (wpAny_pure hq)) fun _ _ e=>e)
 refine comp_run (RR:=fun acc C=>compPost (model X.prog X.w) X.A X.xe (some (assign (.Name y py) X.env)) (fun _ s'=>SP X pins D .next s') acc C) hc O hg ht he h2 fun D' C s' m H' hn I0 q0 F=>?_
 show wpAny _ X.A (assign (.Name y py) X.env (.ref D')) _ _ _
 refine wpAny_assign_Name (store_ok2 I0 hN hy (.inl hyl) (v:= .ref D') rfl (fun s3 I3 hsb=>?_) (.inr hyl))
 obtain ⟨a,sb3,ha⟩:=hsb
 have haC:C≠a:=by
  rcases ha with rfl | ha
  · exact F.2.1
  · exact (F.2.2.2.2.1 y a ha).symm
 exact ⟨m,hn.sameBut sb3 haC,fun h4 sb4=>⟨_,H',turned_of I3 F sb4,q0⟩⟩
end
end L2
namespace L2
noncomputable def Its(z:Str):It:=⟨fun i _=>i < z.cps.size,fun i H x H'=>H'=H∧∃c,z.cps[i]?=some c∧x= .str ⟨#[c]⟩,fun i _=>z.cps.size≤i⟩
noncomputable def iStr(tl:TE):TI:=fun σ H R=>tl σ H fun x H1=>∃z,x= .str z∧R (Its z) H1
section
variable {P:Program} {w:World} {K:PySem.W.Frag} {tg:Expr}
theorem turn_str(ty:String)(hty:ty="str_ascii_iterator"∨ty="str_iterator")(z:Str)(t:Tok)(it:Addr):Turn P w K tg (Its z) [it] it (fun i h=>i≤z.cps.size∧h.IsStrIter it ty z t i) where
 mem:=by simp
 obj:=fun i h st b hb=>by
  have e:b=it:=by simpa using hb
  subst e
  obtain ⟨o,e,c,d⟩:=st.2
  exact ⟨o,e,fun v z=>by rw [d]at z;cases z⟩
 keep:=fun i h h' st k=>⟨st.1,by obtain ⟨o,e,r⟩:=st.2;exact ⟨o,k it (by simp) o e,r⟩⟩
 item:=by
  intro X hP hw hK hc i pins s σ H E I hf st hg
  subst hP hw hK
  obtain ⟨f0,f1,f2,f3,f4,f5⟩:=hf it (by simp)
  have W:Walks X.prog X.w X.A it [it] [it] z.cps.size (SignAt z) (fun i h=>h.IsStrIter it ty z t i):=by
   rcases hty with rfl | rfl
   · exact Walks.strAscii (I.ok.hd hc) it z t
   · exact Walks.strWide (I.ok.hd hc) it z t
  refine W.item i s _ _ hg st.2 fun v h' tk hv st' kk=>?_
  obtain ⟨c,u,hcc,rfl⟩:=hv
  have I1:Inv X pins σ H {s with heap:=h',toks:=tk}:=I.turned (fun b o hb e=>kk b o (by simpa using hb) e) f0 f1 f3 f4 f5
  obtain ⟨o,e,cc,d⟩:=id st'
  refine ⟨_,rfl,go_of (s:={s with heap:=h',toks:=tk}) (n:=ty) e cc d (by rcases hty with rfl | rfl <;> decide) ⟨.str ⟨#[c]⟩,H,I1,⟨u,rfl⟩,⟨rfl,c,hcc,rfl⟩,⟨hg,st'⟩,fun b hb=>(hf b hb).1⟩⟩
 done:=by
   intro X hP hw hK hc i pins s σ H E I hf st hg
   subst hP hw hK
   obtain ⟨f0,f1,f2,f3,f4,f5⟩:=hf it (by simp)
   have W:Walks X.prog X.w X.A it [it] [it] z.cps.size (SignAt z) (fun i h=>h.IsStrIter it ty z t i):=by
    rcases hty with rfl | rfl
    · exact Walks.strAscii (I.ok.hd hc) it z t
    · exact Walks.strWide (I.ok.hd hc) it z t
   have hi:i=z.cps.size:=Nat.le_antisymm st.1 hg
   subst hi
   exact W.done s _ _ st.2 fun h' tk kk=>⟨rfl,I.turned (fun b o hb e=>kk b o (by simpa using hb) e) f0 f1 f3 f4 f5⟩
 self:=fun _ _ _ _ _ st h=>by
  rcases hty with rfl | rfl
  · exact wpAny_pyIter_striter_ascii st.2 h
  · exact wpAny_pyIter_striter_wide st.2 h
end
section
variable {X:Cx} {tg:Expr}
theorem pi_str{l:Expr}{tl:TE}(hl:PE X l tl):PI X tg l (iStr tl):=by
 intro pins s σ H R I h
 refine thn (hl pins s σ H _ I h) fun v s1 hq_=>?_
 obtain ⟨x,H1,I1,r1,q1⟩:=hq_
 obtain ⟨z,e,q⟩:=q1
 subst e
 obtain ⟨t,rfl⟩:=r1
 have fin:∀ty,(ty="str_ascii_iterator"∨ty="str_iterator")→PIE X pins σ tg R (.ref s1.heap.objs.size) {s1 with heap:=s1.heap.push {cls:= .type ty,data:= .fields #[.str z t,.int 0 0]}}:=fun ty hty=>by
  refine ⟨s1.heap.objs.size,[s1.heap.objs.size],_,_,H1,rfl,I1.kept (t':=s1.toks) fun b o e=>Heap.get?_push_of_some _ e,turn_str ty hty z t _,⟨Nat.zero_le _,_,Heap.get?_push_size _ rfl,rfl,rfl⟩,fun b hb=>?_,q⟩
  have e:b=s1.heap.objs.size:=by simpa using hb
  subst e
  exact I1.fpOk (Nat.le_refl _) I1.fresh
 cases ha:z.cps.all (· < 128)
 · exact wpAny_pyIter_wide ha (fin _ (.inr rfl))
 · exact wpAny_pyIter_ascii ha (fin _ (.inl rfl))
noncomputable def rSlS:V→Option Int→Option Int→Hp→VK→Prop:=fun x lo hi H Q=>∃z,x= .str z∧z.length≤sizeLine∧Q (.str (Txt.slice z lo hi)) H
noncomputable def rJoin(K:PySem.W.Frag):V→List V→Hp→VK→Prop:=fun x vs H Q=>∃z p ys,x= .str z∧vs=[.ref p]∧SqL K H p (ys.map V.str)∧(ys.map (·.length)).sum+ys.length * z.length≤16777216∧Q (.str (Txt.join z ys)) H
noncomputable def rFind:V→List V→Hp→VK→Prop:=fun x vs H Q=>∃z y,x= .str z∧vs=[.str y]∧Q (.int (Txt.find z y)) H
noncomputable def rSplit:V→List V→Hp→VK→Prop:=fun x vs H Q=>∃z y,x= .str z∧vs=[.str y]∧(y.length==0)=false∧z.length+2≤sizeLine∧∀p,H p=none→Q (.ref p) (upd H p (.lst ((Txt.split z y).map V.str)))
noncomputable def rMulS:R2:=fun x y H Q=>∃z n,x= .str z∧y= .int n∧MulOk z n∧Q (.str (Txt.mul z n)) H
theorem op_mulS:OpR X (binaryOp .Mult) rMulS:=by
 intro pins s σ H x y v u Q I rx ry h
 obtain ⟨z,n,rfl,rfl,hok,q⟩:=h
 obtain ⟨t,rfl⟩:=rx
 obtain ⟨t2,rfl⟩:=ry
 exact SB.mul hok fun t' k=>⟨.str _,H,I.tok k,⟨t',rfl⟩,q⟩
noncomputable def rAll(K:PySem.W.Frag):List V→Hp→VK→Prop:=fun xs H Q=>∃(p:Addr) (bs:List Bool),xs=[.ref p]∧SqL K H p (bs.map V.bl)∧Q (.bl (bs.all id)) H
theorem call_all(hc:X.calm=true):CallR X (.builtin "all") (rAll X.K):=by
 intro pins s σ H xs us Q I r h
 obtain ⟨p,bs,rfl,hp,q⟩:=h
 obtain ⟨u,rfl,ru⟩:=vals1 r
 cases ru
 obtain ⟨its,r,pl,hz⟩:=I.list hp
 have hlt:p < s.heap.objs.size:=by obtain ⟨o,n,e,_⟩:=pl;exact Heap.lt_size e
 refine call_all_walk (wpAny_pyIter_list pl.isList ⟨s.heap.objs.size,_,_,_,_,_,fun i=>bs.getD i true,rfl,Walks.list (show X.A.in1.handled=none from I.ok.hd hc) s.heap.objs.size p (Nat.ne_of_lt hlt) its.toArray,⟨⟨_,Heap.get?_push_size _ rfl,rfl,rfl⟩,pl.isList.push _⟩,?_,fun h' tk kk=>?_⟩)
 · intro i v s' Q' E' hP hQ'
   have hP:its.toArray[i]?=some v:=hP
   have hlen:=r.length
   rw [List.length_map]at hlen
   have hi:i < bs.length:=by
    have:=(Array.getElem?_eq_some_iff.mp hP).1
    rw [List.size_toArray]at this
    omega
   obtain ⟨u,hu,ru⟩:=r.get (i:=i) (x:=V.bl (bs[i])) (by simp [hi])
   have e:u=v:=by
    have:its[i]?=some v:=by simpa using hP
    rw [hu]at this;exact Option.some.inj this
   subst e
   cases ru
   dsimp only at hQ'
   rw [List.getD_eq_getElem?_getD,List.getElem?_eq_getElem hi]at hQ'
   exact wpAny_pure hQ'
 · refine ⟨.bl _,H,I.kept (t':=tk) fun b o e=>kk b o ?_ (Heap.get?_push_of_some _ e),rfl,?_⟩
   · simpa using Nat.ne_of_lt (Heap.lt_size e)
   · have hlen:=r.length
     rw [List.length_map]at hlen
     have:((List.range its.toArray.size).all fun i=>bs.getD i true)=bs.all id:=by
      rw [List.size_toArray,← hlen]
      rw [Bool.eq_iff_iff,List.all_eq_true,List.all_eq_true]
      constructor
      · intro h x hx
        obtain ⟨i,hi,rfl⟩:=List.mem_iff_getElem.mp hx
        have:=h i (by simpa using hi)
        simpa [List.getD_eq_getElem?_getD,List.getElem?_eq_getElem hi] using this
      · intro h i hi
        have hi:i < bs.length:=by simpa using hi
        rw [List.getD_eq_getElem?_getD,List.getElem?_eq_getElem hi]
        exact h _ (List.getElem_mem hi)
     rw [this];exact q
end
noncomputable abbrev TJ:=Str→St→Hp→(Str→Hp→Prop)→Prop
noncomputable def jNil:TJ:=fun acc _ H Q=>Q acc H
noncomputable def jCons(te:TE)(tr:TJ):TJ:=fun acc σ H Q=>te σ H fun x H1=>∃y,x= .str y∧(acc++y).length≤sizeLine∧tr (acc++y) σ H1 Q
noncomputable def tFstr(t:TJ):TE:=fun σ H Q=>t Str.empty σ H fun out H1=>out.length≤sizeLine∧Q (.str out) H1
noncomputable def tFmt(te:TE):TE:=fun σ H Q=>te σ H fun x H1=>(∃z,x= .str z∧z.length≤sizeLine∧Q (.str z) H1)∨∃i,x= .int i∧i.natAbs.log2 < 1920∧Q (.str (toString i)) H1
noncomputable def tFmtR(te:TE):TE:=fun σ H Q=>te σ H fun x H1=>∃z,x= .str z∧(PySem.reprText z).length≤sizeLine∧Q (.str (PySem.reprText z)) H1
end L2
namespace L2
noncomputable abbrev tComp1(wi:TI)(fs:List Nat)(te:Blk→TE):TE:=tComp wi 1 fs (fun _=>gName 0) (fun _=>tYes) te
section
variable {X:Cx} {scope:Scope} {x:Str} {px:Pos} {fs:List Nat} {elt iter:Expr} {pos:Pos} {wi:TI} {te:Blk→TE}
theorem pg_own(hok:compOkB X.N X.env.scope scope [x] fs=true)(b:Blk):PG (X.blk scope ([x]++around X.N fs) b) (.Name x px) (gName 0):=
 pg_name (compOk_of hok).nd rfl (.inl (lookup_relabel_local ((compOk_of hok).own x (by simp)))) (.inr (lookup_relabel_local ((compOk_of hok).own x (by simp))))
theorem pe_comp1(x:Str)(fs:List Nat)(hc:X.calm=true)(hok:compOkB X.N X.env.scope scope [x] fs=true)(hi:PI X (.Name x px) iter wi)(he:∀b,PE (X.blk scope ([x]++around X.N fs) b) elt (te b))
 (hs:∀x,foldedSetIterable iter X.env x=pure x:=by intro _;rfl):PE X (.ListComp elt [⟨.Name x px,iter,[],0⟩] scope pos) (tComp1 wi fs te):=
 pe_compG (xs:=[x]) (g:=fun _=>gName 0) (tt:=fun _=>tYes) hc hok hi (pg_own hok) (fun _=>pts_nil) he hs
theorem ps_comp1{y:Str}{py:Pos}{i:Nat}{spos:Pos}(x:Str)(fs:List Nat)(hN:X.N.Nodup)(hy:X.N[i]?=some y)(hyl:X.env.kindOf y=some .local)(hc:X.calm=true)(hok:compOkB X.N X.env.scope scope [x] fs=true)(hi:PI X (.Name x px) iter wi)(he:∀b,PE (X.blk scope ([x]++around X.N fs) b) elt (te b))
 (hsw:swapsWith (.ListComp elt [⟨.Name x px,iter,[],0⟩] scope pos) (some (.Name y py)) spos.line X.env=pure true:=by rfl)
 (hs:∀x,foldedSetIterable iter X.env x=pure x:=by intro _;rfl):PS X (.Assign [.Name y py] (.ListComp elt [⟨.Name x px,iter,[],0⟩] scope pos) spos) (tAsg (tComp1 wi fs te) (gName i)):=
 ps_comp (xs:=[x]) (g:=fun _=>gName 0) (tt:=fun _=>tYes) hN hy hyl hc hok hi (pg_own hok) (fun _=>pts_nil) he hsw hs
end
theorem kept0{x:Option V}{r:St}:Kept (none::r) (x::r):=fun i v e=>by
 cases i with
 | zero=>cases e
 | succ i=>exact e
section
variable {K:PySem.W.Frag} {tail:St} {te:Blk→TE} {Q:VK} {H1:Hp}
noncomputable def CompNext(D:Addr)(n i:Nat)(ys:List V)(Pv:Nat→List V→Hp→Prop):VK:=fun y H4=>H4 D=some (.lst ys)∧ys.length < sizeLine∧∃m',m' < n - i∧(m'=n - (i+1)∧i+1≤n∧Pv (i+1) (ys++[y]) (upd H4 D (.lst (ys++[y]))))
theorem compNext{D:Addr}{n i:Nat}{ys:List V}{Pv:Nat→List V→Hp→Prop}{y:V}{H4:Hp}(h1:H4 D=some (.lst ys))(h2:ys.length < sizeLine)(h3:i < n)(h4:Pv (i+1) (ys++[y]) (upd H4 D (.lst (ys++[y])))):CompNext D n i ys Pv y H4:=
 ⟨h1,h2,n - (i+1),by omega,rfl,h3,h4⟩
theorem comp_by{J:It}(n:Nat)
 (h:∀(b:Blk) (D:Addr),H1 D=none→∃Pv:Nat→List V→Hp→Prop,Pv 0 [] (upd H1 D (.lst []))∧(∀i ys H,Pv i ys H→H D=some (.lst ys))∧(∀ys H,Pv n ys H→J.stop n H∧Q (.ref D) H)∧
  ∀i ys H,i < n→Pv i ys H→J.go i H∧∀x H3,J.yld i H x H3→te b (some x::tail) H3 (CompNext D n i ys Pv)):CompTail (none::tail) (fun _=>gName 0) (fun _=>tYes) te Q J H1:=by
 intro b D hD
 obtain ⟨Pv,p0,p1,p2,p3⟩:=h b D hD
 refine ⟨fun i m ys H=>m=n - i∧i≤n∧Pv i ys H,⟨n,rfl,Nat.zero_le _,p0⟩,?_⟩
 rintro i m ys H ⟨rfl,hi,p⟩
 refine ⟨p1 i ys H p,?_⟩
 by_cases hlt:i < n
 · obtain ⟨go,st⟩:=p3 i ys H hlt p
   refine .inr ⟨go,fun x H3 y=>⟨kept0,?_⟩⟩
   exact st x H3 y
 · have e:i=n:=by omega
   subst e
   exact .inl (p2 ys H p)
theorem same_new{D:Addr}{o:HO}(h:H1 D=none):Same H1 (upd H1 D o):=fun b u e=>by rw [upd_ne (ne_of_none e h)];exact e
theorem compS_pure{z:Str}(f:Nat→V)(hz:z.cps.size≤sizeLine)(he:∀b c H Q',c∈z.cps.toList→Same H1 H→Q' (f c) H→te b (some (.str ⟨#[c]⟩)::tail) H Q')
 (q:∀D,H1 D=none→Q (.ref D) (upd H1 D (.lst (z.cps.toList.map f)))):CompTail (none::tail) (fun _=>gName 0) (fun _=>tYes) te Q (Its z) H1:=by
 refine comp_by z.cps.size (fun b D hD=>⟨fun i ys H=>i≤z.cps.size∧ys=(z.cps.toList.take i).map f∧H=upd H1 D (.lst ys),⟨Nat.zero_le _,rfl,rfl⟩,?_,?_,?_⟩)
 · rintro i ys H ⟨hi,rfl,rfl⟩
   exact upd_same
 · rintro ys H ⟨_,rfl,rfl⟩
   refine ⟨Nat.le_refl _,?_⟩
   have e:z.cps.toList.take z.cps.size=z.cps.toList:=List.take_of_length_le (by simp)
   rw [e];exact q D hD
 · rintro i ys H hi ⟨_,rfl,rfl⟩
   refine ⟨hi,fun x H3 ⟨e3,c,hc,ex⟩=>?_⟩
   subst e3 ex
   have hc':z.cps.toList[i]?=some c:=by simpa using hc
   refine he b c _ _ (List.mem_of_getElem? hc') (same_new hD) (compNext upd_same (by rw [List.length_map,List.length_take,Array.length_toList];omega) hi ⟨hi,?_,?_⟩)
   · rw [List.take_add_one,hc'];simp
   · funext a;by_cases ha:a=D <;> simp [upd,ha]
theorem compL_pure{a:Addr}{xs:List V}(f:V→V)(hS:SqL K H1 a xs)(hz:xs.length≤sizeLine)(he:∀b x H Q',x∈xs→Same H1 H→Q' (f x) H→te b (some x::tail) H Q')
 (q:∀D,H1 D=none→Q (.ref D) (upd H1 D (.lst (xs.map f)))):CompTail (none::tail) (fun _=>gName 0) (fun _=>tYes) te Q (Itl K a) H1:=by
 refine comp_by xs.length (fun b D hD=>⟨fun i ys H=>i≤xs.length∧ys=(xs.take i).map f∧H=upd H1 D (.lst ys),⟨Nat.zero_le _,rfl,rfl⟩,?_,?_,?_⟩)
 · rintro i ys H ⟨hi,rfl,rfl⟩
   exact upd_same
 · rintro ys H ⟨_,rfl,rfl⟩
   refine ⟨⟨xs,(same_new hD).seq hS,Nat.le_refl _⟩,?_⟩
   rw [List.take_length];exact q D hD
 · rintro i ys H hi ⟨_,rfl,rfl⟩
   refine ⟨⟨xs,xs[i],(same_new hD).seq hS,by simp [hi]⟩,fun x H3 ⟨e3,ex⟩=>?_⟩
   subst e3
   have hc':=ex xs ((same_new hD).seq hS)
   refine he b x _ _ (List.mem_of_getElem? hc') (same_new hD) (compNext upd_same (by rw [List.length_map,List.length_take];omega) hi ⟨hi,?_,?_⟩)
   · rw [List.take_add_one,hc'];simp
   · funext a;by_cases ha:a=D <;> simp [upd,ha]
end
section
variable {σ:St} {H:Hp} {Q:VK} {D:Ends} {K:PySem.W.Frag}
theorem rd_comp{wi:TI}{fs:List Nat}{te:Blk→TE}:tComp1 wi fs te σ H Q=wi σ H (CompTail (none::fs.map fun j=>σ.getD j none) (fun _=>gName 0) (fun _=>tYes) te Q):=rfl
theorem rd_istr{tl:TE}{R:It→Hp→Prop}:iStr tl σ H R=tl σ H fun x H1=>∃z,x= .str z∧R (Its z) H1:=rfl
theorem rd_sl{r:V→Option Int→Option Int→Hp→VK→Prop}{te:TE}{tl th:TO}:tSl r te tl th σ H Q=te σ H fun x H1=>tl σ H1 fun l H2=>th σ H2 fun u H3=>r x l u H3 Q:=rfl
theorem rd_noPart{QO:Option Int→Hp→Prop}:tNoPart σ H QO=QO none H:=rfl
theorem rd_part{t:TE}{QO:Option Int→Hp→Prop}:tPart t σ H QO=t σ H fun x H1=>∃i,x= .int i∧QO (some i) H1:=rfl
theorem rd_slS{x:V}{lo hi:Option Int}:rSlS x lo hi H Q=∃z,x= .str z∧z.length≤sizeLine∧Q (.str (Txt.slice z lo hi)) H:=rfl
theorem rd_slL{x:V}{lo hi:Option Int}:rSlL K x lo hi H Q=∃a xs,x= .ref a∧SqL K H a xs∧∀p,H p=none→Q (.ref p) (upd H p (.lst (cutV xs lo hi))):=rfl
theorem rd_bm{T:String}{r:V→List V→Hp→VK→Prop}{to:TE}{t:TA}:tBM K T r to t σ H Q=to σ H fun x H1=>tyV K T x H1∧t σ H1 fun xs H2=>r x xs H2 Q:=rfl
theorem rd_bm0{T:String}{r:V→List V→Hp→VK→Prop}{to:TE}:tBM0 K T r to σ H Q=to σ H fun x H1=>tyV K T x H1∧r x [] H1 Q:=rfl
theorem tyV_str{z:Str}:tyV K "str" (.str z) H=True:=eq_true rfl
theorem rd_join{x:V}{vs:List V}:rJoin K x vs H Q=∃z p ys,x= .str z∧vs=[.ref p]∧SqL K H p (ys.map V.str)∧(ys.map (·.length)).sum+ys.length * z.length≤16777216∧Q (.str (Txt.join z ys)) H:=rfl
theorem rd_find{x:V}{vs:List V}:rFind x vs H Q=∃z y,x= .str z∧vs=[.str y]∧Q (.int (Txt.find z y)) H:=rfl
theorem rd_split{x:V}{vs:List V}:rSplit x vs H Q=∃z y,x= .str z∧vs=[.str y]∧(y.length==0)=false∧z.length+2≤sizeLine∧∀p,H p=none→Q (.ref p) (upd H p (.lst ((Txt.split z y).map V.str))):=rfl
theorem rd_all{xs:List V}:rAll K xs H Q=∃(p:Addr) (bs:List Bool),xs=[.ref p]∧SqL K H p (bs.map V.bl)∧Q (.bl (bs.all id)) H:=rfl
theorem rd_mulS{x y:V}:rMulS x y H Q=∃z n,x= .str z∧y= .int n∧MulOk z n∧Q (.str (Txt.mul z n)) H:=rfl
theorem rd_jnil{acc:Str}{QS:Str→Hp→Prop}:jNil acc σ H QS=QS acc H:=rfl
theorem rd_jcons{te:TE}{tr:TJ}{acc:Str}{QS:Str→Hp→Prop}:jCons te tr acc σ H QS=te σ H fun x H1=>∃y,x= .str y∧(acc++y).length≤sizeLine∧tr (acc++y) σ H1 QS:=rfl
theorem rd_fstr{t:TJ}:tFstr t σ H Q=t Str.empty σ H fun out H1=>out.length≤sizeLine∧Q (.str out) H1:=rfl
theorem rd_fmtR{te:TE}:tFmtR te σ H Q=te σ H fun x H1=>∃z,x= .str z∧(PySem.reprText z).length≤sizeLine∧Q (.str (PySem.reprText z)) H1:=rfl
theorem rd_fmt{te:TE}:tFmt te σ H Q=te σ H fun x H1=>(∃z,x= .str z∧z.length≤sizeLine∧Q (.str z) H1)∨∃i,x= .int i∧i.natAbs.log2 < 1920∧Q (.str (toString i)) H1:=rfl
theorem rd_dnewK:tDNewK σ H Q=∀p,H p=none→Q (.ref p) (upd H p (.dK [])):=rfl
theorem ixS_of{z:Str}{i:Int}{c:Nat}(hz:z.length≤sizeLine)(e:atI z.cps.toList i=some c)(q:Q (.str ⟨#[c]⟩) H):rIxS (.str z) (.int i) H Q:=⟨z,i,c,rfl,rfl,hz,e,q⟩
theorem blk_K{X:Cx}{scope:Scope}{N':List Str}{b:Blk}:(X.blk scope N' b).K=X.K:=rfl
end
section
variable {X:Cx} {x:Str} {pos:Pos}
theorem pe_gint{i:Int}(hg:Gl X x)(hm:∃t,X.mg x=some (.int i t))(hd:(x==("__debug__":Str))=false:=by decide):PE X (.Name x pos) (tC (.int i)):=by
 obtain ⟨t,hm⟩:=hm
 exact pe_glob hg hm ⟨t,rfl⟩ hd
theorem pe_gstr{z:Str}(hg:Gl X x)(hm:∃t,X.mg x=some (.str z t))(hd:(x==("__debug__":Str))=false:=by decide):PE X (.Name x pos) (tC (.str z)):=by
 obtain ⟨t,hm⟩:=hm
 exact pe_glob hg hm ⟨t,rfl⟩ hd
end
theorem line_val:sizeLine=16777216:=by decide
theorem len_app{a b:Str}:(a++b).length=a.length+b.length:=strLen_append a b
theorem len_one{c:Nat}:(⟨#[c]⟩:Str).length=1:=rfl
theorem str_len{z:Str}:z.cps.toList.length=z.length:=by simp [Str.length]
theorem app_list{a b:Str}:(a++b).cps.toList=a.cps.toList++b.cps.toList:=by
 show (a.cps++b.cps).toList=_
 simp
theorem script_go{K:PySem.W.Frag}{H:Hp}{a:Addr}{ns:List Int}{R:List Int→Prop}(h:SqL K H a (ns.map V.int))(hl:ns.length≤63)(q:R ns):∃x:List Int,SqL K H a (x.map V.int)∧x.length≤63∧R x:=⟨ns,h,hl,q⟩
noncomputable def hasS(z y:Str):Bool:=!(Builtin.Str.occurrences z y 0 z.length 1).isEmpty
theorem hasS_one{z:Str}{c:Nat}:hasS z ⟨#[c]⟩=decide (c∈z.cps.toList):=StrLaws.found_one z c
noncomputable def rInS:R2:=fun x y H Q=>∃i j,x= .str i∧y= .str j∧Q (.bl (hasS j i)) H
noncomputable def rNotInS:R2:=fun x y H Q=>∃i j,x= .str i∧y= .str j∧Q (.bl (!hasS j i)) H
theorem op_inS{X:Cx}:OpR X (compareOp .In) rInS:=op_in_str
theorem rd_inS{x y:V}{H:Hp}{Q:VK}:rInS x y H Q=∃i j,x= .str i∧y= .str j∧Q (.bl (hasS j i)) H:=rfl
theorem rd_notinS{x y:V}{H:Hp}{Q:VK}:rNotInS x y H Q=∃i j,x= .str i∧y= .str j∧Q (.bl (!hasS j i)) H:=rfl
theorem at_0{α:Type}{c:α}{r:List α}:atI (c::r) 0=some c:=atI_of (by decide) rfl
end L2
namespace L2
noncomputable def flatEq(xs ys:List V):Bool:=match xs,ys with
 | [],[]=>true
 | x::xs,y::ys=>eqV x y && flatEq xs ys
 | _,_=>false
theorem flatEq_len:∀{xs ys:List V},xs.length≠ys.length→flatEq xs ys=false
 | [],[],h=>absurd rfl h
 | [],_::_,_=>rfl
 | _::_,[],_=>rfl
 | x::xs,y::ys,h=>by
  unfold flatEq
  rw [flatEq_len (fun e=>h (by simp [e])),Bool.and_false]
theorem flatEq_all:∀{xs ys:List V},xs.length=ys.length→flatEq xs ys=(List.range xs.length).all fun i=>eqV (xs.getD i .non) (ys.getD i .non)
 | [],[],_=>rfl
 | [],_::_,h=>by cases h
 | _::_,[],h=>by cases h
 | x::xs,y::ys,h=>by
  unfold flatEq
  rw [flatEq_all (by simpa using h),List.length_cons,List.range_succ_eq_map,List.all_cons,List.all_map]
  rfl
theorem eqV_str{x y:Str}:eqV (.str x) (.str y)=decide (x=y):=rfl
theorem flatEq_strs:∀{xs ys:List Str},flatEq (xs.map V.str) (ys.map V.str)=decide (xs=ys)
 | [],[]=>rfl
 | [],_::_=>rfl
 | _::_,[]=>rfl
 | x::xs,y::ys=>by
  show (eqV (.str x) (.str y) && flatEq (xs.map V.str) (ys.map V.str))=_
  rw [flatEq_strs,eqV_str]
  by_cases h:x=y
  · subst h;simp
  · simp [h]
noncomputable def EqQ(K:PySem.W.Frag)(H:Hp)(x y:V)(r:Bool):Prop:=∃a b xs ys,x= .ref a∧y= .ref b∧((SqL K H a xs∧SqL K H b ys)∨(SqT K H a xs∧SqT K H b ys))∧xs.all flatV=true∧ys.all flatV=true∧r=flatEq xs ys
section
variable {X:Cx} {pins:List (Addr×Obj)} {σ:St} {H:Hp} {s:Shared}
theorem flat_items{xs ys:List V}{us ws:List Value}{A:Around}(rx:Vals xs us)(ry:Vals ys ws)(fx:xs.all flatV=true)(fy:ys.all flatV=true):
 ∀j (h1:j < us.toArray.size) (h2:j < ws.toArray.size),SeqAt.EqAt A s us.toArray[j] ws.toArray[j] (eqV (xs.getD j .non) (ys.getD j .non)):=by
 intro j h1 h2
 have lx:=rx.length
 have ly:=ry.length
 rw [List.size_toArray]at h1 h2
 have hx:j < xs.length:=by omega
 have hy:j < ys.length:=by omega
 obtain ⟨u,hu,ru⟩:=rx.get (i:=j) (x:=xs[j]) (by simp [hx])
 obtain ⟨w,hw,rw'⟩:=ry.get (i:=j) (x:=ys[j]) (by simp [hy])
 have eu:us.toArray[j]=u:=by
  have:=List.getElem?_eq_getElem h1
  rw [this]at hu
  simpa using hu
 have ew:ws.toArray[j]=w:=by
  have:=List.getElem?_eq_getElem h2
  rw [this]at hw
  simpa using hw
 rw [eu,ew,List.getD_eq_getElem?_getD,List.getD_eq_getElem?_getD,List.getElem?_eq_getElem hx,List.getElem?_eq_getElem hy]
 exact eqAt_V ru rw' (List.all_eq_true.mp fx _ (List.getElem_mem hx)) (List.all_eq_true.mp fy _ (List.getElem_mem hy))
theorem eqQ_ne{x y:V}{u v:Value}{r:Bool}{A:Around}(I:Inv X pins σ H s)(rx:RelV x u)(ry:RelV y v)(h:EqQ X.K H x y r)(hu:A.units < cLine):SeqAt.RcNeAt A s u v (!r):=by
 obtain ⟨a,b,xs,ys,rfl,rfl,hq,fx,fy,rfl⟩:=h
 cases rx
 cases ry
 rcases hq with ⟨h1,h2⟩ | ⟨h1,h2⟩
 · obtain ⟨us,r1,p1,z1⟩:=I.list h1
   obtain ⟨ws,r2,p2,z2⟩:=I.list h2
   have lx:=r1.length
   have ly:=r2.length
   by_cases hl:xs.length=ys.length
   · rw [flatEq_all hl]
     have:=SeqAt.RcNeAt.lists p1.isList p2.isList (by simp;omega) hu (flat_items r1 r2 fx fy)
     rw [List.size_toArray,← lx]at this
     exact this
   · rw [flatEq_len hl]
     exact SeqAt.RcNeAt.lists_lengths p1.isList p2.isList (by simp;omega) hu
 · obtain ⟨us,r1,p1,z1⟩:=I.tuple h1
   obtain ⟨ws,r2,p2,z2⟩:=I.tuple h2
   have lx:=r1.length
   have ly:=r2.length
   have:=SeqAt.RcNeAt.tuples (show s.heap.IsTuple a us.toArray from p1) (show s.heap.IsTuple b ws.toArray from p2) hu (flat_items r1 r2 fx fy)
   rw [List.size_toArray,List.size_toArray,← lx,← ly]at this
   by_cases hl:xs.length=ys.length
   · rw [flatEq_all hl]
     rw [hl,Nat.min_self,beq_self_eq_true,Bool.and_true]at this
     rw [hl];exact this
   · rw [flatEq_len hl]
     rw [beq_eq_false_iff_ne.mpr hl,Bool.and_false]at this
     exact this
noncomputable def rEqQ(K:PySem.W.Frag):R2:=fun x y H Q=>∃r,EqQ K H x y r∧Q (.bl r) H
noncomputable def rNeQ(K:PySem.W.Frag):R2:=fun x y H Q=>∃r,EqQ K H x y r∧Q (.bl (!r)) H
theorem op_neQ{k:Nat}(hr:Room k X.A):OpR X (compareOp .NotEq) (rNeQ X.K):=by
 intro pins s σ H x y v u Q I rx ry h
 obtain ⟨r,e,q⟩:=h
 exact eqQ_ne I rx ry e (Nat.lt_of_le_of_lt (by omega) hr.un) X.prog X.w X.xe _ ⟨.bl (!r),H,I,rfl,q⟩
end
section
variable {K:PySem.W.Frag} {H:Hp} {Q:VK} {x y:V}
theorem rd_eqQ:rEqQ K x y H Q=∃r,EqQ K H x y r∧Q (.bl r) H:=rfl
theorem rd_neQ:rNeQ K x y H Q=∃r,EqQ K H x y r∧Q (.bl (!r)) H:=rfl
theorem all_strs{xs:List Str}:(xs.map V.str).all flatV=true:=by
 rw [List.all_map]
 exact List.all_eq_true.mpr fun _ _=>rfl
theorem eqQ_strs{a b:Addr}{xs ys:List Str}(h1:SqL K H a (xs.map V.str))(h2:SqL K H b (ys.map V.str)):EqQ K H (.ref a) (.ref b) (decide (xs=ys)):=⟨a,b,_,_,rfl,rfl,.inl ⟨h1,h2⟩,all_strs,all_strs,flatEq_strs.symm⟩
end
end L2
namespace L2
structure DefM(P:Program)(w:World)(K:PySem.W.Frag)(mg:Str→Option Value)(base:Heap)(CX:CXT)(k:Nat)(C:Addr)(m:Str)(ps:List Str)(sp:Sp):Prop where
 ex:∃(f:Addr) (fd:FuncData),FnOk P w K mg base CX k f fd ps sp∧Meth K C m f∧Binds K fd ps []
structure DefI(P:Program)(w:World)(K:PySem.W.Frag)(mg:Str→Option Value)(base:Heap)(CX:CXT)(k:Nat)(x:Str)(C:Addr)(ps:List Str)(sp:Sp):Prop where
 ex:∃(f:Addr) (fd:FuncData),FnOk P w K mg base CX k f fd ps sp∧Mk K C f∧mg x=some (.ref C)∧Binds K fd ps []
noncomputable def tMethE(C:Addr)(m:Str)(sp:Sp)(EE:St→XK)(ta:TE)(t:TA):TE:=fun σ H Q=>ta σ H fun x H1=>∃a dx fs,x= .ref a∧H1 a=some (.ins C dx fs)∧fs.lookup m=none∧t σ H1 fun vs H2=>sp (x::vs) H2 Q (EE σ)
noncomputable def tMakeE(C:Addr)(sp:Sp)(EE:St→XK)(t:TA):TE:=fun σ H Q=>t σ H fun vs H1=>∀x dx,H1 x=none→H1 dx=none→dx≠x→sp (.ref x::vs) (upd (upd H1 dx (.own x)) x (.ins C dx [])) (fun v H2=>v= .non∧Q (.ref x) H2) (EE σ)
section
variable {X:Cx} {CX:CXT} {k j:Nat} {f C:Addr} {fd:FuncData} {ps:List Str} {sp:Sp} {EE:St→XK} {E:XK} {x m:Str} {p pos apos:Pos} {e o:Expr} {es:List Expr} {ta:TE} {t:TA}
theorem passS(h:Passes CX X E):PassesS CX X fun _=>E:=fun pins σ H s e s' I hc=>h pins σ H s e s' I hc
theorem run_fnS{pins:List (Addr×Obj)}{σ:St}{H:Hp}{s:Shared}{Q:VK}{us:List Value}{vs:List V}(F:FnOk X.prog X.w X.K X.mg X.base CX k f fd ps sp)(hr:Room k X.A)(hb:Binds X.K fd ps [])(hx:PassesS CX X EE)
 (I:Inv X pins σ H s) (r:Vals vs us) (h:sp vs H Q (EE σ)):wpAny (model X.prog X.w) X.A (call (.ref f) us) (EP X pins σ Q) X.xe s:=by
 have hl:us.length=ps.length:=by rw [← r.length];exact F.len _ _ _ _ h
 have hb':=hb s us I.kIn (by simpa using hl)
 rw [List.append_nil]at hb'
 refine wpAny_call (codeAny_mono (F.run X.A X.stack s H ⟨us,[]⟩ us vs Q (EE σ) hr I.env0 hb' r h) fun r s' hq=>?_)
 cases r with
 | error e=>exact hx pins σ H s e s' I hq
 | ok fl=>
  cases fl with
  | ret u=>exact I.after hq
  | next=>exact False.elim hq
  | brk=>exact False.elim hq
  | cont=>exact False.elim hq
theorem pe_methS{pl:Sem Bool}(D:DefM X.prog X.w X.K X.mg X.base CX j C m ps sp)(c:Cls X.K C)(hr:Room k X.A)(hx:PassesS CX X EE)(he:PE X o ta)(ha:PA X (e::es) t)(hj:j≤k:=by decide)
 (hst:starEach (e::es) X.env=(false,eval e X.env)::starEach es X.env:=by rfl) (hpl:(backTo pos (starEach es X.env)).any (·.1)=false:=by rfl)
 (ht:eval (.Call (.Attribute o m apos) (e::es) [] pos) X.env=(do
  let ov ← eval o X.env
  standAt apos.atName
  let (f,first) ← holding [ov] (getMethod ov m pl)
  callWith pos f first (backTo pos (starEach (e::es) X.env)) (backToKw pos (keywordEach [] X.env))):=by rfl):
 PE X (.Call (.Attribute o m apos) (e::es) [] pos) (tMethE C m sp EE ta t):=by
 obtain ⟨f,fd,F,hm,hb⟩:=D.ex
 intro pins s σ H Q I h
 refine PySem.W.methodCall_KW (pl:=pl) (thn (he pins s σ H _ I h) fun u s1 hq_=>?_) ht
 obtain ⟨x,H1,I1,rx,a,dx,fs,ex,ea,l,q⟩:=hq_
 subst ex
 obtain rfl:u=Value.ref a:=rx
 refine getmeth_ok I1 ea c hm l ?_
 refine PySem.W.callWith_K (first:=[.ref a]) (h₀:=X.base) I.ok.mod.kin hm.kp (thn (ha pos pins s1 σ H1 _ I1 q) fun us s2 ⟨vs,H2,I2,r,q2⟩=>⟨I2.kIn,?_⟩) hst hpl
 exact run_fnS (us:= .ref a::us) (vs:= .ref a::vs) (F.mono hj) hr hb hx I2 (.cons rfl r) q2
theorem pe_methS0{pl:Sem Bool}(D:DefM X.prog X.w X.K X.mg X.base CX j C m ps sp)(c:Cls X.K C)(hr:Room k X.A)(hx:PassesS CX X EE)(he:PE X o ta)(hj:j≤k:=by decide)
 (ht:eval (.Call (.Attribute o m apos) [] [] pos) X.env=(do
  let ov ← eval o X.env
  standAt apos.atName
  let (f,first) ← holding [ov] (getMethod ov m pl)
  callWith pos f first (backTo pos (starEach [] X.env)) (backToKw pos (keywordEach [] X.env))):=by rfl):
 PE X (.Call (.Attribute o m apos) [] [] pos) (tMethE C m sp EE ta tNil):=by
 obtain ⟨f,fd,F,hm,hb⟩:=D.ex
 intro pins s σ H Q I h
 refine PySem.W.methodCall_KW (pl:=pl) (thn (he pins s σ H _ I h) fun u s1 hq_=>?_) ht
 obtain ⟨x,H1,I1,rx,a,dx,fs,ex,ea,l,q⟩:=hq_
 subst ex
 obtain rfl:u=Value.ref a:=rx
 refine getmeth_ok I1 ea c hm l ?_
 exact PySem.W.callWith_K0 (first:=[.ref a]) I1.kIn hm.kp (run_fnS (us:=[.ref a]) (vs:=[.ref a]) (F.mono hj) hr hb hx I1 (.cons rfl .nil) q)
theorem pe_makeS(D:DefI X.prog X.w X.K X.mg X.base CX j x C ps sp)(hr:Room k X.A)(hg:Gl X x)(hx:PassesS CX X EE)(ha:PA X (e::es) t)(hj:j+1≤k:=by decide)(hdb:(x==("__debug__":Str))=false:=by decide)
 (he:starEach (e::es) X.env=(false,eval e X.env)::starEach es X.env:=by rfl) (hpl:(backTo pos (starEach es X.env)).any (·.1)=false:=by rfl):
 PE X (.Call (.Name x p) (e::es) [] pos) (tMakeE C sp EE t):=by
 obtain ⟨f,fd,F,M,hm,hb⟩:=D.ex
 intro pins s0 σ H0 Q I0 h
 refine wpAny_Call_Name_kw (ld_glob I0 hg hm ?_ hdb)
 refine PySem.W.callWith_K (h₀:=X.base) I0.ok.mod.kin M.kp (thn (ha pos pins s0 σ H0 _ I0 h) fun us s ⟨vs,H,I,r,q⟩=>⟨I.kIn,?_⟩) he hpl
 have hq:=q (s.heap.objs.size+1) s.heap.objs.size (I.hok.fresh (Nat.le_succ _)) (I.hok.fresh (Nat.le_refl _)) (Nat.ne_of_lt (Nat.lt_succ_self _))
 have I2:=Inv.made (C:=C) I
 have r2:Vals (V.ref (s.heap.objs.size+1)::vs) (Value.ref (s.heap.objs.size+1)::us):= .cons rfl r
 have hl:(Value.ref (s.heap.objs.size+1)::us).length=ps.length:=by
  rw [← r2.length];exact F.len _ _ _ _ hq
 have hb':=fun s' (h':X.K.In s'.heap)=>hb s' (Value.ref (s.heap.objs.size+1)::us) h' (by simpa using hl)
 have hr':Room (j+1) X.A:=hr.mono hj
 refine wpAny_call (make_map (f:=f) I.kIn M.makes M.init (beq_iff_eq.mp M.fn) (codeAny_mono (F.run _ X.stack _ _ ⟨Value.ref (s.heap.objs.size+1)::us,[]⟩ (Value.ref (s.heap.objs.size+1)::us) _ _ (EE σ) (hr'.make C us [])
  (I2.env0.make C us []) (by have:=hb' _ I2.kIn;rw [List.append_nil]at this;exact this) r2 hq) fun r s' hq'=>?_))
 cases r with
 | error e=>exact hx pins σ _ _ e s' I2 hq'
 | ok fl=>
  cases fl with
  | ret u=>
   obtain ⟨v,H',I3,rv,ev,q3⟩:=I2.after hq'
   subst ev
   exact ⟨rv,⟨V.ref (s.heap.objs.size+1),H',I3,rfl,q3⟩⟩
  | next=>exact False.elim hq'
  | brk=>exact False.elim hq'
  | cont=>exact False.elim hq'
end
section
variable {σ:St} {H:Hp} {Q:VK} {D:Ends} {K:PySem.W.Frag}
theorem rd_methE{C:Addr}{m:Str}{sp:Sp}{EE:St→XK}{ta:TE}{t:TA}:tMethE C m sp EE ta t σ H Q=ta σ H fun x H1=>∃a dx fs,x= .ref a∧H1 a=some (.ins C dx fs)∧fs.lookup m=none∧t σ H1 fun vs H2=>sp (x::vs) H2 Q (EE σ):=rfl
theorem rd_makeE{C:Addr}{sp:Sp}{EE:St→XK}{t:TA}:tMakeE C sp EE t σ H Q=t σ H fun vs H1=>∀x dx,H1 x=none→H1 dx=none→dx≠x→sp (.ref x::vs) (upd (upd H1 dx (.own x)) x (.ins C dx [])) (fun v H2=>v= .non∧Q (.ref x) H2) (EE σ):=rfl
theorem rd_fld{ta:TE}{f:Str}:tFld K ta f σ H Q=ta σ H fun x H1=>∃a C dx fs v,x= .ref a∧H1 a=some (.ins C dx fs)∧Cls K C∧NoAttr K C f∧fs.lookup f=some v∧Q v H1:=rfl
theorem rd_sfld{ta tv:TE}{f:Str}:sFld K ta tv f D σ H=tv σ H fun y H1=>ta σ H1 fun x H2=>∃a C dx fs,x= .ref a∧H2 a=some (.ins C dx fs)∧Cls K C∧NoAttr K C f∧fs.length < 1000∧D.nx σ (upd H2 a (.ins C dx (putF f y fs))):=rfl
theorem rd_din{ty td:TE}:tDIn ty td σ H Q=ty σ H fun y H1=>td σ H1 fun x H2=>∃a o,x= .ref a∧DGet H2 a y o∧Q (.bl o.isSome) H2:=rfl
theorem rd_dnotin{ty td:TE}:tDNotIn ty td σ H Q=ty σ H fun y H1=>td σ H1 fun x H2=>∃a o,x= .ref a∧DGet H2 a y o∧Q (.bl (!o.isSome)) H2:=rfl
theorem rd_dget{td ty:TE}:tDGet td ty σ H Q=td σ H fun x H1=>ty σ H1 fun y H2=>∃a v,x= .ref a∧DGet H2 a y (some v)∧Q v H2:=rfl
theorem rd_dput{td ty tv:TE}:sDPut td ty tv D σ H=tv σ H fun v H1=>td σ H1 fun x H2=>ty σ H2 fun y H3=>∃a H4,x= .ref a∧DPut H3 a y v H4∧D.nx σ H4:=rfl
theorem rd_gtup{n:Nat}{t:TGs}{v:V}{N:St→Hp→Prop}:gTup K n t v σ H N=∃a xs,v= .ref a∧SqT K H a xs∧xs.length=n∧t xs σ H N:=rfl
end
theorem le_app{a b:Str}{n:Nat}(h1:a.length≤n / 2)(h2:b.length≤n / 2):(a++b).length≤n:=by
 rw [len_app];omega
end L2
namespace N1
open PySem L2
noncomputable def letters:List Nat:=List.range' 97 26
noncomputable def figures:List Nat:=List.range' 48 10
theorem let_list:(Str.ofString "abcdefghijklmnopqrstuvwxyz").cps.toList=letters:=by decide+kernel
theorem fig_list:(Str.ofString "0123456789").cps.toList=figures:=by decide+kernel
theorem both_list:(Str.ofString "abcdefghijklmnopqrstuvwxyz0123456789").cps.toList=letters++figures:=by decide+kernel
theorem both_len:(letters++figures).length=36:=by decide
noncomputable def headIn(l:List Nat)(s:List Nat):Bool:=match l with
 | []=>false
 | c::_=>decide (c∈s)
noncomputable def nameB(l:List Nat):Bool:=decide (1≤l.length) && decide (l.length≤8) && headIn l letters && l.all fun c=>decide (c∈letters++figures)
end N1
namespace N1
open PySem L2
noncomputable def tx(l:List Nat):Str:=⟨l.toArray⟩
theorem T_list{l:List Nat}:(tx l).cps.toList=l:=by simp [tx]
theorem T_eq{z:Str}:tx z.cps.toList=z:=by cases z;simp [tx]
theorem T_inj{a b:List Nat}(h:tx a=tx b):a=b:=by rw [← T_list (l:=a),h,T_list]
theorem T_app{a b:List Nat}:tx a++tx b=tx (a++b):=by
 have h:=app_list (a:=tx a) (b:=tx b)
 rw [T_list,T_list]at h
 rw [← T_eq (z:=tx a++tx b),h]
theorem T_len{l:List Nat}:(tx l).length=l.length:=by rw [← str_len,T_list]
theorem T_one{c:Nat}:(⟨#[c]⟩:Str)=tx [c]:=rfl
theorem both_length:(Str.ofString "abcdefghijklmnopqrstuvwxyz0123456789").length=36:=by decide+kernel
noncomputable def bc(i:Int):Nat:=(letters++figures).getD i.toNat 0
theorem ix_bc(i:Int){k:Int}(h0:0 < k)(h1:k≤36):atI (Str.ofString "abcdefghijklmnopqrstuvwxyz0123456789").cps.toList (i % k)=some (bc (i % k)):=by
 have h2:=Int.emod_lt_of_pos i h0
 have h3:=Int.emod_nonneg i (show k≠0 by omega)
 refine atI_of h3 ?_
 have h4:(i % k).toNat < (letters++figures).length:=by rw [both_len];omega
 unfold bc
 rw [both_list,List.getD_eq_getElem?_getD,List.getElem?_eq_getElem h4]
 rfl
end N1
namespace N1
open L2
noncomputable def sp_cell(K:PySem.W.Frag):Sp:=fun vs H Q _=>∃(a:Addr) (ns:List Int) (k:Int),vs=[.ref a,.int k]∧SqL K H a (ns.map V.int)∧0≤k∧ns.length≤63∧Q (.int (ns.getD k.toNat 0)) H
noncomputable def sp_made:Sp:=fun vs H Q _=>∃(z w:Str),vs=[.str z,.str w]∧z.length≤sizeLine∧∀H',Same H H'→Q (.bl (z.cps.toList.all fun c=>decide (c∈w.cps.toList))) H'
noncomputable def sp_is_name(K:PySem.W.Frag):Sp:=fun vs H Q _=>∃(x:V),vs=[x]∧((∃z:Str,x= .str z∧z.length≤sizeLine∧∀H',Same H H'→Q (.bl (nameB z.cps.toList)) H')∨(Isi K H x "str" false∧Q (.bl false) H))
end N1
namespace N1
open L2
inductive StE where
 | noname | twice | nonum | many
noncomputable def nOk:V→Bool
 | .str z=>nameB z.cps.toList
 | _=>false
noncomputable def sOf:V→Str
 | .str z=>z
 | _=>Str.empty
noncomputable def wIn(lo hi:Int):V→Bool
 | .int i=>decide (lo≤i) && decide (i≤hi)
 | _=>false
noncomputable abbrev Rw:=Addr×V×V×V
noncomputable def rowR(ks:List Str)(n c r:V):Option StE:=if nOk n=false then some .noname else if sOf n∈ks then some .twice else if wIn 0 (10 ^ 30) c=false then some .nonum else if wIn 1 1000 r=false then some .nonum else none
noncomputable def stockR(ks:List Str):List Rw→Option StE
 | []=>none
 | t::rs=>match rowR ks t.2.1 t.2.2.1 t.2.2.2 with
  | some e=>some e
  | none=>stockR (ks++[sOf t.2.1]) rs
noncomputable def initR(rs:List Rw):Option StE:=if 60 < rs.length then some .many else stockR [] rs
theorem num_isi{K:PySem.W.Frag}{H:Hp}{v:V}(h:flatV v=true):∃b c,Isi K H v "int" b∧(b=true→Isi K H v "bool" c)∧((b && !c)=true→∃i,v= .int i)∧((b && !c)=false→∀i,v≠ .int i):=by
 cases v with
 | non=>exact ⟨false,false,isi_ni,fun h=>by (cases h),fun h=>by (cases h),fun _ i h=>by cases h⟩
 | bl b=>exact ⟨true,true,isi_bi,fun _=>isi_bb,fun h=>by (cases h),fun _ i h=>by cases h⟩
 | int i=>exact ⟨true,false,isi_ii,fun _=>isi_ib,fun _=>⟨i,rfl⟩,fun h=>by cases h⟩
 | str z=>exact ⟨false,false,isi_si,fun h=>by (cases h),fun h=>by (cases h),fun _ i h=>by cases h⟩
 | _=>cases h
noncomputable def sp_is_whole(K:PySem.W.Frag):Sp:=fun vs H Q _=>∃(x:V) (b c:Bool),vs=[x]∧Isi K H x "int" b∧(b=true→Isi K H x "bool" c)∧Q (.bl (b && !c)) H
noncomputable def sp_within(K:PySem.W.Frag):Sp:=fun vs H Q _=>∃(v:V) (lo hi:Int),vs=[v,.int lo,.int hi]∧flatV v=true∧Q (.bl (wIn lo hi v)) H
noncomputable def SameBut(p:Addr)(H H':Hp):Prop:=∀b o,H b=some o→b≠p→H' b=some o
theorem SameBut.trans{p:Addr}{H H1 H2:Hp}(h1:SameBut p H H1)(h2:SameBut p H1 H2):SameBut p H H2:=fun b o e n=>h2 b o (h1 b o e n) n
theorem SameBut.of{p:Addr}{H H1:Hp}(h:Same H H1):SameBut p H H1:=fun b o e _=>h b o e
theorem sameBut_upd{p:Addr}{H:Hp}{o:HO}:SameBut p H (upd H p o):=fun b u e n=>by rw [upd_ne n];exact e
noncomputable abbrev Th:=Str×Int×Int
noncomputable def flds(d:Addr):List (Str×V):=putF "things" (.ref d) []
structure StockAt(K:PySem.W.Frag)(C:Addr)(H:Hp)(p:Addr)(ts:List Th):Prop where
 ex:∃(dx d:Addr) (kvs:List (Key×V)),H p=some (.ins C dx (flds d))∧H d=some (.dK kvs)∧kvs.map (·.1)=ts.map (fun t=>Sum.inr t.1)∧
  ∀(i:Nat) (t:Th),ts[i]?=some t→∃a,kvs[i]?=some (Sum.inr t.1,.ref a)∧SqT K H a [.int i,.int t.2.1,.int t.2.2]
theorem StockAt.same{K:PySem.W.Frag}{C:Addr}{H H':Hp}{p:Addr}{ts:List Th}(s:Same H H')(h:StockAt K C H p ts):StockAt K C H' p ts:=by
 obtain ⟨dx,d,kvs,h1,h2,h3,h4⟩:=h.ex
 refine ⟨dx,d,kvs,s _ _ h1,s _ _ h2,h3,fun i t e=>?_⟩
 obtain ⟨a,e1,e2⟩:=h4 i t e
 exact ⟨a,e1,s.tup e2⟩
noncomputable def iOf:V→Int
 | .int i=>i
 | _=>0
noncomputable def thOf(t:Rw):Th:=(sOf t.2.1,iOf t.2.2.1,iOf t.2.2.2)
theorem SqT.but{K:PySem.W.Frag}{H H':Hp}{p a C dx:Addr}{fs:List (Str×V)}{xs:List V}(s:SameBut p H H')(hp:H p=some (.ins C dx fs))(h:SqT K H a xs):SqT K H' a xs:=by
 rcases h with (h | ⟨o,h⟩) | h
 · exact .inl (.inl (s _ _ h (ne_of h hp (by intro z;cases z))))
 · exact .inl (.inr ⟨o,s _ _ h (ne_of h hp (by intro z;cases z))⟩)
 · exact .inr h
theorem SqL.but{K:PySem.W.Frag}{H H':Hp}{p a C dx:Addr}{fs:List (Str×V)}{xs:List V}(s:SameBut p H H')(hp:H p=some (.ins C dx fs))(h:SqL K H a xs):SqL K H' a xs:=by
 rcases h with (h | ⟨o,h⟩) | h
 · exact .inl (.inl (s _ _ h (ne_of h hp (by intro z;cases z))))
 · exact .inl (.inr ⟨o,s _ _ h (ne_of h hp (by intro z;cases z))⟩)
 · exact .inr h
theorem key_mem{kvs:List (Key×V)}{ks:List Str}{z:Str}(h:kvs.map (·.1)=ks.map Sum.inr):(valV kvs (Sum.inr z)).isSome=decide (z∈ks):=by
 have e:(Sum.inr z:Key)∈kvs.map (·.1)↔z∈ks:=by
  rw [h,List.mem_map]
  constructor
  · rintro ⟨a,ha,e⟩;injection e with e;subst e;exact ha
  · intro h;exact ⟨z,h,rfl⟩
 cases hv:valV kvs (Sum.inr z:Key) with
 | none=>rw [decide_eq_false fun q=>valV_not hv (e.mpr q)];rfl
 | some v=>rw [decide_eq_true (e.mp (valV_in hv))];rfl
theorem flds_things{d:Addr}:(flds d).lookup ("things":Str)=some (V.ref d):=by
 unfold flds
 rw [lookup_putF,if_pos rfl]
theorem rowR_none{ks:List Str}{n co r:V}(h:rowR ks n co r=none):∃z c q,n= .str z∧co= .int c∧r= .int q∧¬z∈ks∧nameB z.cps.toList=true∧0≤c∧c≤10 ^ 30∧1≤q∧q≤1000:=by
 unfold rowR at h
 split at h
 · cases h
 rename_i h1
 split at h
 · cases h
 rename_i h2
 split at h
 · cases h
 rename_i h3
 split at h
 · cases h
 rename_i h4
 cases n with
 | str z=>
  cases co with
  | int c=>
   cases r with
   | int q=>
    simp only [wIn,Bool.and_eq_false_iff,decide_eq_false_iff_not,not_or,Decidable.not_not]at h3 h4
    exact ⟨z,c,q,rfl,rfl,rfl,h2,by simpa [nOk] using h1,h3.1,h3.2,h4.1,h4.2⟩
   | _=>exact absurd rfl h4
  | _=>exact absurd rfl h3
 | _=>exact absurd rfl h1
theorem stockR_step{ks:List Str}{rs:List Rw}{i:Nat}{t:Rw}(h:rs[i]?=some t):stockR ks (rs.drop i)=match rowR ks t.2.1 t.2.2.1 t.2.2.2 with
 | some e=>some e
 | none=>stockR (ks++[sOf t.2.1]) (rs.drop (i+1)):=by
 have e:rs.drop i=t::rs.drop (i+1):=by
  obtain ⟨hi,rfl⟩:=List.getElem?_eq_some_iff.mp h
  exact List.drop_eq_getElem_cons hi
 rw [e]
 rfl
noncomputable def nmsOf(rs:List Rw):List Str:=rs.map fun t=>sOf t.2.1
structure MidAt(K:PySem.W.Frag)(H:Hp)(d:Addr)(rs:List Rw):Prop where
 ex:∃kvs:List (Key×V),H d=some (.dK kvs)∧kvs.map (·.1)=(nmsOf rs).map Sum.inr∧∀(j:Nat) (t:Rw),rs[j]?=some t→∃a,kvs[j]?=some (Sum.inr (sOf t.2.1),.ref a)∧SqT K H a [.int j,.int (iOf t.2.2.1),.int (iOf t.2.2.2)]
theorem MidAt.snoc{K:PySem.W.Frag}{H:Hp}{d a:Addr}{rs:List Rw}{t:Rw}{kvs:List (Key×V)}{c q:Int}{z:Str}(h1:H d=some (.dK kvs))(h2:kvs.map (·.1)=(nmsOf rs).map Sum.inr)
 (h3:∀(j:Nat) (t:Rw),rs[j]?=some t→∃a,kvs[j]?=some (Sum.inr (sOf t.2.1),.ref a)∧SqT K H a [.int j,.int (iOf t.2.2.1),.int (iOf t.2.2.2)])
 (e1:t.2.1= .str z) (e2:t.2.2.1= .int c) (e3:t.2.2.2= .int q) (nz:¬z∈nmsOf rs) (ha:H a=some (.tup [.int kvs.length,.int c,.int q])):
 MidAt K (upd H d (.dK (putK kvs (Sum.inr z) (.ref a)))) d (rs++[t]):=by
 have hl:kvs.length=rs.length:=by
  have:=congrArg List.length h2
  simpa [nmsOf] using this
 have hv:valV kvs (Sum.inr z:Key)=none:=by
  have:=key_mem (z:=z) h2
  rw [decide_eq_false nz]at this
  cases h:valV kvs (Sum.inr z:Key) with
  | none=>rfl
  | some v=>rw [h]at this;cases this
 have keep2:∀{b:Addr} {xs:List V} {o:List (Key×V)},SqT K H b xs→SqT K (upd H d (.dK o)) b xs:=fun {b xs o} h=>by
  rcases h with (h | ⟨o',h⟩) | h
  · exact .inl (.inl (by rw [upd_ne (ne_of h h1 (by intro z;cases z))];exact h))
  · exact .inl (.inr ⟨_,by rw [upd_ne (ne_of h h1 (by intro z;cases z))];exact h⟩)
  · exact .inr h
 refine ⟨_,upd_same,?_,fun j t' hj=>?_⟩
 · rw [putK_new _ hv,List.map_append,h2]
   simp [nmsOf,e1,sOf]
 · rw [putK_new _ hv]
   by_cases hlt:j < rs.length
   · rw [List.getElem?_append_left hlt]at hj
     obtain ⟨b,e,hb⟩:=h3 j t' hj
     exact ⟨b,by rw [List.getElem?_append_left (by omega)];exact e,keep2 hb⟩
   · rw [List.getElem?_append_right (by omega)]at hj
     have hj0:j - rs.length=0:=by
      have:=(List.getElem?_eq_some_iff.mp hj).1
      simp at this;omega
     rw [hj0]at hj
     cases hj
     have ej:j=rs.length:=by omega
     subst ej
     refine ⟨a,?_,?_⟩
     · rw [← hl,List.getElem?_append_right (by omega)];simp [e1,sOf]
     · rw [e2,e3]
       refine keep2 (SqT.of ?_)
       rw [ha,hl];rfl
end N1
namespace L2
theorem rd_setL{o i v:V}{H:Hp}{Q:Hp→Prop}:rSetL o i v H Q=∃p xs k j,o= .ref p∧i= .int k∧H p=some (.lst xs)∧ixN xs.length k=some j∧Q (upd H p (.lst (xs.set j v))):=rfl
end L2
namespace N5
open L2 N1
noncomputable def md(j:Nat):Int:=if j=0 then 26 else 36
noncomputable def sgn(F:Nat→Int)(at':Int)(k j:Nat):Nat:=bc ((F j+if (j:Int)=at' then (k:Int) else 0) % md j)
noncomputable def nmL(F:Nat→Int)(at':Int)(long k:Nat):List Nat:=(List.range long).map (sgn F at' k)
theorem bc_let{i:Int}:bc (i % 26)∈letters:=by
 have h1:=Int.emod_nonneg i (show (26:Int)≠0 by decide)
 have h2:=Int.emod_lt_of_pos i (show (0:Int) < 26 by decide)
 unfold bc
 generalize i % 26=x at *
 have h3:x.toNat < letters.length:=by simp [letters];omega
 rw [List.getD_eq_getElem?_getD,List.getElem?_append_left h3,List.getElem?_eq_getElem h3]
 exact List.getElem_mem h3
theorem bc_both{i:Int}:bc (i % 36)∈letters++figures:=by
 have h1:=Int.emod_nonneg i (show (36:Int)≠0 by decide)
 have h2:=Int.emod_lt_of_pos i (show (0:Int) < 36 by decide)
 unfold bc
 generalize i % 36=x at *
 have h3:x.toNat < (letters++figures).length:=by rw [both_len];omega
 rw [List.getD_eq_getElem?_getD,List.getElem?_eq_getElem h3]
 exact List.getElem_mem h3
theorem bc_inj{x y:Int}(hx0:0≤x)(hx:x < 36)(hy0:0≤y)(hy:y < 36)(h:bc x=bc y):x=y:=by
 have key:∀a:Fin 36,∀b:Fin 36,(letters++figures).getD a.val 0=(letters++figures).getD b.val 0→a=b:=by decide+kernel
 have:=key ⟨x.toNat,by omega⟩ ⟨y.toNat,by omega⟩ h
 have:=congrArg Fin.val this
 simp at this
 omega
theorem nmL_name{F:Nat→Int}{at':Int}{long k:Nat}(h1:1≤long)(h2:long≤8):nameB (nmL F at' long k)=true:=by
 obtain ⟨n,rfl⟩:∃n,long=n+1:=⟨long - 1,by omega⟩
 have hall:∀c∈nmL F at' (n+1) k,c∈letters++figures:=by
  intro c hc
  obtain ⟨j,_,rfl⟩:=List.mem_map.mp hc
  have hm:md j=26∨md j=36:=by unfold md;split <;> simp
  unfold sgn
  rcases hm with hm | hm <;> rw [hm]
  · exact List.mem_append_left _ bc_let
  · exact bc_both
 have hl:(nmL F at' (n+1) k).length=n+1:=by simp [nmL]
 have hh:headIn (nmL F at' (n+1) k) letters=true:=by
  unfold nmL
  rw [List.range_succ_eq_map,List.map_cons]
  show decide (sgn F at' k 0∈letters)=true
  rw [decide_eq_true_eq]
  unfold sgn md
  rw [if_pos rfl]
  exact bc_let
 unfold nameB
 rw [hl,hh,decide_eq_true h1,decide_eq_true h2]
 simp only [Bool.true_and]
 exact List.all_eq_true.mpr fun c hc=>decide_eq_true (hall c hc)
theorem nmL_inj{F:Nat→Int}{at':Int}{long k k':Nat}(h0:0≤at')(h1:at' < long)(hk:k < 26)(hk':k' < 26)(h:nmL F at' long k=nmL F at' long k'):k=k':=by
 have hl:at'.toNat < long:=by omega
 have e:=congrArg (fun l=>l[at'.toNat]?) h
 simp only [nmL,List.getElem?_map,List.getElem?_range hl,Option.map_some,Option.some.injEq]at e
 unfold sgn at e
 rw [if_pos (by omega),if_pos (by omega)]at e
 have hm:md at'.toNat=26∨md at'.toNat=36:=by unfold md;split <;> simp
 rcases hm with hm | hm <;> rw [hm]at e
 · have:=bc_inj (by omega) (by omega) (by omega) (by omega) e
   omega
 · have:=bc_inj (by omega) (by omega) (by omega) (by omega) e
   omega
noncomputable def nms(F:Nat→Int)(at':Int)(long m:Nat):List Str:=(List.range m).map fun k=>tx (nmL F at' long k)
theorem ne1:Str.ofString "no name"≠Str.ofString "nothing":=by decide+kernel
theorem SqT.butL{K:PySem.W.Frag}{H H':Hp}{p a:Addr}{zs:List V}{xs:List V}(s:SameBut p H H')(hp:H p=some (.lst zs))(h:SqT K H a xs):SqT K H' a xs:=by
 rcases h with (h | ⟨o,h⟩) | h
 · exact .inl (.inl (s _ _ h (ne_of h hp (by intro z;cases z))))
 · exact .inl (.inr ⟨o,s _ _ h (ne_of h hp (by intro z;cases z))⟩)
 · exact .inr h
theorem same_made{H H':Hp}{x dx C:Addr}(hx:H x=none)(hd:H dx=none)(s:SameBut x (upd (upd H dx (.own x)) x (.ins C dx [])) H'):Same H H':=fun b o e=>by
 have n1:=ne_of_none e hx
 have n2:=ne_of_none e hd
 exact s b o (by rw [upd_ne n1,upd_ne n2];exact e) n1
theorem name_len{z:Str}(h:nameB z.cps.toList=true):z.length≤8:=by
 unfold nameB at h
 simp only [Bool.and_eq_true,decide_eq_true_eq]at h
 have:=h.1.1.2
 rw [str_len]at this;exact this
end N5
namespace L2
open Sem (wp)
section
variable {Pg:Program} {w:World} {A:Around} {E:Value→Shared→Prop} {h:Heap} {g:Array GenState} {d:Drawn} {t:Nat} {os:OsState}
variable {nm q:Str} {C N:Addr} {bs bm bmB:List Value} {hd:Bool} {sn:List Str} {su:List Value} {ab:Bool} {co:Option Bool} {dd:Option Addr} {k0 k1 k2 k3 k5:Option Value} {B nw ni:String}
noncomputable abbrev bareExc(h:Heap)(C:Addr):Obj:={cls:= .ref C,data:= .fields #[.ref h.objs.size,.none,.none,.none,.bool false,.none]}
noncomputable abbrev twoMore(h:Heap)(C:Addr)(rest:List Value):Heap:=(h.push {cls:= .type "tuple",data:= .seq rest.toArray}).push (bareExc h C)
theorem keep2{rest:List Value}:∀b o,h.get? b=some o→(twoMore h C rest).get? b=some o:=fun _ _ e=>Heap.get?_push_of_some _ (Heap.get?_push_of_some _ e)
end
noncomputable def exO(n:Bool)(x C:Addr)(od:Option Addr):HO:= .ext fun h=>∃vs sl,h.get? x=some ⟨.ref C,od,.fields vs,sl⟩∧(n=true→∃t,vs=#[.ref t,.none,.none,.none,.bool false,.none])
end L2
namespace L2
open Sem (wp)
noncomputable def pI(C:Addr)(H₀:Hp)(EE:St→XK):St→Addr→Hp→Prop:=fun σ x H2=>∃od,H2 x=some (exO true x C od)∧H₀ x=none∧EE σ (.ref C) (some x) (upd H2 x (exO false x C od))
end L2
namespace L2
theorem kV_of{P:Program}{w:World}{k:Key}{u:Value}(h:(mixKind P w).is k u=true):RelV (kV k) u:=by
 cases k with
 | inl i=>
  cases u <;> first | (exact absurd h (by intro z;cases z)) | skip
  rename_i j t
  have e:j=i:=by simpa [mixKind,keyIs,Value.isInt] using h
  exact ⟨t,by rw [e]⟩
 | inr x=>
  cases u <;> first | (exact absurd h (by intro z;cases z)) | skip
  rename_i j t
  have e:j=x:=by simpa [mixKind,keyIs,Value.isStrOf] using h
  exact ⟨t,by rw [e]⟩
theorem vals_get:∀{xs:List V} {us:List Value},Vals xs us→∀{i:Nat} {u:Value},us[i]?=some u→∃x,xs[i]?=some x∧RelV x u
 | _,_,.cons r t,0,u,e=>by cases e;exact ⟨_,rfl,r⟩
 | _,_,.cons r t,i+1,u,e=>vals_get t (i:=i) e
theorem vals_at:∀{xs:List V} {us:List Value},xs.length=us.length→(∀(j:Nat) (u:Value),us[j]?=some u→∃x,xs[j]?=some x∧RelV x u)→Vals xs us
 | [],[],_,_=> .nil
 | x::xs,u::us,hl,h=>by
  obtain ⟨y,e,r⟩:=h 0 u rfl
  cases e
  exact .cons r (vals_at (by simpa using hl) fun j v e=>h (j+1) v e)
theorem paired_get{α β:Type}{F:α→β→Prop}:∀{l:List α} {m:List β},Paired F l m→∀{i:Nat} {b:β},m[i]?=some b→∃a,l[i]?=some a∧F a b
 | _,_,.cons r t,0,b,e=>by cases e;exact ⟨_,rfl,r⟩
 | _,_,.cons r t,i+1,b,e=>paired_get t (i:=i) e
theorem erase_map{α β:Type}(f:α→β):∀(l:List α) (i:Nat),(l.map f).eraseIdx i=(l.eraseIdx i).map f
 | [],_=>rfl
 | _::_,0=>rfl
 | a::l,i+1=>by rw [List.map_cons,List.eraseIdx_cons_succ,List.eraseIdx_cons_succ,List.map_cons,erase_map f l i]
theorem erase_at(z:Str):∀l:List Str,l.eraseIdx (l.idxOf z)=l.erase z
 | []=>rfl
 | a::l=>by
  by_cases h:a=z
  · subst h;simp
  · have e:(a::l).idxOf z=l.idxOf z+1:=by rw [List.idxOf_cons,show (a==z)=false from beq_false_of_ne h];rfl
    rw [e,List.eraseIdx_cons_succ,erase_at z l,List.erase_cons_tail (by simpa using h)]
noncomputable def viewO(v d:Addr):HO:= .ext fun h=>h.IsValuesView v d
theorem preSum_eq:∀(is:List Int),preSum (fun i=>is.getD i 0) is.length=is.sum:=by
 intro is
 have key:∀n,n≤is.length→preSum (fun i=>is.getD i 0) n=(is.take n).sum:=by
  intro n
  induction n with
  | zero=>intro _;rfl
  | succ n ih=>
   intro h
   have e:is.take (n+1)=is.take n++[is.getD n 0]:=by
    rw [List.take_add_one,List.getD_eq_getElem?_getD,List.getElem?_eq_getElem (by omega)]
    rfl
   rw [preSum,ih (by omega),e,List.sum_append]
   simp
 have:=key is.length (Nat.le_refl _)
 rwa [List.take_length]at this
noncomputable def rListD:List V→Hp→VK→Prop:=fun xs H Q=>∃a kvs,xs=[.ref a]∧H a=some (.dK kvs)∧∀l,H l=none→Q (.ref l) (upd H l (.lst (kvs.map fun p=>kV p.1)))
noncomputable def rValues:V→List V→Hp→VK→Prop:=fun x vs H Q=>∃a kvs,x= .ref a∧vs=[]∧H a=some (.dK kvs)∧∀v,H v=none→Q (.ref v) (upd H v (viewO v a))
noncomputable def rSumV:List V→Hp→VK→Prop:=fun xs H Q=>∃(v d:Addr) (kvs:List (Key×V)) (is:List Int),xs=[.ref v]∧H v=some (viewO v d)∧H d=some (.dK kvs)∧kvs.map (·.2)=is.map V.int∧Q (.int is.sum) H
noncomputable def rRemove:V→List V→Hp→VK→Prop:=fun x vs H Q=>∃(l:Addr) (ys:List Str) (z:Str),x= .ref l∧vs=[.str z]∧H l=some (.lst (ys.map V.str))∧z∈ys∧Q .non (upd H l (.lst ((ys.erase z).map V.str)))
section
variable {X:Cx}
theorem call_listD(hc:X.calm=true):CallR X (.type "list") rListD:=by
 intro pins s σ H xs us Q I r h
 obtain ⟨a,kvs,rfl,ha,q⟩:=h
 obtain ⟨u,rfl,rx⟩:=vals1 r
 cases rx
 obtain ⟨z,lo,ws,rel,ob,es,ep,e1,e2⟩:=I.hok a _ ha
 have dat:s.heap.DictAt (mixKind X.prog X.w) a ws ep:=⟨ob,es,e1,e2⟩
 refine PySem.W.kdl_call (PySem.W.kdl_dict (knd:=mixKind X.prog X.w) (kvs:=ws) (ep:=ep) lo) (I.ok.hd hc) dat (by rw [← rel.length];exact z) fun h' tk acc c' kp e hi=>?_
 have hv:Vals (kvs.map fun p=>kV p.1) acc.toList:=by
  have h1:=hi.1
  have h2:=rel.length
  refine vals_at (by rw [List.length_map];exact h2.trans (h1.symm.trans (Array.length_toList (xs:=acc)).symm)) fun j u ej=>?_
  obtain ⟨k,x,ek,hk⟩:=hi.2 j u (by rw [← Array.getElem?_toList];exact ej)
  obtain ⟨p,ep',hp⟩:=paired_get rel ek
  exact ⟨kV p.1,by rw [List.getElem?_map,ep'];rfl,by rw [hp.1];exact kV_of hk⟩
 refine ⟨.ref s.heap.objs.size,_,I.laid (t':=tk) kp (Nat.le_refl _) (show ObjOk X.prog X.w _ h' _ (.lst (kvs.map fun p=>kV p.1)) from ⟨by rw [List.length_map];exact z,acc.toList,c',hv,?_⟩),rfl,q _ I.fresh⟩
 rw [Array.toArray_toList];exact e
theorem mt_values:MtM X "dict.values" rValues:=by
 intro pins s σ H x vs v us Q I rx rv h
 obtain ⟨a,kvs,rfl,rfl,ha,q⟩:=h
 cases rx
 have hus:=rv.zero
 subst hus
 obtain ⟨z,lo,ws,rel,dd⟩:=I.hok a _ ha
 refine call_meetsIn PySem.F.slot_dict_values dd.typeIs PySem.F.entry_dict_values (PySem.F.args_dict_values_1 _) (meets_dict_values (mixKind X.prog X.w) a lo) ⟨⟨ws,dd⟩,?_⟩
 refine ⟨.ref s.heap.objs.size,_,I.laid (t':=s.toks) (fun b o e=>Heap.get?_push_of_some _ e) (Nat.le_refl _) (show ObjOk X.prog X.w _ _ _ (viewO s.heap.objs.size a) from ⟨⟨_,Heap.get?_push_size _ rfl,rfl,rfl⟩,⟨_,Heap.get?_push_size _ rfl⟩,fun h1 h2 ⟨o,e1,e2⟩ k=>⟨o,k _ e1,e2⟩⟩),rfl,q _ I.fresh⟩
theorem call_sumV(hc:X.calm=true):CallR X (.builtin "sum") rSumV:=by
 intro pins s σ H xs us Q I r h
 obtain ⟨v,d,kvs,is,rfl,hv,hd,hm,q⟩:=h
 obtain ⟨u,rfl,rx⟩:=vals1 r
 cases rx
 obtain ⟨z,lo,ws,rel,ob,es,ep,e1,e2⟩:=I.hok d _ hd
 have dat:s.heap.DictAt (mixKind X.prog X.w) d ws ep:=⟨ob,es,e1,e2⟩
 have hvw:s.heap.IsValuesView v d:=(I.hok v _ hv).1
 have src:=PySem.W.kdl_values (prog:=X.prog) (w:=X.w) (r:=v) (d:=d) (knd:=mixKind X.prog X.w) (kvs:=ws) (ep:=ep)
 have hlen:ws.length=is.length:=by
  have:=congrArg List.length hm
  simp only [List.length_map]at this
  rw [← rel.length];exact this
 refine call_sum_walkAnyS ?_
 obtain ⟨oI,St,hit,W,st⟩:=src.iter X.A.in1 s (I.ok.hd hc) ⟨hvw,dat⟩
 refine hit _ _ ⟨s.heap.objs.size,_,_,_,_,_,_,fun i=>is.getD i 0,rfl,W.toS,st,fun b hb=>?_,fun i u hp=>?_,fun s' t' hmv=>?_⟩
 · show b < (s.heap.push oI).objs.size
   rw [size_push']
   rcases List.mem_cons.mp hb with e | hb
   · rw [e];exact Nat.lt_succ_self _
   · rw [List.mem_singleton.mp hb];exact Nat.lt_succ_of_lt (Heap.lt_size e1)
 · obtain ⟨k,ek⟩:=hp
   obtain ⟨p,ep',hp'⟩:=paired_get rel ek
   have e3:(kvs.map (·.2))[i]?=some p.2:=by rw [List.getElem?_map,ep'];rfl
   rw [hm,List.getElem?_map]at e3
   cases hi:is[i]? with
   | none=>rw [hi]at e3;cases e3
   | some n=>
    rw [hi]at e3
    have e4:V.int n=p.2:=Option.some.inj e3
    have r2:=hp'.2
    rw [← e4]at r2
    show ∃t,u=Value.int (is.getD i 0) t
    rw [List.getD_eq_getElem?_getD,hi]
    exact r2
 · have hk:∀b o,s.heap.get? b=some o→s'.heap.get? b=some o:=fun b o e=>
    hmv.heap b o (fun hI=>absurd (Heap.lt_size e) (by rw [List.mem_singleton.mp hI];exact Nat.lt_irrefl _)) (Heap.get?_push_of_some _ e)
   rw [Moved.eq_with hmv]
   refine ⟨.int is.sum,H,I.kept (t':=s'.toks) hk,⟨t',?_⟩,q⟩
   rw [hlen,preSum_eq]
theorem mt_remove:MtM X "list.remove" rRemove:=by
 intro pins s σ H x vs v us Q I rx rv h
 obtain ⟨l,ys,z,rfl,rfl,hH,hz,q⟩:=h
 cases rx
 obtain ⟨u,rfl,ru⟩:=rv.one
 obtain ⟨t,rfl⟩:=ru
 obtain ⟨hs,its,n,r,hl,e⟩:=I.lstM hH
 have hj:ys.idxOf z < ys.length:=List.idxOf_lt_length_iff.mpr hz
 have at_:∀(m:Nat) (u:Value),its[m]?=some u→∃y t,ys[m]?=some y∧u= .str y t:=fun m u em=>by
  obtain ⟨x,ex,rx⟩:=vals_get r em
  rw [List.getElem?_map]at ex
  cases hy:ys[m]? with
  | none=>rw [hy]at ex;cases ex
  | some y=>
   rw [hy]at ex
   cases ex
   obtain ⟨t,e⟩:=rx
   exact ⟨y,t,rfl,e⟩
 have ev:∀y,y∈its.toArray→MeetsSeq.EqGives y (.str z t) (PyProof.Rows.isStrOf z y):=fun y hy=>by
  obtain ⟨m,hm⟩:=List.mem_iff_getElem?.mp (by simpa using hy)
  obtain ⟨y',t',_,rfl⟩:=at_ m y hm
  exact eqGives_str y' z t' t
 have hit:∀(m:Nat) (hm:m < its.toArray.size),∃y t,ys[m]?=some y∧its.toArray[m]= .str y t:=fun m hm=>at_ m _ (by simp)
 refine call_meets F.slot_list_remove ⟨_,e,rfl⟩ F.entry_list_remove (F.args_list_remove_2 _ _) (MeetsSeq.list_remove l its.toArray n (.str z t) (isStrOf z) ev (ys.idxOf z) (by rw [List.size_toArray,← hl,List.length_map];exact hj) ?_ ?_ (by rw [List.size_toArray];omega)) ⟨e,?_⟩
 · obtain ⟨y,t',h1,h2⟩:=hit (ys.idxOf z) (by rw [List.size_toArray,← hl,List.length_map];exact hj)
   rw [h2]
   have e3:ys[ys.idxOf z]?=some z:=by rw [List.getElem?_eq_getElem hj,List.getElem_idxOf hj]
   rw [e3]at h1;cases h1
   simp [isStrOf]
 · intro m hm hlt
   obtain ⟨y,t',h1,h2⟩:=hit m hm
   rw [h2]
   have e3:(ys[m]'(by omega)==z)=false:=List.not_of_lt_findIdx hlt
   rw [List.getElem?_eq_getElem (by omega)]at h1
   cases h1
   exact e3
 · refine ⟨.non,_,I.lset (its':=its.eraseIdx (ys.idxOf z)) hH e ?_ (ys:=(ys.erase z).map V.str) ?_ ?_,rfl,q⟩
   · rw [List.eraseIdxIfInBounds_toArray]
   · have:=r.eraseIdx (ys.idxOf z)
     have e5:(ys.map V.str).eraseIdx (ys.idxOf z)=(ys.erase z).map V.str:=by
      rw [erase_map,erase_at]
     rw [e5]at this
     exact this
   · have:=List.length_erase_le (a:=z) (l:=ys)
     rw [List.length_map]at hs ⊢
     omega
noncomputable def rIsNB:R2:=fun x y H Q=>∃a b,x= .bl a∧y= .bl b∧Q (.bl (!(a==b))) H
end
section
variable {σ:St} {H:Hp} {Q:VK} {xs:List V} {x y:V}
theorem rd_dpop1{td ty:TE}:tDPop1 td ty σ H Q=td σ H fun x H1=>∃a,x= .ref a∧IsD H1 a∧ty σ H1 fun y H2=>∃kvs k v,H2 a=some (.dK kvs)∧y=kV k∧valV kvs k=some v∧Q v (upd H2 a (.dK (dropK kvs k))):=rfl
theorem rd_dget2{td ty tx:TE}:tDGet2 td ty tx σ H Q=td σ H fun x H1=>∃a,x= .ref a∧IsD H1 a∧ty σ H1 fun y H2=>tx σ H2 fun z H3=>∃o,DGet H3 a y o∧Q (o.getD z) H3:=rfl
theorem rd_listD:rListD xs H Q=∃a kvs,xs=[.ref a]∧H a=some (.dK kvs)∧∀l,H l=none→Q (.ref l) (upd H l (.lst (kvs.map fun p=>kV p.1))):=rfl
theorem rd_values:rValues x xs H Q=∃a kvs,x= .ref a∧xs=[]∧H a=some (.dK kvs)∧∀v,H v=none→Q (.ref v) (upd H v (viewO v a)):=rfl
theorem rd_sumV:rSumV xs H Q=∃(v d:Addr) (kvs:List (Key×V)) (is:List Int),xs=[.ref v]∧H v=some (viewO v d)∧H d=some (.dK kvs)∧kvs.map (·.2)=is.map V.int∧Q (.int is.sum) H:=rfl
theorem rd_remove:rRemove x xs H Q=∃(l:Addr) (ys:List Str) (z:Str),x= .ref l∧xs=[.str z]∧H l=some (.lst (ys.map V.str))∧z∈ys∧Q .non (upd H l (.lst ((ys.erase z).map V.str))):=rfl
theorem rd_isnB:rIsNB x y H Q=∃a b,x= .bl a∧y= .bl b∧Q (.bl (!(a==b))) H:=rfl
end
end L2
namespace N4
open L2 N1 N5
noncomputable def sp_checkG(K:PySem.W.Frag):Sp:=fun vs H Q _=>∃(n co r:V) (e:Addr) (kvs:List (Key×V)) (ks:List Str),vs=[n,co,r,.ref e]∧H e=some (.dK kvs)∧kvs.map (·.1)=ks.map Sum.inr∧rowR ks n co r=none∧∀H',Same H H'→Q .non H'
noncomputable def sp_initG(K:PySem.W.Frag)(C:Addr):Sp:=fun vs H Q _=>∃(p dx ra:Addr) (rs:List Rw),vs=[.ref p,.ref ra]∧H p=some (.ins C dx [])∧SqL K H ra (rs.map fun t=>V.ref t.1)∧(∀t∈rs,SqT K H t.1 [t.2.1,t.2.2.1,t.2.2.2])∧initR rs=none∧
 ∀H',SameBut p H H'→StockAt K C H' p (rs.map thOf)→Q .non H'
theorem initR_none{rs:List Rw}(h:initR rs=none):rs.length≤60∧stockR [] rs=none:=by
 unfold initR at h
 split at h
 · cases h
 · exact ⟨by omega,h⟩
theorem wIn_ok{lo hi c:Int}(h1:lo≤c)(h2:c≤hi):wIn lo hi (.int c)=true:=by
 show (decide (lo≤c) && decide (c≤hi))=true
 rw [decide_eq_true h1,decide_eq_true h2];rfl
theorem stockR_ok:∀(rs:List Rw) (ks:List Str),(∀t∈rs,∃z c q,t.2.1= .str z∧t.2.2.1= .int c∧t.2.2.2= .int q∧nameB z.cps.toList=true∧0≤c∧c≤10 ^ 30∧1≤q∧q≤1000)→(ks++rs.map fun t=>sOf t.2.1).Nodup→stockR ks rs=none
 | [],_,_,_=>rfl
 | t::rs,ks,h,nd=>by
  obtain ⟨z,c,q,e1,e2,e3,hn,h1,h2,h3,h4⟩:=h t (List.mem_cons_self ..)
  have hz:¬z∈ks:=fun hz=>by
   rw [List.map_cons,List.nodup_append]at nd
   exact nd.2.2 z hz (sOf t.2.1) (List.mem_cons_self ..) (by rw [e1];rfl)
  have r0:rowR ks t.2.1 t.2.2.1 t.2.2.2=none:=by
   unfold rowR
   rw [e1,e2,e3]
   rw [if_neg (by show ¬nameB z.cps.toList=false;rw [hn];decide),if_neg (show ¬sOf (.str z)∈ks from hz),if_neg (by rw [wIn_ok h1 h2];decide),if_neg (by rw [wIn_ok h3 h4];decide)]
  unfold stockR
  rw [r0]
  refine stockR_ok rs _ (fun t' ht=>h t' (List.mem_cons_of_mem _ ht)) ?_
  rw [List.append_assoc]
  exact nd
theorem valV_nth{kvs:List (Key×V)}{i:Nat}{k:Key}{v:V}(nd:(kvs.map (·.1)).Nodup)(e:kvs[i]?=some (k,v)):valV kvs k=some v:=by
 induction kvs generalizing i with
 | nil=>rw [List.getElem?_nil]at e;cases e
 | cons p r ih=>
  cases i with
  | zero=>cases e;exact valV_pos rfl
  | succ i=>
   rw [List.map_cons,List.nodup_cons]at nd
   have hm:(k,v)∈r:=List.mem_of_getElem? e
   rw [valV_neg (fun z=>nd.1 (by rw [z];exact List.mem_map_of_mem (f:=(·.1)) hm))]
   exact ih nd.2 e
theorem inr_nodup{ks:List Str}(h:ks.Nodup):(ks.map (Sum.inr:Str→Key)).Nodup:=by
 unfold List.Nodup at *
 rw [List.pairwise_map]
 exact h.imp fun n e=>n (by injection e)
section
variable {K:PySem.W.Frag} {C:Addr} {H H':Hp} {p:Addr} {ts:List Th} {z:Str}
theorem StockAt.has(h:StockAt K C H p ts):∃dx d kvs,H p=some (.ins C dx (flds d))∧H d=some (.dK kvs)∧(kvs.map fun q=>kV q.1)=ts.map (fun t=>V.str t.1)∧(∀z,(valV kvs (Sum.inr z)).isSome=decide (z∈ts.map (·.1)))∧
 ((ts.map (·.1)).Nodup→∀(i:Nat) (t:Th),ts[i]?=some t→∃a,valV kvs (Sum.inr t.1)=some (.ref a)∧SqT K H a [.int i,.int t.2.1,.int t.2.2]):=by
 obtain ⟨dx,d,kvs,h1,h2,h3,h4⟩:=h.ex
 have h3':kvs.map (·.1)=(ts.map (·.1)).map Sum.inr:=by rw [h3,List.map_map];rfl
 refine ⟨dx,d,kvs,h1,h2,?_,fun z=>key_mem h3',fun nd i t e=>?_⟩
 · have:=congrArg (List.map kV) h3
   rw [List.map_map,List.map_map]at this
   exact this
 · obtain ⟨a,e1,e2⟩:=h4 i t e
   exact ⟨a,valV_nth (by rw [h3'];exact inr_nodup nd) e1,e2⟩
end
noncomputable def pick(w:Nat)(i:Nat)(t:Th):Int:=if w=0 then i else if w=1 then t.2.1 else t.2.2
noncomputable def sp_has(K:PySem.W.Frag)(C:Addr):Sp:=fun vs H Q _=>∃(p:Addr) (ts:List Th) (z:Str),vs=[.ref p,.str z]∧StockAt K C H p ts∧Q (.bl (decide (z∈ts.map (·.1)))) H
noncomputable def sp_nms(K:PySem.W.Frag)(C:Addr):Sp:=fun vs H Q _=>∃(p:Addr) (ts:List Th),vs=[.ref p]∧StockAt K C H p ts∧∀l,H l=none→Q (.ref l) (upd H l (.lst ((ts.map (·.1)).map V.str)))
theorem mem_nth{ts:List Th}{z:Str}(h:z∈ts.map (·.1)):∃(i:Nat) (t:Th),ts[i]?=some t∧t.1=z:=by
 obtain ⟨t,ht,e⟩:=List.mem_map.mp h
 obtain ⟨i,hi⟩:=List.mem_iff_getElem?.mp ht
 exact ⟨i,t,hi,e⟩
end N4
namespace N4
open L2 N1 N5
structure RowsAt(K:PySem.W.Frag)(H:Hp)(r:Addr)(as:List Addr)(ts:List Th):Prop where
 l:SqL K H r (as.map V.ref)
 n:as.length=ts.length
 m:ts.length≤60
 at_:∀(i:Nat) (a:Addr) (t:Th),as[i]?=some a→ts[i]?=some t→SqT K H a [.str t.1,.int t.2.1,.int t.2.2]
 ok:∀t∈ts,nameB t.1.cps.toList=true∧0≤t.2.1∧t.2.1≤10 ^ 30∧1≤t.2.2∧t.2.2≤1000
 nd:(ts.map (·.1)).Nodup
noncomputable def rwOf(a:Addr)(t:Th):Rw:=(a,.str t.1,.int t.2.1,.int t.2.2)
theorem RowsAt.init{K:PySem.W.Frag}{H:Hp}{r:Addr}{as:List Addr}{ts:List Th}(h:RowsAt K H r as ts):∃rs:List Rw,rs.map (fun t=>V.ref t.1)=as.map V.ref∧(∀t∈rs,SqT K H t.1 [t.2.1,t.2.2.1,t.2.2.2])∧initR rs=none∧rs.map thOf=ts:=by
 have hn:=h.n
 have gt:∀(i:Nat) (x:Addr×Th),(as.zip ts)[i]?=some x→as[i]?=some x.1∧ts[i]?=some x.2:=fun i x e=>by
  rw [List.getElem?_zip_eq_some]at e;exact e
 have e1:((as.zip ts).map fun x=>rwOf x.1 x.2).map thOf=ts:=by
  rw [List.map_map]
  have:(thOf∘fun x:Addr×Th=>rwOf x.1 x.2)=Prod.snd:=by funext x;rfl
  rw [this,List.map_snd_zip (by omega)]
 refine ⟨(as.zip ts).map fun x=>rwOf x.1 x.2,?_,?_,?_,e1⟩
 · rw [List.map_map]
   have:((fun t:Rw=>V.ref t.1)∘fun x:Addr×Th=>rwOf x.1 x.2)=V.ref∘Prod.fst:=by funext x;rfl
   rw [this,← List.map_map,List.map_fst_zip (by omega)]
 · intro t ht
   obtain ⟨x,hx,rfl⟩:=List.mem_map.mp ht
   obtain ⟨i,hi⟩:=List.mem_iff_getElem?.mp hx
   obtain ⟨h1,h2⟩:=gt i x hi
   exact h.at_ i x.1 x.2 h1 h2
 · unfold initR
   rw [if_neg (by rw [List.length_map,List.length_zip];have:=h.m;omega)]
   refine stockR_ok _ _ (fun t ht=>?_) ?_
   · obtain ⟨x,hx,rfl⟩:=List.mem_map.mp ht
     obtain ⟨i,hi⟩:=List.mem_iff_getElem?.mp hx
     obtain ⟨h1,h2⟩:=gt i x hi
     obtain ⟨o1,o2,o3,o4,o5⟩:=h.ok x.2 (List.mem_of_getElem? h2)
     exact ⟨x.2.1,x.2.2.1,x.2.2.2,rfl,rfl,rfl,o1,o2,o3,o4,o5⟩
   · rw [List.nil_append,List.map_map]
     have:((fun t:Rw=>sOf t.2.1)∘fun x:Addr×Th=>rwOf x.1 x.2)=(fun t:Th=>t.1)∘Prod.snd:=by funext x;rfl
     rw [this,← List.map_map,List.map_snd_zip (by omega)]
     exact h.nd
end N4
namespace L2
open PySem.W
noncomputable def rSumL(K:PySem.W.Frag):List V→Hp→VK→Prop:=fun xs H Q=>∃(p:Addr) (is:List Int),xs=[.ref p]∧SqL K H p (is.map V.int)∧Q (.int is.sum) H
theorem preSum_is(is:List Int):preSum (fun i=>is.getD i 0) is.length=is.sum:=by
 have key:∀n,n≤is.length→preSum (fun i=>is.getD i 0) n=(is.take n).sum:=by
  intro n
  induction n with
  | zero=>intro _;rfl
  | succ n ih=>
   intro h
   have e:is.take (n+1)=is.take n++[is.getD n 0]:=by
    rw [List.take_add_one,List.getD_eq_getElem?_getD,List.getElem?_eq_getElem (by omega)]
    rfl
   rw [preSum,ih (by omega),e,List.sum_append]
   simp
 have:=key is.length (Nat.le_refl _)
 rwa [List.take_length]at this
section
variable {X:Cx}
theorem call_sumL(hc:X.calm=true):CallR X (.builtin "sum") (rSumL X.K):=by
 intro pins s σ H xs us Q I r h
 obtain ⟨p,is,rfl,hp,q⟩:=h
 obtain ⟨u,rfl,ru⟩:=vals1 r
 cases ru
 obtain ⟨its,r,pl,hz⟩:=I.list hp
 have hlt:p < s.heap.objs.size:=by obtain ⟨o,n,e,_⟩:=pl;exact Heap.lt_size e
 have hlen:=r.length
 rw [List.length_map]at hlen
 refine call_sum_walkAnyS (wpAny_pyIter_list pl.isList ⟨s.heap.objs.size,_,_,_,_,_,_,fun i=>is.getD i 0,rfl,(Walks.list (show X.A.in1.handled=none from I.ok.hd hc) s.heap.objs.size p (Nat.ne_of_lt hlt) its.toArray).toS,⟨⟨_,Heap.get?_push_size _ rfl,rfl,rfl⟩,pl.isList.push _⟩,fun b hb=>?_,fun i v hP=>?_,fun s' t' hmv=>?_⟩)
 · show b < (s.heap.push _).objs.size
   rw [Heap.size_push]
   rcases List.mem_cons.mp hb with e | hb
   · rw [e];exact Nat.lt_succ_self _
   · rw [List.mem_singleton.mp hb];exact Nat.lt_succ_of_lt hlt
 · have hP:its.toArray[i]?=some v:=hP
   have hi:i < is.length:=by
    have:=(Array.getElem?_eq_some_iff.mp hP).1
    rw [List.size_toArray]at this
    omega
   obtain ⟨u,hu,ru⟩:=r.get (i:=i) (x:=V.int (is[i])) (by simp [hi])
   have e:u=v:=by
    have:its[i]?=some v:=by simpa using hP
    rw [hu]at this;exact Option.some.inj this
   subst e
   show ∃t,u=Value.int (is.getD i 0) t
   rw [List.getD_eq_getElem?_getD,List.getElem?_eq_getElem hi]
   exact ru
 · have hk:∀b o,s.heap.get? b=some o→s'.heap.get? b=some o:=fun b o e=>
    hmv.heap b o (fun hI=>absurd (Heap.lt_size e) (by rw [List.mem_singleton.mp hI];exact Nat.lt_irrefl _)) (Heap.get?_push_of_some _ e)
   rw [Moved.eq_with hmv]
   refine ⟨.int is.sum,H,I.kept (t':=s'.toks) hk,⟨t',?_⟩,q⟩
   rw [List.size_toArray,← hlen,preSum_is]
end
section
variable {σ:St} {H:Hp} {Q:VK} {D:Ends} {K:PySem.W.Frag} {xs:List V} {x y:V}
theorem rd_sumL:rSumL K xs H Q=∃(p:Addr) (is:List Int),xs=[.ref p]∧SqL K H p (is.map V.int)∧Q (.int is.sum) H:=rfl
theorem rd_ipI{f:Int→Int→Int}:ipI f x y H Q=∃i j,x= .int i∧y= .int j∧Q (.int (f i j)) H:=rfl
end
end L2
namespace N31
open L2 N1 N5
end N31
namespace L2
theorem Inv.turned2{X:Cx}{pins:List (Addr×Obj)}{σ:St}{H:Hp}{s:Shared}{h':Heap}{t':Nat}{fp:List Addr}(I:Inv X pins σ H s)(k:∀b o,b∉fp→s.heap.get? b=some o→h'.get? b=some o)(hf:∀it∈fp,FpOk X pins H it):
 Inv X pins σ H {s with heap:=h',toks:=t'}:=by
 have nit:∀b u,H b=some u→b∉fp:=fun b u e z=>by rw [(hf b z).1]at e;cases e
 refine I.step (g':=s.gens) (d':=s.drawn) (ch:=fp) (fun b hb=>?_) (fun b o _ _ hc e _=>k b o hc e) (fun b o _ _ hc e _=>⟨o.slots,k b o hc e⟩) (fun _ _ _ _ n=>n)
  (fun b o hc e=>⟨o,k b o hc e⟩) (fun _ _ e=>e) (fun _ _ _ e=>e) (fun b ps e=>⟨#[],by rw [e];simp⟩) (fun m hm=>?_) (fun b u e=>?_) I.bare
 · obtain ⟨_,h1,_,h2,h3,h4⟩:=hf b hb
   exact ⟨h2,h1,h3,h4⟩
 · obtain ⟨o,es,ep,ho,r⟩:=hm
   exact ⟨o,es,ep,k _ o (fun z=>(hf _ z).2.1 rfl) ho,r⟩
 · refine (I.hok b u e).stay (fun c v hc q=>k c v ?_ q) (fun _ q=>q) fun _ _ q=>q
   rcases hc with z | z
   · rw [z];exact nit b u e
   · exact nit c _ z
noncomputable def Ite(K:PySem.W.Frag)(a:Addr):It:=
 ⟨fun i H=>∃xs x,SqL K H a xs∧xs[i]?=some x,fun i H y H'=>∃t x,y= .ref t∧H t=none∧H'=upd H t (.tup [.int i,x])∧∀xs,SqL K H a xs→xs[i]?=some x,fun i H=>∃xs,SqL K H a xs∧xs.length≤i⟩
noncomputable def tnE(e it a:Addr)(i:Nat)(h:Heap):Prop:=(∃old,IsEnum h e it i old)∧h.IsListIter it a i
theorem turn_enum{P:Program}{w:World}{K:PySem.W.Frag}{es:List Expr}{k:Nat}{pos:Pos}(a e it:Addr)(ne:e≠it):Turn P w K (.Tuple es k pos) (Ite K a) [e,it] e (tnE e it a) where
 mem:=by simp
 obj:=fun i h st b hb=>by
  obtain ⟨⟨old,h1⟩,o,h2,c,d⟩:=st
  have hb:b=e∨b=it:=by simpa using hb
  rcases hb with rfl | rfl
  · exact ⟨_,h1,fun v z=>by cases z⟩
  · exact ⟨o,h2,fun v z=>by rw [d]at z;cases z⟩
 keep:=fun i h h' st kk=>by
  obtain ⟨⟨old,h1⟩,h2⟩:=st
  exact ⟨⟨old,kk e (by simp) _ h1⟩,h2.at fun o q=>kk it (by simp) o q⟩
 item:=by
  intro X hP hw hK hc i pins s σ H E I hf st hg
  subst hP hw hK
  obtain ⟨xs,x,hq,hx⟩:=hg
  obtain ⟨its,rv,p,hz⟩:=I.list hq
  obtain ⟨u,hu,ru⟩:=rv.get hx
  obtain ⟨⟨old,h1⟩,h2⟩:=st
  have hlt:e < s.heap.objs.size:=Heap.lt_size h1
  have hit:it < s.heap.objs.size:=by obtain ⟨o,q,_⟩:=id h2;exact Heap.lt_size q
  refine wpAny_pyNext_enum_item h1 h2 p.isList (x:=u) (by simpa using hu) ne fun h' eo it' ht hs hk=>?_
  refine ⟨_,rfl,wpAny_letOwnedTupleGo_enum (s:={s with heap:=h',toks:=s.toks+1}) eo fun h3 e3 sb=>?_⟩
  have hf0:H s.heap.objs.size=none:=I.hok.fresh (Nat.le_refl _)
  have nt:∀b∈[e,it],b≠s.heap.objs.size:=fun b hb=>by
   have hb:b=e∨b=it:=by simpa using hb
   rcases hb with rfl | rfl
   · exact Nat.ne_of_lt hlt
   · exact Nat.ne_of_lt hit
  have I0:Inv X pins σ (upd H s.heap.objs.size (.tup [.int i,x])) {s with heap:=s.heap.push {cls:= .type "tuple",data:= .seq #[.int i s.toks,u]},toks:=s.toks+1}:=
   I.laid (fun b u e=>Heap.get?_push_of_some _ e) (Nat.le_refl _) ⟨by simp [sizeLine];try decide,[.int i s.toks,u],.cons ⟨_,rfl⟩ (.cons ru .nil),⟨_,Heap.get?_push_size _ rfl,rfl,_,rfl⟩⟩
  have hfp:∀b∈[e,it],FpOk X pins (upd H s.heap.objs.size (.tup [.int i,x])) b:=fun b hb=>by
   obtain ⟨f0,f1,f2,f3,f4,f5⟩:=hf b hb
   exact ⟨by rw [upd_ne (nt b hb)];exact f0,f1,f2,f3,f4,f5⟩
  have I1:Inv X pins σ (upd H s.heap.objs.size (.tup [.int i,x])) {s with heap:=h3,toks:=s.toks+1}:=by
   refine Inv.turned2 (s:={s with heap:=s.heap.push {cls:= .type "tuple",data:= .seq #[.int i s.toks,u]},toks:=s.toks+1}) (t':=s.toks+1) I0 (fun b o hb q=>?_) hfp
   have hb':b≠e∧b≠it:=by simpa using hb
   refine (sb.2 b hb'.1).trans ?_
   rcases Heap.get?_push_cases q with ⟨rfl,rfl⟩ | q2
   · exact ht
   · exact hk b o hb'.1 hb'.2 q2
  refine ⟨.ref s.heap.objs.size,upd H s.heap.objs.size (.tup [.int i,x]),I1,rfl,⟨_,x,rfl,hf0,rfl,fun ys hy=>by rw [I.list_inj hy hq];exact hx⟩,⟨⟨u,?_⟩,?_⟩,fun b hb=>(hfp b hb).1⟩
  · show IsEnum h3 e it ((i+1:Nat):Int) u
    rw [show ((i+1:Nat):Int)=(i:Int)+1 from rfl]
    exact e3
  · exact it'.at fun o q=>(sb.2 it (Ne.symm ne)).trans q
 done:=by
   intro X hP hw hK hc i pins s σ H E I hf st hg
   subst hP hw hK
   obtain ⟨xs,hq,hx⟩:=hg
   obtain ⟨its,rv,p,hz⟩:=I.list hq
   obtain ⟨⟨old,h1⟩,h2⟩:=st
   have hl:=rv.length
   exact wpAny_pyNext_enum_end (I.ok.hd hc) h1 h2 p.isList (by simp;omega) fun h' eb=>⟨rfl,Inv.turned2 (t':=s.toks) I (fun b o hb q=>eb b o (fun z=>hb (by simp [z])) q) hf⟩
 self:=fun _ _ _ _ _ st h=>wpAny_pyIter_enum st.1.choose_spec h
section
variable {X:Cx}
noncomputable def iEnum(K:PySem.W.Frag)(ta:TA):TI:=fun σ H R=>ta σ H fun vs H1=>∃a,vs=[.ref a]∧(∃xs,SqL K H1 a xs)∧R (Ite K a) H1
theorem pi_enum{l:Expr}{ta:TA}{p pos pp:Pos}{es:List Expr}{k:Nat}(hg:Gl X "enumerate")(hm:X.mg "enumerate"=none)(ha:PA X [l] ta)(hs:starEach [l] X.env=[(false,eval l X.env)]:=by rfl):PI X (.Tuple es k pp) (.Call (.Name "enumerate" p) [l] [] pos) (iEnum X.K ta):=by
 intro pins s σ H R I h
 refine Call_ (ld_blt I hg hm boot_enumerate (PyProof.Rows.callWith_type1 (thn (ha pos pins s σ H _ I h) fun us s1 hq_=>?_) hs rfl))
 obtain ⟨vs,H1,I1,r1,q1⟩:=hq_
 obtain ⟨a,e,⟨xs,hq⟩,q⟩:=q1
 subst e
 cases r1 with
 | cons r rr=>
  cases rr
  cases r
  obtain ⟨its,rv,p',hz⟩:=I1.list hq
  refine call_enumerate_list p'.isList fun h' h1 h2 h3 h4=>?_
  refine wpAny_pyIter_enum h1 ?_
  refine ⟨_,[s1.heap.objs.size+1,s1.heap.objs.size],_,_,H1,rfl,I1.kept (t':=s1.toks) h4,turn_enum a _ _ (Nat.succ_ne_self _),⟨⟨_,h1⟩,h2⟩,fun b hb=>?_,q⟩
  have hb:b=s1.heap.objs.size+1∨b=s1.heap.objs.size:=by simpa using hb
  rcases hb with rfl | rfl
  · exact I1.fpOk (Nat.le_succ _) (I1.hok.fresh (Nat.le_succ _))
  · exact I1.fpOk (Nat.le_refl _) (I1.hok.fresh (Nat.le_refl _))
end
section
variable {K:PySem.W.Frag} {σ:St} {H:Hp} {D:Ends}
theorem rd_ienum{ta:TA}{R:It→Hp→Prop}:iEnum K ta σ H R=ta σ H fun vs H1=>∃a,vs=[.ref a]∧(∃xs,SqL K H1 a xs)∧R (Ite K a) H1:=rfl
theorem forE_by{a:Addr}{xs:List V}{g:TG}{tb:TS}(Pv:Nat→St→Hp→Prop)(h0:Pv 0 σ H)(hl:∀i σ H,i≤xs.length→Pv i σ H→SqL K H a xs)
 (hs:∀i x σ H t,xs[i]?=some x→Pv i σ H→H t=none→g (.ref t) σ (upd H t (.tup [.int i,x])) fun σ2 H2=>tb {D with nx:=Pv (i+1),ct:=Pv (i+1),bk:=D.nx} σ2 H2) (hd:∀σ H,Pv xs.length σ H→D.nx σ H):ForTail g tb D σ (Ite K a) H:=by
 refine ⟨fun i m σ H=>i≤xs.length∧m=xs.length - i∧Pv i σ H,⟨_,Nat.zero_le _,rfl,h0⟩,fun i m σ H ⟨hi,hm,hP⟩=>?_⟩
 have hq:=hl i σ H hi hP
 cases hx:xs[i]? with
 | none=>
  have hn:xs.length≤i:=by simpa using hx
  have e:i=xs.length:=Nat.le_antisymm hi hn
  subst e
  exact .inl ⟨⟨xs,hq,Nat.le_refl _⟩,hd σ H hP⟩
 | some x=>
  have hlt:i < xs.length:=(List.getElem?_eq_some_iff.mp hx).1
  refine .inr ⟨⟨xs,x,hq,hx⟩,Pv (i+1),fun σ' H' h=>⟨xs.length - (i+1),by omega,by omega,rfl,h⟩,?_⟩
  rintro y H' ⟨t,x',rfl,ht,rfl,hy⟩
  have e:=(hy xs hq).symm.trans hx
  cases e
  exact hs i x σ H t hx hP ht
end
end L2
namespace L2
noncomputable def Itz(K:PySem.W.Frag)(a b:Addr):It:=
 ⟨fun i H=>∃xs ys x y,SqL K H a xs∧SqL K H b ys∧xs[i]?=some x∧ys[i]?=some y,fun i H v H'=>∃t x y,v= .ref t∧H t=none∧H'=upd H t (.tup [x,y])∧(∀xs,SqL K H a xs→xs[i]?=some x)∧∀ys,SqL K H b ys→ys[i]?=some y,
  fun i H=>∃xs ys,SqL K H a xs∧SqL K H b ys∧(xs.length≤i∨ys.length≤i)⟩
noncomputable def tnZ(z TI TO i1 i2 a b:Addr)(i:Nat)(h:Heap):Prop:=IsZip h z TI TO .none∧IsPair h TI (.ref i1) (.ref i2)∧(∃x y,IsPair h TO x y)∧h.IsListIter i1 a i∧h.IsListIter i2 b i
theorem turn_zip{P:Program}{w:World}{K:PySem.W.Frag}{es:List Expr}{k:Nat}{pos:Pos}(a b z TI TO i1 i2:Addr)(D:ZipApart z TI TO i1 i2 a b):Turn P w K (.Tuple es k pos) (Itz K a b) [z,TI,TO,i1,i2] z (tnZ z TI TO i1 i2 a b) where
 mem:=by simp
 obj:=fun i h st c hc=>by
  obtain ⟨h1,h2,⟨x,y,h3⟩,⟨o4,e4,c4,d4⟩,⟨o5,e5,c5,d5⟩⟩:=st
  have hc:c=z∨c=TI∨c=TO∨c=i1∨c=i2:=by simpa using hc
  rcases hc with rfl | rfl | rfl | rfl | rfl
  · exact ⟨_,h1,fun v z=>by cases z⟩
  · exact ⟨_,h2,fun v z=>by cases z⟩
  · exact ⟨_,h3,fun v z=>by cases z⟩
  · exact ⟨o4,e4,fun v z=>by rw [d4]at z;cases z⟩
  · exact ⟨o5,e5,fun v z=>by rw [d5]at z;cases z⟩
 keep:=fun i h h' st kk=>by
  obtain ⟨h1,h2,⟨x,y,h3⟩,h4,h5⟩:=st
  exact ⟨kk z (by simp) _ h1,kk TI (by simp) _ h2,⟨x,y,kk TO (by simp) _ h3⟩,h4.at fun o q=>kk i1 (by simp) o q,h5.at fun o q=>kk i2 (by simp) o q⟩
 item:=by
  intro X hP hw hK hc i pins s σ H E I hf st hg
  subst hP hw hK
  obtain ⟨xs,ys,x,y,hq,hq2,hx,hy⟩:=hg
  obtain ⟨its,rv,p,hz⟩:=I.list hq
  obtain ⟨jts,rv2,p2,hz2⟩:=I.list hq2
  obtain ⟨u,hu,ru⟩:=rv.get hx
  obtain ⟨v,hv,rw'⟩:=rv2.get hy
  obtain ⟨h1,h2,⟨x0,y0,h3⟩,h4,h5⟩:=st
  have lts:∀c∈[z,TI,TO,i1,i2],c < s.heap.objs.size:=fun c hc'=>by
   have hc':c=z∨c=TI∨c=TO∨c=i1∨c=i2:=by simpa using hc'
   rcases hc' with rfl | rfl | rfl | rfl | rfl
   · exact Heap.lt_size h1
   · exact Heap.lt_size h2
   · exact Heap.lt_size h3
   · obtain ⟨o,q,_⟩:=id h4;exact Heap.lt_size q
   · obtain ⟨o,q,_⟩:=id h5;exact Heap.lt_size q
  refine wpAny_pyNext_zip_item D h1 h2 h3 h4 h5 p.isList p2.isList (x:=u) (y:=v) (by simpa using hu) (by simpa using hv) fun h' e1 e3 e4 e5 ht hs hk=>?_
  refine ⟨_,rfl,wpAny_letOwnedTupleGo_zip (s:={s with heap:=h'}) e1 fun h6 e6 sb=>?_⟩
  have hf0:H s.heap.objs.size=none:=I.hok.fresh (Nat.le_refl _)
  have nt:∀c∈[z,TI,TO,i1,i2],c≠s.heap.objs.size:=fun c hc'=>Nat.ne_of_lt (lts c hc')
  have I0:Inv X pins σ (upd H s.heap.objs.size (.tup [x,y])) {s with heap:=s.heap.push {cls:= .type "tuple",data:= .seq #[u,v]}}:=
   I.laid (t':=s.toks) (fun b u e=>Heap.get?_push_of_some _ e) (Nat.le_refl _) ⟨by simp [sizeLine];try decide,[u,v],.cons ru (.cons rw' .nil),⟨_,Heap.get?_push_size _ rfl,rfl,_,rfl⟩⟩
  have hfp:∀c∈[z,TI,TO,i1,i2],FpOk X pins (upd H s.heap.objs.size (.tup [x,y])) c:=fun c hc'=>by
   obtain ⟨f0,f1,f2,f3,f4,f5⟩:=hf c hc'
   exact ⟨by rw [upd_ne (nt c hc')];exact f0,f1,f2,f3,f4,f5⟩
  have I1:Inv X pins σ (upd H s.heap.objs.size (.tup [x,y])) {s with heap:=h6}:=by
   refine Inv.turned2 (s:={s with heap:=s.heap.push {cls:= .type "tuple",data:= .seq #[u,v]}}) (t':=s.toks) I0 (fun c o hc' q=>?_) hfp
   have hb':c≠z∧c≠TI∧c≠TO∧c≠i1∧c≠i2:=by simpa using hc'
   refine (sb.2 c hb'.1).trans ?_
   rcases Heap.get?_push_cases q with ⟨rfl,rfl⟩ | q2
   · exact ht
   · exact hk c o hb'.1 hb'.2.2.1 hb'.2.2.2.1 hb'.2.2.2.2 q2
  refine ⟨.ref s.heap.objs.size,upd H s.heap.objs.size (.tup [x,y]),I1,rfl,⟨_,x,y,rfl,hf0,rfl,fun zs hy'=>by rw [I.list_inj hy' hq];exact hx,fun zs hy'=>by rw [I.list_inj hy' hq2];exact hy⟩,?_,fun c hc'=>(hfp c hc').1⟩
  have k6:∀c o,c≠z→h'.get? c=some o→h6.get? c=some o:=fun c o n q=>(sb.2 c n).trans q
  exact ⟨e6,k6 TI _ D.TIz (hk TI _ D.TIz D.TITO D.TIi1 D.TIi2 h2),⟨_,_,k6 TO _ D.TOz e3⟩,e4.at fun o q=>k6 i1 o D.i1z q,e5.at fun o q=>k6 i2 o D.i2z q⟩
 done:=by
   intro X hP hw hK hc i pins s σ H E I hf st hg
   subst hP hw hK
   obtain ⟨xs,ys,hq,hq2,hx⟩:=hg
   obtain ⟨its,rv,p,hz⟩:=I.list hq
   obtain ⟨jts,rv2,p2,hz2⟩:=I.list hq2
   obtain ⟨h1,h2,⟨x0,y0,h3⟩,h4,h5⟩:=st
   have hl:=rv.length
   have hl2:=rv2.length
   exact wpAny_pyNext_zip_end (I.ok.hd hc) D h1 h2 h3 h4 h5 p.isList p2.isList (hx.imp (fun h=>by simp;omega) fun h=>by simp;omega) fun h' eb=>⟨rfl,Inv.turned2 (t':=s.toks) I (fun c o hb q=>by
    have hb':c≠z∧c≠TI∧c≠TO∧c≠i1∧c≠i2:=by simpa using hb
    exact eb c o hb'.1 hb'.2.2.1 hb'.2.2.2.1 hb'.2.2.2.2 q) hf⟩
 self:=fun _ _ _ _ _ st h=>wpAny_pyIter_zip st.1 h
section
variable {X:Cx}
noncomputable def iZip(K:PySem.W.Frag)(ta:TA):TI:=fun σ H R=>ta σ H fun vs H1=>∃a b,vs=[.ref a,.ref b]∧(∃xs,SqL K H1 a xs)∧(∃ys,SqL K H1 b ys)∧R (Itz K a b) H1
theorem pi_zip{l r:Expr}{ta:TA}{p pos pp:Pos}{es:List Expr}{k:Nat}(hg:Gl X "zip")(hm:X.mg "zip"=none)(ha:PA X [l,r] ta)(hs:starEach [l,r] X.env=[(false,eval l X.env),(false,eval r X.env)]:=by rfl)(hs2:starEach [r] X.env=[(false,eval r X.env)]:=by rfl):
 PI X (.Tuple es k pp) (.Call (.Name "zip" p) [l,r] [] pos) (iZip X.K ta):=by
 intro pins s σ H R I h
 refine Call_ (ld_blt I hg hm boot_zip (PyProof.Rows.callWith_type1 (thn (ha pos pins s σ H _ I h) fun us s1 ⟨vs,H1,I1,r1,q1⟩=>?_) (by rw [hs,hs2]) (by rw [hs2];rfl)))
 obtain ⟨a,b,e,⟨xs,hq⟩,⟨ys,hq2⟩,q⟩:=q1
 subst e
 cases r1 with
 | cons r rr=>
  cases rr with
  | cons r' rr=>
   cases rr
   cases r
   cases r'
   obtain ⟨its,rv,p',hz⟩:=I1.list hq
   obtain ⟨jts,rv2,p2,hz2⟩:=I1.list hq2
   have la:a < s1.heap.objs.size:=by obtain ⟨o,e,_⟩:=p'.isList;exact Heap.lt_size e
   have lb:b < s1.heap.objs.size:=by obtain ⟨o,e,_⟩:=p2.isList;exact Heap.lt_size e
   refine call_zip_2 p'.isList p2.isList fun h' h1 h2 h3 h4 h5 h6 h7=>?_
   refine wpAny_pyIter_zip h1 ?_
   refine ⟨_,[s1.heap.objs.size+4,s1.heap.objs.size+2,s1.heap.objs.size+3,s1.heap.objs.size,s1.heap.objs.size+1],_,_,H1,rfl,I1.kept (t':=s1.toks) h7,turn_zip a b _ _ _ _ _ (PySem.W.ktu_apart _ _ _ la lb),⟨h1,h2,⟨_,_,h3⟩,h4,h5⟩,fun c hc=>?_,q⟩
   have hc:s1.heap.objs.size≤c:=by
    have hc:c=s1.heap.objs.size+4∨c=s1.heap.objs.size+2∨c=s1.heap.objs.size+3∨c=s1.heap.objs.size∨c=s1.heap.objs.size+1:=by simpa using hc
    rcases hc with rfl | rfl | rfl | rfl | rfl
    · exact Nat.le_add_right _ _
    · exact Nat.le_add_right _ _
    · exact Nat.le_add_right _ _
    · exact Nat.le_refl _
    · exact Nat.le_add_right _ _
   exact I1.fpOk hc (I1.hok.fresh hc)
end
section
variable {K:PySem.W.Frag} {σ:St} {H:Hp} {D:Ends}
theorem rd_izip{ta:TA}{R:It→Hp→Prop}:iZip K ta σ H R=ta σ H fun vs H1=>∃a b,vs=[.ref a,.ref b]∧(∃xs,SqL K H1 a xs)∧(∃ys,SqL K H1 b ys)∧R (Itz K a b) H1:=rfl
theorem forZ_by{a b:Addr}{xs ys:List V}{g:TG}{tb:TS}(hlen:xs.length=ys.length)(Pv:Nat→St→Hp→Prop)(h0:Pv 0 σ H)(hl:∀i σ H,i≤xs.length→Pv i σ H→SqL K H a xs∧SqL K H b ys)
 (hs:∀i x y σ H t,xs[i]?=some x→ys[i]?=some y→Pv i σ H→H t=none→g (.ref t) σ (upd H t (.tup [x,y])) fun σ2 H2=>tb {D with nx:=Pv (i+1),ct:=Pv (i+1),bk:=D.nx} σ2 H2) (hd:∀σ H,Pv xs.length σ H→D.nx σ H):ForTail g tb D σ (Itz K a b) H:=by
 refine ⟨fun i m σ H=>i≤xs.length∧m=xs.length - i∧Pv i σ H,⟨_,Nat.zero_le _,rfl,h0⟩,fun i m σ H ⟨hi,hm,hP⟩=>?_⟩
 obtain ⟨hq,hq2⟩:=hl i σ H hi hP
 by_cases hlt:i < xs.length
 · have hx:xs[i]?=some xs[i]:=List.getElem?_eq_getElem hlt
   have hy:ys[i]?=some (ys[i]'(by omega)):=List.getElem?_eq_getElem (by omega)
   refine .inr ⟨⟨xs,ys,_,_,hq,hq2,hx,hy⟩,Pv (i+1),fun σ' H' h=>⟨xs.length - (i+1),by omega,by omega,rfl,h⟩,?_⟩
   rintro v H' ⟨t,x',y',rfl,ht,rfl,h1,h2⟩
   have e:=(h1 xs hq).symm.trans hx
   have e2:=(h2 ys hq2).symm.trans hy
   cases e
   cases e2
   exact hs i _ _ σ H t hx hy hP ht
 · have e:i=xs.length:=by omega
   subst e
   exact .inl ⟨⟨xs,ys,hq,hq2,.inl (Nat.le_refl _)⟩,hd σ H hP⟩
end
end L2
namespace N32
open L2 N1 N5 N31
noncomputable def lastIx(ys:List Str)(z:Str):Nat→Option Nat
 | 0=>none
 | n+1=>if ys.getD n Str.empty=z then some n else lastIx ys z n
noncomputable def ear(ys:List Str)(i:Nat):Option Nat:=lastIx ys (ys.getD i Str.empty) i
noncomputable def W(R:Str→Int)(ys:List Str)(n j:Nat):Int:=if lastIx ys (ys.getD j Str.empty) n=some j then R (ys.getD j Str.empty) else 0
noncomputable def tl(f:Nat→Int)(b n:Nat):Int:=((List.range' b (n - b)).map f).sum
noncomputable def dep(R:Str→Int)(ys:List Str)(n:Nat):Option Int:=(ear ys n).map fun b=>tl (W R ys n) b n
end N32
namespace N32
open L2 N1 N5 N31 N4
noncomputable def rm(ts:List Th)(z:Str):Int:=((ts.find? fun t=>decide (t.1=z)).map (·.2.2)).getD 0
theorem rm_at{ts:List Th}(nd:(ts.map (·.1)).Nodup){i:Nat}{t:Th}(h:ts[i]?=some t):rm ts t.1=t.2.2:=by
 induction ts generalizing i with
 | nil=>simp at h
 | cons u r ih=>
  rw [List.map_cons,List.nodup_cons]at nd
  cases i with
  | zero=>
   rw [List.getElem?_cons_zero]at h
   cases h
   simp [rm]
  | succ i=>
   rw [List.getElem?_cons_succ]at h
   have ne:¬u.1=t.1:=fun e=>nd.1 (by rw [e];exact List.mem_map.mpr ⟨t,List.mem_of_getElem? h,rfl⟩)
   have:=ih nd.2 h
   unfold rm at this ⊢
   rw [List.find?_cons_of_neg (by simpa using ne)]
   exact this
theorem same_upd{H H':Hp}{p:Addr}{o:HO}(s:Same H H')(h:H p=none):Same H (upd H' p o):=fun b u e=>by
 rw [upd_ne (ne_of_none e h)];exact s b u e
noncomputable def sp32_check:Sp:=fun vs H Q _=>∃(i:Int),vs=[.int i]∧1≤i∧i≤1000000∧Q .non H
noncomputable def sp32_thing(K:PySem.W.Frag)(C:Addr):Sp:=fun vs H Q _=>∃(p:Addr) (ts:List Th) (z:Str),vs=[.ref p,.str z]∧StockAt K C H p ts∧(ts.map (·.1)).Nodup∧z∈ts.map (·.1)∧∀(i:Nat) (t:Th),ts[i]?=some t→t.1=z→∀a,SqT K H a [.int i,.int t.2.1,.int t.2.2]→Q (.ref a) H
noncomputable def sp32_room(K:PySem.W.Frag)(C:Addr):Sp:=fun vs H Q _=>∃(p:Addr) (ts:List Th) (z:Str),vs=[.ref p,.str z]∧StockAt K C H p ts∧(ts.map (·.1)).Nodup∧z∈ts.map (·.1)∧Q (.int (rm ts z)) H
section
variable {K:PySem.W.Frag} {σ:L2.St} {H:Hp} {Q:VK}
theorem rd_dget1{td ty:TE}:tDGet1 td ty σ H Q=td σ H fun x H1=>∃a,x= .ref a∧IsD H1 a∧ty σ H1 fun y H2=>∃o,DGet H2 a y o∧Q (o.getD .non) H2:=rfl
theorem rd_disp1{tk tv:TE}:tDisp [(tk,tv)] σ H Q=∀p,H p=none→tk σ (upd H p (.dK [])) fun x H1=>tv σ H1 fun y H2=>H2 p=some (.dK [])∧∃kvs:List (Key×V),[(x,y)]=kvs.map (fun kv=>(kV kv.1,kv.2))∧kvs.length≤15∧Q (.ref p) (upd H2 p (.dK (mergeK [] kvs))):=rfl
end
end N32
namespace N32
open L2 N1 N5 N31 N4
theorem cut_anyI(ns:List Int)(lo hi:Option Int):∃cs:List Int,cutV (ns.map V.int) lo hi=cs.map V.int∧cs.length≤ns.length:=by
 unfold cutV
 rw [← List.map_drop,← List.map_take]
 refine ⟨_,rfl,?_⟩
 rw [List.length_take,List.length_drop]
 omega
end N32
namespace N32
open L2 N1 N5 N31 N4
noncomputable def rmK(ns:List Int)(mo:Int)(j:Nat):Int:=1+(ns.getD 2 0 / 2).fdiv ((j:Int)+1) % mo
end N32
open L2 N1 N5 N31 N4 N32
namespace N41
noncomputable def seg(T:List Int)(a b:Nat):Int:=((T.take b).drop a).sum
noncomputable def leastAt(c r:Str→Int)(T:List Int)(S:Int)(ys:List Str)(n:Nat):Int:=
 match ear ys n with
 | none=>c (ys.getD n Str.empty) * S
 | some e=>min (c (ys.getD n Str.empty) * S) (r (ys.getD n Str.empty) * seg T (e+1) n)
noncomputable def fl(c r:Str→Int)(T:List Int)(S P:Int)(ys:List Str):Nat→Int
 | 0=>0
 | n+1=>fl c r T S P ys n+(leastAt c r T S ys n - T.getD n 0 * (P - r (ys.getD n Str.empty)))
noncomputable def sm(f:Str→Int)(L:List Str):Int:=(L.map f).sum
theorem sm_nil(f:Str→Int):sm f []=0:=rfl
theorem sm_cons(f:Str→Int)(x:Str)(L:List Str):sm f (x::L)=f x+sm f L:=by unfold sm;rw [List.map_cons,List.sum_cons]
end N41
namespace N41
noncomputable def cst(ts:List Th)(z:Str):Int:=((ts.find? fun t=>decide (t.1=z)).map (·.2.1)).getD 0
theorem cst_at{ts:List Th}(nd:(ts.map (·.1)).Nodup){i:Nat}{t:Th}(h:ts[i]?=some t):cst ts t.1=t.2.1:=by
 induction ts generalizing i with
 | nil=>simp at h
 | cons u r ih=>
  rw [List.map_cons,List.nodup_cons]at nd
  cases i with
  | zero=>
   rw [List.getElem?_cons_zero]at h
   cases h
   simp [cst]
  | succ i=>
   rw [List.getElem?_cons_succ]at h
   have ne:¬u.1=t.1:=fun e=>nd.1 (by rw [e];exact List.mem_map.mpr ⟨t,List.mem_of_getElem? h,rfl⟩)
   have:=ih nd.2 h
   unfold cst at this ⊢
   rw [List.find?_cons_of_neg (by simpa using ne)]
   exact this
noncomputable def sp41_asks(K:PySem.W.Frag)(C:Addr):Sp:=fun vs H Q _=>∃(p a:Addr) (pl:Int) (ts:List Th) (ys:List Str),vs=[.ref p,.ref a,.int pl]∧StockAt K C H p ts∧(ts.map (·.1)).Nodup∧SqL K H a (ys.map V.str)∧ys.length≤200∧(∀y∈ys,y∈ts.map (·.1))∧(∀y∈ys,rm ts y≤pl)∧1≤pl∧pl≤1000000∧∀H',Same H H'→Q (.bl true) H'
end N41
namespace L2
noncomputable abbrev tComp1I(wi:TI)(fs:List Nat)(tt:Blk→TT)(te:Blk→TE):TE:=tComp wi 1 fs (fun _=>gName 0) tt te
noncomputable abbrev g2(K:PySem.W.Frag):Blk→TG:=fun _=>gTup K 2 (gCons (gName 0) (gCons (gName 1) gNil))
noncomputable abbrev tComp2(K:PySem.W.Frag)(wi:TI)(fs:List Nat)(tt:Blk→TT)(te:Blk→TE):TE:=tComp wi 2 fs (g2 K) tt te
section
variable {K:PySem.W.Frag} {tail:St} {tt:Blk→TT} {te:Blk→TE} {Q:VK} {H1:Hp} {σ:St} {H:Hp}
theorem rd_compI{wi:TI}{fs:List Nat}:tComp1I wi fs tt te σ H Q=wi σ H (CompTail (none::fs.map fun j=>σ.getD j none) (fun _=>gName 0) tt te Q):=rfl
theorem rd_comp2{wi:TI}{fs:List Nat}:tComp2 K wi fs tt te σ H Q=wi σ H (CompTail (none::none::fs.map fun j=>σ.getD j none) (g2 K) tt te Q):=rfl
theorem same_put{H H':Hp}{p:Addr}{o:HO}(s:Same H H')(h:H p=none):Same H (upd H' p o):=fun b u e=>by
 rw [upd_ne (ne_of_none e h)];exact s b u e
theorem compL_if{a:Addr}{xs:List V}(p:V→Bool)(f:V→V)(hS:SqL K H1 a xs)(hz:xs.length≤sizeLine)(ht:∀b x H QT,x∈xs→Same H1 H→(∀H',Same H H'→QT (p x) H')→tt b (some x::tail) H QT)
 (he:∀b x H Q',x∈xs→p x=true→Same H1 H→(∀H',Same H H'→Q' (f x) H')→te b (some x::tail) H Q')
 (q:∀D H',H1 D=none→Same H1 H'→H' D=some (.lst ((xs.filter p).map f))→Q (.ref D) H'):CompTail (none::tail) (fun _=>gName 0) tt te Q (Itl K a) H1:=by
 intro b D hD
 refine ⟨fun i m ys H=>m=xs.length - i∧i≤xs.length∧ys=((xs.take i).filter p).map f∧H D=some (.lst ys)∧Same H1 H,⟨_,rfl,Nat.zero_le _,rfl,upd_same,same_new hD⟩,?_⟩
 rintro i m ys H ⟨rfl,hi,rfl,hd,sm⟩
 refine ⟨hd,?_⟩
 by_cases hlt:i < xs.length
 · refine .inr ⟨⟨xs,xs[i],sm.seq hS,by simp [hlt]⟩,fun x H3 ⟨e3,ex⟩=>⟨kept0,?_⟩⟩
   subst e3
   have hx:=ex xs (sm.seq hS)
   have hm:=List.mem_of_getElem? hx
   have hl:(((xs.take i).filter p).map f).length≤i:=by
    rw [List.length_map];exact Nat.le_trans (List.length_filter_le _ _) (by rw [List.length_take];omega)
   refine ht b x _ _ hm sm fun H7 s7=>?_
   have htk:(xs.take (i+1)).filter p=(xs.take i).filter p++[x].filter p:=by rw [List.take_add_one,hx,List.filter_append];rfl
   by_cases hp:p x=true
   · rw [if_pos hp]
     refine he b x H7 _ hm hp (sm.trans s7) fun H8 s8=>?_
     have hd8:=(s7.trans s8) _ _ hd
     refine ⟨hd8,by omega,xs.length - (i+1),by omega,rfl,hlt,?_,upd_same,same_put ((sm.trans s7).trans s8) hD⟩
     rw [htk,List.filter_cons_of_pos hp,List.filter_nil,List.map_append];rfl
   · rw [if_neg hp]
     refine ⟨xs.length - (i+1),by omega,rfl,hlt,?_,s7 _ _ hd,sm.trans s7⟩
     rw [htk,List.filter_cons_of_neg hp,List.filter_nil,List.append_nil]
 · have e:i=xs.length:=by omega
   subst e
   refine .inl ⟨⟨xs,sm.seq hS,Nat.le_refl _⟩,q D H hD sm ?_⟩
   rw [hd,List.take_length]
end
end L2
namespace L2
section
variable {X:Cx} {scope:Scope} {x y v:Str} {px py pt pv':Pos} {n i:Nat} {fs:List Nat} {elt iter c:Expr} {pos spos:Pos} {wi:TI} {tt:Blk→TT} {te:Blk→TE}
theorem ps_compI(x:Str)(fs:List Nat)(hN:X.N.Nodup)(hy:X.N[i]?=some v)(hyl:X.env.kindOf v=some .local)(hc:X.calm=true)(hok:compOkB X.N X.env.scope scope [x] fs=true)(hi:PI X (.Name x px) iter wi)(ht:∀b,PT (X.blk scope ([x]++around X.N fs) b) c (tt b))(he:∀b,PE (X.blk scope ([x]++around X.N fs) b) elt (te b))
 (hsw:swapsWith (.ListComp elt [⟨.Name x px,iter,[c],0⟩] scope pos) (some (.Name v pv')) spos.line X.env=pure true:=by rfl)
 (hs:∀x,foldedSetIterable iter X.env x=pure x:=by intro _;rfl):PS X (.Assign [.Name v pv'] (.ListComp elt [⟨.Name x px,iter,[c],0⟩] scope pos) spos) (tAsg (tComp1I wi fs tt te) (gName i)):=
 ps_comp (xs:=[x]) (g:=fun _=>gName 0) (tt:=tt) hN hy hyl hc hok hi (pg_own hok) (fun b=>pts_one (ht b)) he hsw hs
end
end L2
namespace L2
open PySem.W
noncomputable def rMaxL(K:PySem.W.Frag):List V→Hp→VK→Prop:=fun xs H Q=>∃(p:Addr) (is:List Int),xs=[.ref p]∧SqL K H p (is.map V.int)∧is≠[]∧∀v∈is,(∀x∈is,x≤v)→Q (.int v) H
theorem best_gt(val:Nat→Int):∀k,argBest (fun i j=>decide (val i > val j)) k≤k∧∀j,j≤k→val j≤val (argBest (fun i j=>decide (val i > val j)) k):=by
 intro k
 induction k with
 | zero=>exact ⟨Nat.le_refl _,fun j hj=>by rw [Nat.le_zero.mp hj];exact Int.le_refl _⟩
 | succ k ih=>
  unfold argBest
  split
  · rename_i h
    have h:=of_decide_eq_true h
    refine ⟨Nat.le_refl _,fun j hj=>?_⟩
    by_cases e:j=k+1
    · rw [e];exact Int.le_refl _
    · have:=ih.2 j (by omega);omega
  · rename_i h
    have h:¬(val (k+1) > _):=fun z=>h (decide_eq_true z)
    refine ⟨Nat.le_succ_of_le ih.1,fun j hj=>?_⟩
    by_cases e:j=k+1
    · rw [e];omega
    · exact ih.2 j (by omega)
theorem best_lt(val:Nat→Int):∀k,argBest (fun i j=>decide (val i < val j)) k≤k∧∀j,j≤k→val (argBest (fun i j=>decide (val i < val j)) k)≤val j:=by
 intro k
 induction k with
 | zero=>exact ⟨Nat.le_refl _,fun j hj=>by rw [Nat.le_zero.mp hj];exact Int.le_refl _⟩
 | succ k ih=>
  unfold argBest
  split
  · rename_i h
    have h:=of_decide_eq_true h
    refine ⟨Nat.le_refl _,fun j hj=>?_⟩
    by_cases e:j=k+1
    · rw [e];exact Int.le_refl _
    · have:=ih.2 j (by omega);omega
  · rename_i h
    have h:¬(val (k+1) < _):=fun z=>h (decide_eq_true z)
    refine ⟨Nat.le_succ_of_le ih.1,fun j hj=>?_⟩
    by_cases e:j=k+1
    · rw [e];omega
    · exact ih.2 j (by omega)
section
variable {X:Cx}
theorem ints_at{is:List Int}{its:List Value}(r:Vals (is.map V.int) its){i:Nat}{v:Value}(hP:its.toArray[i]?=some v):i < is.length∧∃t,v=Value.int (is.getD i 0) t:=by
 have hlen:=r.length
 rw [List.length_map]at hlen
 have hi:i < is.length:=by
  have:=(Array.getElem?_eq_some_iff.mp hP).1
  rw [List.size_toArray]at this
  omega
 obtain ⟨u,hu,ru⟩:=r.get (i:=i) (x:=V.int (is[i])) (by simp [hi])
 have e:u=v:=by
  have:its[i]?=some v:=by simpa using hP
  rw [hu]at this;exact Option.some.inj this
 subst e
 refine ⟨hi,?_⟩
 rw [List.getD_eq_getElem?_getD,List.getElem?_eq_getElem hi]
 exact ru
theorem call_maxL(hc:X.calm=true):CallR X (.builtin "max") (rMaxL X.K):=by
 intro pins s σ H xs us Q I r h
 obtain ⟨p,is,rfl,hp,hne,q⟩:=h
 obtain ⟨u,rfl,ru⟩:=vals1 r
 cases ru
 obtain ⟨its,r,pl,hz⟩:=I.list hp
 have hlt:p < s.heap.objs.size:=by obtain ⟨o,n,e,_⟩:=pl;exact Heap.lt_size e
 have hlen:=r.length
 rw [List.length_map]at hlen
 have hpos:0 < is.length:=List.length_pos_iff.mpr hne
 have hb:=best_gt (fun i=>is.getD i 0) (is.length - 1)
 refine call_max_walkS (wpAny_pyIter_list pl.isList ⟨s.heap.objs.size,_,_,_,_,_,_,fun i j=>decide (is.getD i 0 > is.getD j 0),rfl,(Walks.list (show X.A.in1.handled=none from I.ok.hd hc) s.heap.objs.size p (Nat.ne_of_lt hlt) its.toArray).toS,⟨⟨_,Heap.get?_push_size _ rfl,rfl,rfl⟩,pl.isList.push _⟩,fun b hb=>?_,by rw [List.size_toArray];omega,CmpOf.ints_gt (fun i=>is.getD i 0) (fun i v hP=>(ints_at r hP).2),fun v s' hP hmv=>?_⟩)
 · show b < (s.heap.push _).objs.size
   rw [Heap.size_push]
   rcases List.mem_cons.mp hb with e | hb
   · rw [e];exact Nat.lt_succ_self _
   · rw [List.mem_singleton.mp hb];exact Nat.lt_succ_of_lt hlt
 · have hk:∀b o,s.heap.get? b=some o→s'.heap.get? b=some o:=fun b o e=>
    hmv.heap b o (fun hI=>absurd (Heap.lt_size e) (by rw [List.mem_singleton.mp hI];exact Nat.lt_irrefl _)) (Heap.get?_push_of_some _ e)
   rw [Moved.eq_with hmv]
   rw [List.size_toArray,← hlen]at hP
   obtain ⟨hi,t,rfl⟩:=ints_at r hP
   refine ⟨V.int _,H,I.kept (t':=s'.toks) hk,⟨t,rfl⟩,q _ ?_ fun x hx=>?_⟩
   · rw [List.getD_eq_getElem?_getD,List.getElem?_eq_getElem hi];exact List.getElem_mem hi
   · obtain ⟨j,hj⟩:=List.mem_iff_getElem?.mp hx
     have hjl:=(List.getElem?_eq_some_iff.mp hj).1
     have:=hb.2 j (by omega)
     rw [show is.getD j 0=x by rw [List.getD_eq_getElem?_getD,hj];rfl]at this
     exact this
end
section
variable {K:PySem.W.Frag} {H:Hp} {Q:VK} {xs:List V}
theorem rd_maxL:rMaxL K xs H Q=∃(p:Addr) (is:List Int),xs=[.ref p]∧SqL K H p (is.map V.int)∧is≠[]∧∀v∈is,(∀x∈is,x≤v)→Q (.int v) H:=rfl
end
end L2
namespace L2
noncomputable def itemsO(v d:Addr):HO:= .ext fun h=>h.IsItemsView v d
noncomputable def Iti(o:Obj)(d:Addr):It:=
 ⟨fun i H=>∃kvs p,H d=some (.frz o (.dK kvs))∧kvs[i]?=some p,fun i H v H'=>∃t k x,v= .ref t∧H t=none∧H'=upd H t (.tup [kV k,x])∧∀kvs,H d=some (.frz o (.dK kvs))→kvs[i]?=some (k,x),
  fun i H=>∃kvs,H d=some (.frz o (.dK kvs))∧kvs.length≤i⟩
section
variable {X:Cx}
noncomputable def rItems:V→List V→Hp→VK→Prop:=fun x vs H Q=>∃a kvs,x= .ref a∧vs=[]∧H a=some (.dK kvs)∧∀v,H v=none→Q (.ref v) (upd H v (itemsO v a))
noncomputable def iView(tv:TE):TI:=fun σ H R=>tv σ H fun x H1=>∃v d kvs,x= .ref v∧H1 v=some (itemsO v d)∧H1 d=some (.dK kvs)∧∀o,R (Iti o d) (upd H1 d (.frz o (.dK kvs)))
end
section
variable {K:PySem.W.Frag} {tail:St} {te:Blk→TE} {Q:VK} {H1:Hp} {σ:St} {H:Hp}
theorem rd_items{x:V}{vs:List V}:rItems x vs H Q=∃a kvs,x= .ref a∧vs=[]∧H a=some (.dK kvs)∧∀v,H v=none→Q (.ref v) (upd H v (itemsO v a)):=rfl
theorem rd_iview{tv:TE}{R:It→Hp→Prop}:iView tv σ H R=tv σ H fun x H1=>∃v d kvs,x= .ref v∧H1 v=some (itemsO v d)∧H1 d=some (.dK kvs)∧∀o,R (Iti o d) (upd H1 d (.frz o (.dK kvs))):=rfl
end
end L2
namespace L2
theorem rd_augN{σ:St}{H:Hp}{D:Ends}{i:Nat}{te:TE}{ti:TIp}:tAug i te ti D σ H=∃x,σ[i]?=some (some x)∧te σ H fun y H1=>ti x y H1 fun z H2=>D.nx (σ.set i (some z)) H2:=rfl
end L2
namespace N41
open L2 N1 N5 N31 N4 N32
theorem sum_in{l:List Int}{M:Int}(hM:0≤M)(h:∀t∈l,0≤t∧t≤M):0≤l.sum∧l.sum≤l.length * M:=by
 induction l with
 | nil=>simp
 | cons x r ih=>
  rw [List.sum_cons,List.length_cons]
  have h1:=h x List.mem_cons_self
  have h2:=ih fun t ht=>h t (List.mem_cons_of_mem _ ht)
  have e:((r.length+1:Nat):Int) * M=r.length * M+M:=by rw [Int.natCast_add,Int.add_mul];simp
  rw [e]
  omega
noncomputable def nmR(c:Int)(k:Nat):List Nat:=List.replicate (1+k % 8) (bc ((c+(k:Int) / 8) % 26))
theorem nmR_name{c:Int}{k:Nat}:nameB (nmR c k)=true:=by
 have hb:bc ((c+(k:Int) / 8) % 26)∈letters:=bc_let
 unfold nmR
 generalize bc ((c+(k:Int) / 8) % 26)=x at hb ⊢
 have hl:1+k % 8≤8:=by omega
 obtain ⟨n,hn⟩:∃n,1+k % 8=n+1:=⟨k % 8,by omega⟩
 rw [hn]at hl ⊢
 unfold nameB
 have e1:(List.replicate (n+1) x).length=n+1:=List.length_replicate ..
 simp only [Bool.and_eq_true,decide_eq_true_eq,e1]
 refine ⟨⟨⟨by omega,by omega⟩,?_⟩,?_⟩
 all_goals first | (rw [List.replicate_succ];unfold headIn;simp [hb];done) | (rw [List.all_eq_true];intro y hy;rw [(List.mem_replicate.mp hy).2];simp [hb];done) | (simp [List.replicate_succ,hb];done) | simp_all
theorem nmR_inj{c:Int}{k k':Nat}(hk:k < 16)(hk':k' < 16)(h:nmR c k=nmR c k'):k=k':=by
 have h1:=congrArg List.length h
 unfold nmR at h1 h
 rw [List.length_replicate,List.length_replicate]at h1
 have h2:bc ((c+(k:Int) / 8) % 26)=bc ((c+(k':Int) / 8) % 26):=by
  rw [← h1,show 1+k % 8=(k % 8)+1 by omega,List.replicate_succ,List.replicate_succ]at h
  exact (List.cons.inj h).1
 have h3:=bc_inj (Int.emod_nonneg _ (by decide)) (Int.lt_of_lt_of_le (Int.emod_lt_of_pos _ (by decide)) (by decide)) (Int.emod_nonneg _ (by decide)) (Int.lt_of_lt_of_le (Int.emod_lt_of_pos _ (by decide)) (by decide)) h2
 omega
noncomputable def nmB(w:Bool)(c:Int)(at':Int)(L:Nat)(k:Nat):List Nat:=if w then nmL (fun j:Nat=>c+5 * (j:Int)) at' L k else nmR c k
noncomputable def nmsB(w:Bool)(c:Int)(at':Int)(L m:Nat):List Str:=(List.range m).map fun k=>tx (nmB w c at' L k)
theorem nmsB_nodup{w:Bool}{c at':Int}{L m:Nat}(h0:0≤at')(h1:at' < L)(hm:m≤16):(nmsB w c at' L m).Nodup:=by
 unfold nmsB List.Nodup
 rw [List.pairwise_map]
 refine List.Pairwise.imp_of_mem (R:=fun a b=>a≠b) ?_ List.nodup_range
 intro a b ha hb hab e
 have ha':=List.mem_range.mp ha
 have hb':=List.mem_range.mp hb
 have e':=T_inj e
 unfold nmB at e'
 cases w with
 | true=>exact hab (nmL_inj h0 h1 (by omega) (by omega) e')
 | false=>exact hab (nmR_inj (by omega) (by omega) e')
theorem nmsB_name{w:Bool}{c at':Int}{L m:Nat}(h1:1≤L)(h2:L≤8):∀y∈nmsB w c at' L m,nameB y.cps.toList=true:=fun y hy=>by
 unfold nmsB at hy
 obtain ⟨k,_,rfl⟩:=List.mem_map.mp hy
 rw [T_list]
 unfold nmB
 cases w with
 | true=>exact nmL_name h1 h2
 | false=>exact nmR_name
noncomputable def sp41_names:Sp:=fun vs H Q _=>∃(i:Int) (m:Nat),vs=[.int i,.int m]∧m≤9∧∀(p:Addr) (ys:List Str) (H':Hp),H p=none→Same H H'→H' p=some (.lst (ys.map V.str))→ys.length≤m→m≤ys.length→ys.Nodup→(∀y∈ys,nameB y.cps.toList=true)→Q (.ref p) H'
noncomputable def sp41_whole:Sp:=fun vs H Q _=>∃i:Int,vs=[.int i]∧Q (.bl true) H
noncomputable def sp41_mixed:Sp:=fun vs H Q _=>∃(c k:Int),vs=[.int c,.int k]∧∀v:Int,0≤v→v < 2147483629→Q (.int v) H
noncomputable def sp41_lroom:Sp:=fun vs H Q _=>∃(c k:Int),vs=[.int c,.int k]∧∀v:Int,1≤v→v≤1000→Q (.int v) H
noncomputable def sp41_lplaces:Sp:=fun vs H Q _=>∃(c w t:Int),vs=[.int c,.int w,.int t]∧1≤w∧w≤1000∧0≤t∧t≤100000∧∀v:Int,w≤v→v≤1000000→Q (.int v) H
theorem fold_rep{x:Nat}:∀(n:Nat) (acc:Array Nat),(List.replicate n #[x]).foldl (· ++·) acc=acc++(List.replicate n x).toArray:=by
 intro n
 induction n with
 | zero=>intro acc;simp
 | succ n ih=>
  intro acc
  rw [List.replicate_succ,List.foldl_cons,ih,List.replicate_succ]
  apply Array.toList_inj.mp
  simp
theorem mul_rep{x:Nat}{n:Int}(h:1≤n):Txt.mul ⟨#[x]⟩ n=tx (List.replicate n.toNat x):=by
 unfold Txt.mul
 rw [if_neg (by omega)]
 by_cases e:n=1
 · subst e;rfl
 · rw [if_neg (by rw [len_one];simp [e])]
   show (⟨_⟩:Str)=⟨_⟩
   congr 1
   rw [fold_rep]
   simp
theorem mul_okR{x:Nat}{n:Int}(h0:0≤n)(h:n≤8):MulOk ⟨#[x]⟩ n:=by
 have hc:n=0∨n=1∨n=2∨n=3∨n=4∨n=5∨n=6∨n=7∨n=8:=by omega
 unfold MulOk
 rw [len_one]
 rcases hc with rfl | rfl | rfl | rfl | rfl | rfl | rfl | rfl | rfl <;> exact ⟨by decide,by decide,by decide+kernel⟩
theorem nmL_s{F:Nat→Int}{at':Int}{j k:Nat}:nmL F at' (j+1) k=nmL F at' j k++[sgn F at' k j]:=by unfold nmL;rw [List.range_succ,List.map_append];rfl
theorem nmL_l{F:Nat→Int}{at':Int}{L k:Nat}:(nmL F at' L k).length=L:=by simp [nmL]
theorem nmL_one{c at':Int}{k:Nat}:nmL (fun j:Nat=>c+5 * (j:Int)) at' 1 k=[bc ((c+(k:Int) * (if at'=0 then 1 else 0)) % 26)]:=by
 rw [nmL_s]
 show []++_=_
 unfold sgn md
 rw [List.nil_append,if_pos rfl]
 congr 3
 by_cases h:at'=0
 · rw [if_pos (by rw [h];rfl),if_pos h];simp
 · rw [if_neg (fun e=>h e.symm),if_neg h];simp
theorem nmL_more{c at':Int}{k j:Nat}:nmL (fun j:Nat=>c+5 * (j:Int)) at' (1+j+1) k=nmL (fun j:Nat=>c+5 * (j:Int)) at' (1+j) k++[bc ((c+5 * (1+(j:Int))+(k:Int) * (if 1+(j:Int)=at' then 1 else 0)) % 36)]:=by
 rw [nmL_s]
 congr 2
 unfold sgn md
 have e:((1+j:Nat):Int)=1+(j:Int):=by omega
 rw [e,if_neg (show ¬(1+j=0) by omega)]
 congr 2
 by_cases h:1+(j:Int)=at'
 · rw [if_pos h,if_pos h];simp
 · rw [if_neg h,if_neg h];simp
theorem nmsB_succ{w:Bool}{c at':Int}{L k:Nat}:nmsB w c at' L (k+1)=nmsB w c at' L k++[tx (nmB w c at' L k)]:=by
 unfold nmsB;rw [List.range_succ,List.map_append];rfl
theorem getD_s{ys:List Str}{k:Nat}(h:k < ys.length):ys[k]?=some (ys.getD k Str.empty):=by rw [List.getD_eq_getElem?_getD,List.getElem?_eq_getElem h];rfl
noncomputable def kvN(ys:List Str)(f:Str→Int):List (Key×V):=ys.map fun y=>(Sum.inr y,V.int (f y))
noncomputable def upF(f:Str→Int)(y:Str)(v:Int):Str→Int:=fun u=>if u=y then v else f u
theorem upF_same{f:Str→Int}{y:Str}{v:Int}:upF f y v y=v:=if_pos rfl
theorem upF_ne{f:Str→Int}{y u:Str}{v:Int}(h:u≠y):upF f y v u=f u:=if_neg h
theorem kvN_val{ys:List Str}{f:Str→Int}{y:Str}(h:y∈ys):valV (kvN ys f) (Sum.inr y)=some (.int (f y)):=by
 unfold kvN
 induction ys with
 | nil=>cases h
 | cons x r ih=>
  rw [List.map_cons]
  by_cases e:x=y
  · subst e;rw [valV_pos rfl]
  · rw [valV_neg (fun z=>e (by injection z))]
    exact ih ((List.mem_cons.mp h).resolve_left fun z=>e z.symm)
theorem kvN_none{ys:List Str}{f:Str→Int}{y:Str}(h:y∉ys):valV (kvN ys f) (Sum.inr y)=none:=by
 unfold kvN
 induction ys with
 | nil=>rfl
 | cons x r ih=>
  rw [List.map_cons,valV_neg (fun z=>h (by injection z with z;rw [z];exact List.mem_cons_self))]
  exact ih fun z=>h (List.mem_cons_of_mem _ z)
theorem kvN_snoc{ys:List Str}{f:Str→Int}{y:Str}{v:Int}(h:y∉ys):putK (kvN ys f) (Sum.inr y) (.int v)=kvN (ys++[y]) (upF f y v):=by
 rw [putK_new _ (kvN_none h)]
 unfold kvN
 rw [List.map_append]
 congr 1
 · refine List.map_congr_left fun x hx=>?_
   rw [upF_ne (fun e=>h (by rw [← e];exact hx))]
 · rw [List.map_cons,upF_same];rfl
theorem kvN_vals{ys:List Str}{f:Str→Int}:(kvN ys f).map (·.2)=(ys.map f).map V.int:=by
 unfold kvN;rw [List.map_map,List.map_map];rfl
theorem kvN_len{ys:List Str}{f:Str→Int}:(kvN ys f).length=ys.length:=by unfold kvN;rw [List.length_map]
noncomputable def tsF(C R:Str→Int)(ys:List Str):List Th:=ys.map fun y=>(y,C y,R y)
theorem tsF_names{C R:Str→Int}{ys:List Str}:(tsF C R ys).map (·.1)=ys:=by
 unfold tsF;rw [List.map_map];exact (List.map_congr_left fun _ _=>rfl).trans (List.map_id ys)
theorem tsF_len{C R:Str→Int}{ys:List Str}:(tsF C R ys).length=ys.length:=by unfold tsF;rw [List.length_map]
theorem tsF_at{C R:Str→Int}{ys:List Str}{i:Nat}(h:i < ys.length):(tsF C R ys)[i]?=some (ys.getD i Str.empty,C (ys.getD i Str.empty),R (ys.getD i Str.empty)):=by
 unfold tsF;rw [List.getElem?_map,getD_s h];rfl
theorem tsF_cst{C R:Str→Int}{ys:List Str}{y:Str}(nd:ys.Nodup)(h:y∈ys):cst (tsF C R ys) y=C y∧rm (tsF C R ys) y=R y:=by
 obtain ⟨i,hi⟩:=List.mem_iff_getElem?.mp h
 have hl:=(List.getElem?_eq_some_iff.mp hi).1
 have e:ys.getD i Str.empty=y:=by rw [List.getD_eq_getElem?_getD,hi];rfl
 have ht:=tsF_at (C:=C) (R:=R) hl
 rw [e]at ht
 have hn:((tsF C R ys).map (·.1)).Nodup:=by rw [tsF_names];exact nd
 exact ⟨cst_at hn ht,rm_at hn ht⟩
theorem rows41{K:PySem.W.Frag}{H:Hp}{D:Addr}{as:List Addr}{ys:List Str}{C R:Str→Int}(hD:H D=some (.lst (as.map V.ref)))(hl:as.length=ys.length)(hm:ys.length≤60)(nd:ys.Nodup)(hn:∀y∈ys,nameB y.cps.toList=true)(hb:∀y∈ys,0≤C y∧C y≤10 ^ 30∧1≤R y∧R y≤1000)
 (hall:∀(i:Nat) (a:Addr),as[i]?=some a→SqT K H a [.str (ys.getD i Str.empty),.int (C (ys.getD i Str.empty)),.int (R (ys.getD i Str.empty))]):RowsAt K H D as (tsF C R ys):=by
 refine ⟨SqL.of hD,by rw [hl,tsF_len],by rw [tsF_len];exact hm,fun i a t h1 h2=>?_,fun t ht=>?_,by rw [tsF_names];exact nd⟩
 · have hi:i < ys.length:=by rw [← tsF_len (C:=C) (R:=R)];exact (List.getElem?_eq_some_iff.mp h2).1
   rw [tsF_at hi]at h2
   cases h2
   exact hall i a h1
 · unfold tsF at ht
   obtain ⟨y,hy,rfl⟩:=List.mem_map.mp ht
   exact ⟨hn y hy,hb y hy⟩
noncomputable def ask1S(ys:List Str)(m:Nat)(c:Int):Str:=ys.getD (c % (m:Int)).toNat Str.empty
noncomputable def ask1(ys:List Str)(m:Nat):V→V
 | .int c=> .str (ask1S ys m c)
 | _=> .non
theorem ask1_list{ys:List Str}{m:Nat}{cs:List Int}:(cs.map V.int).map (ask1 ys m)=(cs.map (ask1S ys m)).map V.str:=by
 rw [List.map_map,List.map_map];rfl
noncomputable def rmV(R:Str→Int):V→V
 | .str s=> .int (R s)
 | _=> .non
theorem rmV_list{R:Str→Int}{zs:List Str}:(zs.map V.str).map (rmV R)=(zs.map R).map V.int:=by
 rw [List.map_map,List.map_map];rfl
end N41
namespace N6
open L2 N1 N5 N4
noncomputable def sfl(p d:Addr)(n:Int):List (Str×V):=putF "rooms" (.ref d) (putF "places" (.int n) (putF "stock" (.ref p) []))
theorem sfl_stock{p d:Addr}{n:Int}:(sfl p d n).lookup ("stock":Str)=some (V.ref p):=by
 unfold sfl
 rw [lookup_putF,if_neg (by decide),lookup_putF,if_neg (by decide),lookup_putF,if_pos rfl]
theorem sfl_places{p d:Addr}{n:Int}:(sfl p d n).lookup ("places":Str)=some (V.int n):=by
 unfold sfl
 rw [lookup_putF,if_neg (by decide),lookup_putF,if_pos rfl]
theorem sfl_rooms{p d:Addr}{n:Int}:(sfl p d n).lookup ("rooms":Str)=some (V.ref d):=by
 unfold sfl
 rw [lookup_putF,if_pos rfl]
noncomputable abbrev Ly:=List (Str×Int)
noncomputable def lyK(ls:Ly):List (Key×V):=ls.map fun x=>(Sum.inr x.1,.int x.2)
noncomputable def lyN(ls:Ly):List Str:=ls.map (·.1)
noncomputable def lyS(ls:Ly):Int:=(ls.map (·.2)).sum
structure ShelfAt(S:Addr)(H:Hp)(q p d:Addr)(n:Int)(ls:Ly):Prop where
 o:∃dx,H q=some (.ins S dx (sfl p d n))
 d:H d=some (.dK (lyK ls))
 nd:(lyN ls).Nodup
theorem ShelfAt.same{S:Addr}{H H':Hp}{q p d:Addr}{n:Int}{ls:Ly}(s:Same H H')(h:ShelfAt S H q p d n ls):ShelfAt S H' q p d n ls:=
 ⟨h.o.imp fun _ e=>s _ _ e,s _ _ h.d,h.nd⟩
structure StockX(K:PySem.W.Frag)(C:Addr)(H:Hp)(p:Addr)(ts:List Th)(d:Addr):Prop where
 ex:∃(dx e:Addr) (kvs:List (Key×V)),e≠d∧H p=some (.ins C dx (flds e))∧H e=some (.dK kvs)∧kvs.map (·.1)=ts.map (fun t=>Sum.inr t.1)∧
  ∀(i:Nat) (t:Th),ts[i]?=some t→∃a,kvs[i]?=some (Sum.inr t.1,.ref a)∧SqT K H a [.int i,.int t.2.1,.int t.2.2]
section
variable {K:PySem.W.Frag} {C S:Addr} {H H':Hp} {p q d:Addr} {ts:List Th} {n:Int} {ls:Ly} {z:Str}
theorem StockX.at(h:StockX K C H p ts d):StockAt K C H p ts:=by
 obtain ⟨dx,e,kvs,_,r⟩:=h.ex
 exact ⟨dx,e,kvs,r⟩
theorem StockX.of(h:StockAt K C H p ts)(hd:H d=none):StockX K C H p ts d:=by
 obtain ⟨dx,e,kvs,h1,h2,r⟩:=h.ex
 exact ⟨dx,e,kvs,ne_of_none h2 hd,h1,h2,r⟩
theorem StockX.same(s:Same H H')(h:StockX K C H p ts d):StockX K C H' p ts d:=by
 obtain ⟨dx,e,kvs,n,h1,h2,h3,h4⟩:=h.ex
 refine ⟨dx,e,kvs,n,s _ _ h1,s _ _ h2,h3,fun i t q=>?_⟩
 obtain ⟨a,e1,e2⟩:=h4 i t q
 exact ⟨a,e1,s.tup e2⟩
theorem SqT.butD{a:Addr}{xs:List V}{kvs:List (Key×V)}(s:SameBut d H H')(hd:H d=some (.dK kvs))(h:SqT K H a xs):SqT K H' a xs:=by
 rcases h with (h | ⟨o,h⟩) | h
 · exact .inl (.inl (s _ _ h (ne_of h hd (by intro z;cases z))))
 · exact .inl (.inr ⟨o,s _ _ h (ne_of h hd (by intro z;cases z))⟩)
 · exact .inr h
theorem SqL.butD{a:Addr}{xs:List V}{kvs:List (Key×V)}(s:SameBut d H H')(hd:H d=some (.dK kvs))(h:SqL K H a xs):SqL K H' a xs:=by
 rcases h with (h | ⟨o,h⟩) | h
 · exact .inl (.inl (s _ _ h (ne_of h hd (by intro z;cases z))))
 · exact .inl (.inr ⟨o,s _ _ h (ne_of h hd (by intro z;cases z))⟩)
 · exact .inr h
theorem StockX.butD{kvs':List (Key×V)}(s:SameBut d H H')(hd:H d=some (.dK kvs'))(h:StockX K C H p ts d):StockX K C H' p ts d:=by
 obtain ⟨dx,e,kvs,n,h1,h2,h3,h4⟩:=h.ex
 refine ⟨dx,e,kvs,n,s _ _ h1 (ne_of h1 hd (by intro z;cases z)),s _ _ h2 n,h3,fun i t q=>?_⟩
 obtain ⟨a,e1,e2⟩:=h4 i t q
 exact ⟨a,e1,SqT.butD s hd e2⟩
theorem StockX.butL{l:Addr}{zs:List V}(s:SameBut l H H')(hl:H l=some (.lst zs))(h:StockX K C H p ts d):StockX K C H' p ts d:=by
 obtain ⟨dx,e,kvs,n,h1,h2,h3,h4⟩:=h.ex
 refine ⟨dx,e,kvs,n,s _ _ h1 (ne_of h1 hl (by intro z;cases z)),s _ _ h2 (ne_of h2 hl (by intro z;cases z)),h3,fun i t q=>?_⟩
 obtain ⟨a,e1,e2⟩:=h4 i t q
 exact ⟨a,e1,SqT.butL s hl e2⟩
theorem ShelfAt.butL{l:Addr}{zs:List V}(s:SameBut l H H')(hl:H l=some (.lst zs))(h:ShelfAt S H q p d n ls):ShelfAt S H' q p d n ls:=
 ⟨h.o.imp fun _ e=>s _ _ e (ne_of e hl (by intro z;cases z)),s _ _ h.d (ne_of h.d hl (by intro z;cases z)),h.nd⟩
theorem lyK_map:(lyK ls).map (·.1)=(lyN ls).map Sum.inr:=by unfold lyK lyN;rw [List.map_map,List.map_map];rfl
theorem lyK_names:((lyK ls).map fun x=>kV x.1)=(lyN ls).map V.str:=by unfold lyK lyN;rw [List.map_map,List.map_map];rfl
theorem lyK_vals:(lyK ls).map (·.2)=(ls.map (·.2)).map V.int:=by unfold lyK;rw [List.map_map,List.map_map];rfl
theorem lyK_mem:(valV (lyK ls) (Sum.inr z)).isSome=decide (z∈lyN ls):=key_mem lyK_map
theorem lyK_put{r:Int}(h:¬z∈lyN ls):putK (lyK ls) (Sum.inr z) (.int r)=lyK (ls++[(z,r)]):=by
 have hv:valV (lyK ls) (Sum.inr z:Key)=none:=by
  have:=lyK_mem (ls:=ls) (z:=z)
  rw [decide_eq_false h]at this
  cases hv:valV (lyK ls) (Sum.inr z:Key) with
  | none=>rfl
  | some v=>rw [hv]at this;cases this
 rw [putK_new _ hv]
 unfold lyK
 rw [List.map_append]
 rfl
noncomputable def lyD(ls:Ly)(z:Str):Ly:=ls.filter fun x=>decide (x.1≠z)
theorem lyK_drop:dropK (lyK ls) (Sum.inr z)=lyK (lyD ls z):=by
 unfold dropK lyK lyD
 rw [List.filter_map]
 congr 1
 refine List.filter_congr fun x _=>?_
 show decide ((Sum.inr x.1:Key)≠Sum.inr z)=decide (x.1≠z)
 exact decide_eq_decide.mpr ⟨fun h e=>h (by rw [e]),fun h e=>h (by injection e)⟩
theorem lyD_names(nd:(lyN ls).Nodup):lyN (lyD ls z)=(lyN ls).erase z:=by
 unfold lyN lyD at *
 rw [List.Nodup.erase_eq_filter nd,List.filter_map]
 congr 1
 refine List.filter_congr fun x _=>?_
 by_cases h:x.1=z
 · simp [h]
 · simp [h]
end
theorem ShelfAt.put{S:Addr}{H H1:Hp}{q p d:Addr}{n:Int}{ls:Ly}{z:Str}{r:Int}(h:ShelfAt S H q p d n ls)(s:Same H H1)(hz:¬z∈lyN ls):ShelfAt S (upd H1 d (.dK (putK (lyK ls) (Sum.inr z) (.int r)))) q p d n (ls++[(z,r)]):=by
 obtain ⟨dx,ho⟩:=h.o
 have h1:=s _ _ ho
 have h2:=s _ _ h.d
 refine ⟨⟨dx,by rw [upd_ne (ne_of h1 h2 (by intro z;cases z))];exact h1⟩,by rw [upd_same,lyK_put hz],?_⟩
 have e:lyN (ls++[(z,r)])=lyN ls++[z]:=by unfold lyN;rw [List.map_append];rfl
 rw [e,List.nodup_append]
 exact ⟨h.nd,by simp,fun a ha b hb e=>hz (by rw [List.mem_singleton.mp hb]at e;rw [← e];exact ha)⟩
theorem ShelfAt.cast{S:Addr}{H:Hp}{q p d:Addr}{n:Int}{ls:Ly}{z:Str}(h:ShelfAt S H q p d n ls):ShelfAt S (upd H d (.dK (dropK (lyK ls) (Sum.inr z)))) q p d n (lyD ls z):=by
 obtain ⟨dx,ho⟩:=h.o
 refine ⟨⟨dx,by rw [upd_ne (ne_of ho h.d (by intro z;cases z))];exact ho⟩,by rw [upd_same,lyK_drop],?_⟩
 rw [lyD_names h.nd]
 exact h.nd.erase z
noncomputable def sp_sinit(S:Addr):Sp:=fun vs H Q _=>∃(q dx p:Addr) (n:Int),vs=[.ref q,.ref p,.int n]∧H q=some (.ins S dx [])∧1≤n∧n≤1000000∧∀H' d,SameBut q H H'→H d=none→ShelfAt S H' q p d n []→Q .non H'
noncomputable def sp_lying(S:Addr):Sp:=fun vs H Q _=>∃(q p d:Addr) (n:Int) (ls:Ly),vs=[.ref q]∧ShelfAt S H q p d n ls∧∀l,H l=none→Q (.ref l) (upd H l (.lst ((lyN ls).map V.str)))
noncomputable def sp_holds(S:Addr):Sp:=fun vs H Q _=>∃(q p d:Addr) (n:Int) (ls:Ly) (z:Str),vs=[.ref q,.str z]∧ShelfAt S H q p d n ls∧Q (.bl (decide (z∈lyN ls))) H
noncomputable def sp_left(S:Addr):Sp:=fun vs H Q _=>∃(q p d:Addr) (n:Int) (ls:Ly),vs=[.ref q]∧ShelfAt S H q p d n ls∧∀H',Same H H'→Q (.int (n - lyS ls)) H'
end N6
namespace N6
open L2 N1 N5 N4
theorem inV_strs{z:Str}{ys:List Str}:inV (.str z) (ys.map V.str)=decide (z∈ys):=by
 unfold inV
 induction ys with
 | nil=>rfl
 | cons y ys ih=>
  rw [List.map_cons,List.any_cons,ih,eqV_str]
  by_cases h:y=z
  · subst h;simp
  · have h':¬z=y:=fun e=>h e.symm
    simp [h,h']
theorem in_go{K:PySem.W.Frag}{H:Hp}{p:Addr}{z:Str}{ys:List Str}{Q:VK}(h:SqL K H p (ys.map V.str))(q:Q (.bl (decide (z∈ys))) H):rIn K false (.str z) (.ref p) H Q:=by
 refine ⟨p,_,rfl,.inl h,rfl,all_strs,?_⟩
 rw [if_neg (by decide),inV_strs]
 exact q
noncomputable def aOf:V→Addr
 | .ref a=>a
 | _=>0
noncomputable def sp_mix:Sp:=fun vs H Q _=>∃c k:Int,vs=[.int c,.int k]∧0≤k∧k≤1000∧∀v:Int,0≤v→Q (.int v) H
end N6
namespace N6
open L2 N1 N5 N4
noncomputable def sp_thingG(K:PySem.W.Frag)(C:Addr):Sp:=fun vs H Q _=>∃(p:Addr) (ts:List Th) (z:Str),vs=[.ref p,.str z]∧StockAt K C H p ts∧(ts.map (·.1)).Nodup∧z∈ts.map (·.1)∧∀(i:Nat) (t:Th),ts[i]?=some t→t.1=z→∀a,SqT K H a [.int i,.int t.2.1,.int t.2.2]→Q (.ref a) H
noncomputable def sp_roomG(K:PySem.W.Frag)(C:Addr):Sp:=fun vs H Q _=>∃(p:Addr) (ts:List Th) (z:Str),vs=[.ref p,.str z]∧StockAt K C H p ts∧(ts.map (·.1)).Nodup∧z∈ts.map (·.1)∧∀(i:Nat) (t:Th),ts[i]?=some t→t.1=z→Q (.int t.2.2) H
noncomputable def sp_putG(K:PySem.W.Frag)(C S:Addr):Sp:=fun vs H Q _=>∃(q p d:Addr) (n:Int) (ls:Ly) (ts:List Th) (z:Str) (r:Int),vs=[.ref q,.str z]∧ShelfAt S H q p d n ls∧StockX K C H p ts d∧(ts.map (·.1)).Nodup∧ls.length≤1000∧
 z∈ts.map (·.1)∧(∀t∈ts,t.1=z→t.2.2=r)∧¬z∈lyN ls∧r≤n - lyS ls∧∀H',SameBut d H H'→ShelfAt S H' q p d n (ls++[(z,r)])→Q .non H'
noncomputable def sp_castG(S:Addr):Sp:=fun vs H Q _=>∃(q p d:Addr) (n:Int) (ls:Ly) (z:Str),vs=[.ref q,.str z]∧ShelfAt S H q p d n ls∧z∈lyN ls∧∀H',SameBut d H H'→ShelfAt S H' q p d n (lyD ls z)→Q .non H'
end N6
namespace L2
open N1 N5
theorem eqV_self{x:V}(h:flatV x=true):eqV x x=true:=by
 cases x with
 | non=>rfl
 | bl b=>cases b <;> rfl
 | int i=>exact beq_self_eq_true i
 | str z=>rw [eqV_str];simp
 | _=>cases h
section
variable {K:PySem.W.Frag} {tail:St} {te:Blk→TE} {Q:VK} {H1:Hp}
noncomputable def OffL(P:V→Hp→Prop):Prop:=∀y H H' l zs,P y H→H l=some (.lst zs)→SameBut l H H'→P y H'
theorem compL_mk{a:Addr}{xs:List V}(P:Nat→V→Hp→Prop)(G:Nat→Prop)(hP:∀i,OffL (P i))(hS:SqL K H1 a xs)(hz:xs.length≤sizeLine)
 (he:∀b i x H Q',xs[i]?=some x→Same H1 H→(∀j,j < i→G j)→(∀y H',Same H H'→P i y H'→G i→Q' y H')→te b (some x::tail) H Q')
 (q:∀D ys H',H1 D=none→Same H1 H'→H' D=some (.lst ys)→ys.length=xs.length→(∀i y,ys[i]?=some y→P i y H')→(∀j,j < xs.length→G j)→Q (.ref D) H'):CompTail (none::tail) (fun _=>gName 0) (fun _=>tYes) te Q (Itl K a) H1:=by
 refine comp_by xs.length (fun b D hD=>⟨fun i ys H=>i≤xs.length∧ys.length=i∧H D=some (.lst ys)∧Same H1 H∧(∀j y,ys[j]?=some y→P j y H)∧∀j,j < i→G j,⟨Nat.zero_le _,rfl,upd_same,same_new hD,fun j y e=>by simp at e,fun j h=>absurd h (Nat.not_lt_zero j)⟩,?_,?_,?_⟩)
 · rintro i ys H ⟨hi,_,h,_⟩
   exact h
 · rintro ys H ⟨_,hl,h,sm,hall,hg⟩
   exact ⟨⟨xs,sm.seq hS,Nat.le_refl _⟩,q D ys H hD sm h hl hall hg⟩
 · rintro i ys H hi ⟨_,hl,h,sm,hall,hg⟩
   refine ⟨⟨xs,xs[i],sm.seq hS,by simp [hi]⟩,fun x H3 ⟨e3,ex⟩=>?_⟩
   subst e3
   refine he b i x _ _ (ex xs (sm.seq hS)) sm hg fun y H4 sm4 py gi=>?_
   have h4:=sm4 _ _ h
   have sb:SameBut D H4 (upd H4 D (.lst (ys++[y]))):=sameBut_upd
   refine compNext h4 (by omega) hi ⟨hi,by rw [List.length_append,hl];rfl,upd_same,fun c o e=>?_,fun j y' e=>?_,fun j hj=>?_⟩
   · rw [upd_ne (ne_of_none e hD)];exact sm4 _ _ (sm _ _ e)
   · by_cases hj:j < ys.length
     · rw [List.getElem?_append_left hj]at e
       exact hP j _ _ _ _ _ (hall j y' e) h fun c o e n=>by rw [upd_ne n];exact sm4 _ _ e
     · rw [List.getElem?_append_right (by omega)]at e
       have hj0:j=i:=by have:=(List.getElem?_eq_some_iff.mp e).1;simp at this;omega
       subst hj0
       rw [show j - ys.length=0 by omega]at e
       cases e
       exact hP j _ _ _ _ _ py h4 sb
   · by_cases e:j=i
     · rw [e];exact gi
     · exact hg j (by omega)
end
end L2
namespace L2
noncomputable abbrev g3(K:PySem.W.Frag):Blk→TG:=fun _=>gTup K 3 (gCons (gName 0) (gCons (gName 1) (gCons (gName 2) gNil)))
noncomputable abbrev tComp3(K:PySem.W.Frag)(wi:TI)(fs:List Nat)(te:Blk→TE):TE:=tComp wi 3 fs (g3 K) (fun _=>tYes) te
section
variable {K:PySem.W.Frag} {tail:St} {te:Blk→TE} {Q:VK} {H1:Hp} {σ:St} {H:Hp}
theorem rd_comp3{wi:TI}{fs:List Nat}:tComp3 K wi fs te σ H Q=wi σ H (CompTail (none::none::none::fs.map fun j=>σ.getD j none) (g3 K) (fun _=>tYes) te Q):=rfl
end
end L2
namespace N12
open L2 N1 N5 N4 N6
noncomputable def sp12_names:Sp:=fun vs H Q _=>∃(i:Int) (m:Nat),vs=[.int i,.int m]∧m≤26∧∀(p:Addr) (ys:List Str) (H':Hp),H p=none→Same H H'→H' p=some (.lst (ys.map V.str))→ys.length≤m→m≤ys.length→ys.Nodup→(∀y∈ys,nameB y.cps.toList=true)→Q (.ref p) H'
end N12
namespace L2
noncomputable def LikeN(K:PySem.W.Frag):Nat→Hp→V→V→Prop
 | 0,_,x,y=>x=y∧flatV x=true
 | n+1,H,x,y=>LikeN K n H x y∨∃a b xs ys,x= .ref a∧y= .ref b∧((SqL K H a xs∧SqL K H b ys)∨(SqT K H a xs∧SqT K H b ys))∧xs.length=ys.length∧∀(i:Nat) (x' y':V),xs[i]?=some x'→ys[i]?=some y'→LikeN K n H x' y'
noncomputable def LikeR(K:PySem.W.Frag)(n:Nat)(H:Hp)(x y:V):Prop:=∃a b xs ys,x= .ref a∧y= .ref b∧((SqL K H a xs∧SqL K H b ys)∨(SqT K H a xs∧SqT K H b ys))∧xs.length=ys.length∧∀(i:Nat) (x' y':V),xs[i]?=some x'→ys[i]?=some y'→LikeN K n H x' y'
theorem LikeN.up{K:PySem.W.Frag}{H:Hp}{n:Nat}{x y:V}(h:LikeN K n H x y):LikeN K (n+1) H x y:=by unfold LikeN;exact .inl h
theorem LikeN.of{K:PySem.W.Frag}{H:Hp}{n:Nat}{x y:V}(h:LikeR K n H x y):LikeN K (n+1) H x y:=by unfold LikeN;exact .inr h
theorem LikeN.flat{K:PySem.W.Frag}{H:Hp}{x:V}(h:flatV x=true):∀{n:Nat},LikeN K n H x x:=by
 intro n
 induction n with
 | zero=>unfold LikeN;exact ⟨rfl,h⟩
 | succ n ih=>exact ih.up
section
variable {X:Cx} {pins:List (Addr×Obj)} {σ:St} {H:Hp} {s:Shared}
theorem items_of{xs ys:List V}{us ws:List Value}{P:V→V→Prop}{R:Value→Value→Prop}(rx:Vals xs us)(ry:Vals ys ws)(hl:xs.length=ys.length)(h:∀(i:Nat) (x y:V),xs[i]?=some x→ys[i]?=some y→P x y)(k:∀x y u w,RelV x u→RelV y w→P x y→R u w):
 ∀j (h1:j < us.toArray.size) (h2:j < ws.toArray.size),R us.toArray[j] ws.toArray[j]:=by
 intro j h1 h2
 have lx:=rx.length
 have ly:=ry.length
 rw [List.size_toArray]at h1 h2
 have hx:j < xs.length:=by omega
 have hy:j < ys.length:=by omega
 obtain ⟨u,hu,ru⟩:=rx.get (i:=j) (x:=xs[j]) (by simp [hx])
 obtain ⟨w,hw,rw'⟩:=ry.get (i:=j) (x:=ys[j]) (by simp [hy])
 have eu:us.toArray[j]=u:=by
  have:=List.getElem?_eq_getElem h1
  rw [this]at hu
  simpa using hu
 have ew:ws.toArray[j]=w:=by
  have:=List.getElem?_eq_getElem h2
  rw [this]at hw
  simpa using hw
 rw [eu,ew]
 exact k _ _ _ _ ru rw' (h j _ _ (List.getElem?_eq_getElem hx) (List.getElem?_eq_getElem hy))
theorem all_true{n:Nat}:((List.range n).all fun _=>true)=true:=by rw [List.all_eq_true];intros;rfl
theorem likeR_rc{n:Nat}{x y:V}{u w:Value}{A:Around}(I:Inv X pins σ H s)(rx:RelV x u)(ry:RelV y w)(h:LikeR X.K n H x y)(hu:A.units < cLine)
 (k:∀x y u w,RelV x u→RelV y w→LikeN X.K n H x y→SeqAt.EqAt A.in1 s u w true):SeqAt.RcAt A s u w true∧SeqAt.RcNeAt A s u w false:=by
 obtain ⟨a,b,xs,ys,rfl,rfl,hq,hl,hall⟩:=h
 cases rx
 cases ry
 rcases hq with ⟨h1,h2⟩ | ⟨h1,h2⟩
 · obtain ⟨us,r1,p1,z1⟩:=I.list h1
   obtain ⟨ws,r2,p2,z2⟩:=I.list h2
   have lx:=r1.length
   have ly:=r2.length
   have he:=items_of r1 r2 hl hall k
   have c1:=SeqAt.RcAt.lists (e:=fun _=>true) p1.isList p2.isList (by simp;omega) hu he
   have c2:=SeqAt.RcNeAt.lists (e:=fun _=>true) p1.isList p2.isList (by simp;omega) hu he
   rw [all_true]at c1 c2
   exact ⟨c1,c2⟩
 · obtain ⟨us,r1,p1,z1⟩:=I.tuple h1
   obtain ⟨ws,r2,p2,z2⟩:=I.tuple h2
   have lx:=r1.length
   have ly:=r2.length
   have he:=items_of r1 r2 hl hall k
   have hsz:us.toArray.size=ws.toArray.size:=by simp;omega
   have c1:=SeqAt.RcAt.tuples (e:=fun _=>true) (show s.heap.IsTuple a us.toArray from p1) (show s.heap.IsTuple b ws.toArray from p2) hu he
   have c2:=SeqAt.RcNeAt.tuples (e:=fun _=>true) (show s.heap.IsTuple a us.toArray from p1) (show s.heap.IsTuple b ws.toArray from p2) hu he
   rw [all_true,hsz,beq_self_eq_true,Bool.and_true]at c1 c2
   exact ⟨c1,c2⟩
theorem likeN_at(I:Inv X pins σ H s):∀(n:Nat) (x y:V) (u w:Value) (A:Around),RelV x u→RelV y w→LikeN X.K n H x y→A.units+n < cLine→SeqAt.EqAt A s u w true:=by
 intro n
 induction n with
 | zero=>
  intro x y u w A rx ry h hu
  unfold LikeN at h
  obtain ⟨rfl,f⟩:=h
  have:=eqAt_V (A:=A) (s:=s) rx ry f f
  rw [show eqV x x=true from eqV_self f]at this
  exact this
 | succ n ih=>
  intro x y u w A rx ry h hu
  unfold LikeN at h
  rcases h with h | h
  · exact ih x y u w A rx ry h (by omega)
  · have c:=likeR_rc I rx ry h (by omega) (fun x y u w r1 r2 k=>ih x y u w A.in1 r1 r2 k (by show A.units+1+n < cLine;omega))
    obtain ⟨a,b,xs,ys,rfl,rfl,_⟩:=h
    cases rx
    cases ry
    by_cases e:a=b
    · subst e;exact SeqAt.EqAt.same _
    · exact SeqAt.EqAt.of_refs e c.1
noncomputable def rEqN(K:PySem.W.Frag)(n:Nat):R2:=fun x y H Q=>LikeR K n H x y∧Q (.bl true) H
noncomputable def rNeN(K:PySem.W.Frag)(n:Nat):R2:=fun x y H Q=>LikeR K n H x y∧Q (.bl false) H
theorem op_eqN{k:Nat}(n:Nat)(hr:Room k X.A)(hn:n≤100:=by decide):OpR X (compareOp .Eq) (rEqN X.K n):=by
 intro pins s σ H x y v u Q I rx ry h
 have hu:X.A.units < cLine:=Nat.lt_of_le_of_lt (by omega) hr.un
 exact (likeR_rc I rx ry h.1 hu (fun x y u w r1 r2 k=>likeN_at I n x y u w X.A.in1 r1 r2 k (by have:=hr.un;show X.A.units+1+n < cLine;omega))).1 X.prog X.w X.xe _ ⟨.bl true,H,I,rfl,h.2⟩
theorem rd_eqN{K:PySem.W.Frag}{H:Hp}{Q:VK}{x y:V}{n:Nat}:rEqN K n x y H Q=(LikeR K n H x y∧Q (.bl true) H):=rfl
theorem rd_neN{K:PySem.W.Frag}{H:Hp}{Q:VK}{x y:V}{n:Nat}:rNeN K n x y H Q=(LikeR K n H x y∧Q (.bl false) H):=rfl
end
end L2
namespace L2
open PySem.W
noncomputable def rMaxV:List V→Hp→VK→Prop:=fun xs H Q=>∃(v d:Addr) (kvs:List (Key×V)) (is:List Int),xs=[.ref v]∧H v=some (viewO v d)∧H d=some (.dK kvs)∧kvs.map (·.2)=is.map V.int∧is≠[]∧∀m∈is,(∀x∈is,x≤m)→Q (.int m) H
section
variable {X:Cx}
theorem rd_maxV{xs:List V}{H:Hp}{Q:VK}:rMaxV xs H Q=∃(v d:Addr) (kvs:List (Key×V)) (is:List Int),xs=[.ref v]∧H v=some (viewO v d)∧H d=some (.dK kvs)∧kvs.map (·.2)=is.map V.int∧is≠[]∧∀m∈is,(∀x∈is,x≤m)→Q (.int m) H:=rfl
end
end L2
namespace N14
open L2 N1 N5 N4 N6 N12 N32
noncomputable abbrev Row:=Str×Bool×List Str
noncomputable def lyDs(ls:Ly)(gone:List Str):Ly:=gone.foldl lyD ls
noncomputable def okG(z:Str):Ly→List Str→Prop
 | _,[]=>True
 | ls,o::r=>o≠z∧o∈lyN ls∧okG z (lyD ls o) r
noncomputable def okRow(R:Str→Int)(n:Int)(ls:Ly)(z:Str)(row:Row):Prop:=row.1=z∧row.2.1=decide (z∈lyN ls)∧okG z ls row.2.2∧(z∉lyN ls→R z≤n - lyS (lyDs ls row.2.2))
noncomputable def stepL(R:Str→Int)(ls:Ly)(z:Str)(gone:List Str):Ly:=if z∈lyN ls then lyDs ls gone else lyDs ls gone++[(z,R z)]
noncomputable def lastL(R:Str→Int):Ly→List (Str×List Str)→Ly
 | ls,[]=>ls
 | ls,(z,g)::r=>lastL R (stepL R ls z g) r
structure BookAt(K:PySem.W.Frag)(H:Hp)(b:Addr)(as gs:List Addr)(rs:List Row):Prop where
 l:SqL K H b (as.map V.ref)
 n:as.length=rs.length
 m:gs.length=rs.length
 t:∀(i:Nat) (a g:Addr) (r:Row),as[i]?=some a→gs[i]?=some g→rs[i]?=some r→SqT K H a [.str r.1,.bl r.2.1,.ref g]∧SqL K H g (r.2.2.map V.str)
theorem BookAt.same{K:PySem.W.Frag}{H H':Hp}{b:Addr}{as gs:List Addr}{rs:List Row}(s:Same H H')(h:BookAt K H b as gs rs):BookAt K H' b as gs rs:=
 ⟨s.seq h.l,h.n,h.m,fun i a g r e1 e2 e3=>⟨s.tup (h.t i a g r e1 e2 e3).1,s.seq (h.t i a g r e1 e2 e3).2⟩⟩
theorem okG_take{z:Str}:∀{ls:Ly} {gone:List Str} {i:Nat} {o:Str},okG z ls gone→gone[i]?=some o→o≠z∧o∈lyN (lyDs ls (gone.take i)):=by
 intro ls gone
 induction gone generalizing ls with
 | nil=>intro i o _ h;simp at h
 | cons x r ih=>
  intro i o h e
  obtain ⟨h1,h2,h3⟩:=h
  cases i with
  | zero=>cases e;exact ⟨h1,h2⟩
  | succ i=>exact ih h3 e
theorem lyDs_succ{ls:Ly}{gone:List Str}{i:Nat}{o:Str}(h:gone[i]?=some o):lyDs ls (gone.take (i+1))=lyD (lyDs ls (gone.take i)) o:=by
 unfold lyDs
 rw [List.take_add_one,h,List.foldl_append];rfl
noncomputable def sp14_casts(K:PySem.W.Frag)(S:Addr):Sp:=fun vs H Q _=>∃(q p d g:Addr) (n:Int) (ls:Ly) (z:Str) (gone:List Str),vs=[.ref q,.str z,.ref g]∧ShelfAt S H q p d n ls∧SqL K H g (gone.map V.str)∧okG z ls gone∧
 ∀H',SameBut d H H'→ShelfAt S H' q p d n (lyDs ls gone)→Q (.bl true) H'
noncomputable def sp14_serves(K:PySem.W.Frag)(C S:Addr):Sp:=fun vs H Q _=>∃(q p d r g:Addr) (n:Int) (ls:Ly) (ts:List Th) (z:Str) (row:Row),vs=[.ref q,.str z,.ref r]∧ShelfAt S H q p d n ls∧StockX K C H p ts d∧(ts.map (·.1)).Nodup∧z∈ts.map (·.1)∧ls.length≤500∧SqT K H r [.str row.1,.bl row.2.1,.ref g]∧SqL K H g (row.2.2.map V.str)∧okRow (rm ts) n ls z row∧
 ∀H',SameBut d H H'→ShelfAt S H' q p d n (stepL (rm ts) ls z row.2.2)→Q (.bl true) H'
theorem rm_of{ts:List Th}{z:Str}{r:Int}(nd:(ts.map (·.1)).Nodup)(hz:z∈ts.map (·.1))(h:∀t∈ts,t.1=z→t.2.2=r):rm ts z=r:=by
 obtain ⟨i,t,ht,rfl⟩:=mem_nth hz
 rw [rm_at nd ht,h t (List.mem_of_getElem? ht) rfl]
theorem lyD_le(ls:Ly)(z:Str):(lyD ls z).length≤ls.length:=List.length_filter_le _ _
theorem lyDs_le(ls:Ly)(g:List Str):(lyDs ls g).length≤ls.length:=by
 unfold lyDs
 induction g generalizing ls with
 | nil=>exact Nat.le_refl _
 | cons x r ih=>exact Nat.le_trans (ih _) (lyD_le _ _)
theorem lyD_mem{ls:Ly}{z u:Str}:u∈lyN (lyD ls z)↔u∈lyN ls∧u≠z:=by
 unfold lyN lyD
 simp only [List.mem_map,List.mem_filter,decide_eq_true_eq]
 constructor
 · rintro ⟨x,⟨h1,h2⟩,rfl⟩;exact ⟨⟨x,h1,rfl⟩,h2⟩
 · rintro ⟨⟨x,h1,rfl⟩,h2⟩;exact ⟨x,⟨h1,h2⟩,rfl⟩
theorem lyDs_mem{ls:Ly}{g:List Str}{u:Str}:u∈lyN (lyDs ls g)↔u∈lyN ls∧u∉g:=by
 unfold lyDs
 induction g generalizing ls with
 | nil=>simp
 | cons x r ih=>
  rw [List.foldl_cons,ih,lyD_mem,List.mem_cons,and_assoc]
  constructor
  · rintro ⟨h1,h2,h3⟩;exact ⟨h1,fun h=>h.elim h2 h3⟩
  · rintro ⟨h1,h2⟩;exact ⟨h1,fun h=>h2 (.inl h),fun h=>h2 (.inr h)⟩
theorem lastL_snoc{R:Str→Int}:∀(xs:List (Str×List Str)) (ls:Ly) (z:Str) (g:List Str),lastL R ls (xs++[(z,g)])=stepL R (lastL R ls xs) z g
 | [],_,_,_=>rfl
 | (_,_)::r,_,_,_=>lastL_snoc r _ _ _
noncomputable def zipG(ys:List Str)(rs:List Row):List (Str×List Str):=ys.zip (rs.map (·.2.2))
noncomputable def stL(R:Str→Int)(ys:List Str)(rs:List Row)(i:Nat):Ly:=lastL R [] ((zipG ys rs).take i)
theorem zipG_at{ys:List Str}{rs:List Row}{i:Nat}{z:Str}{r:Row}(h1:ys[i]?=some z)(h2:rs[i]?=some r):(zipG ys rs)[i]?=some (z,r.2.2):=by
 unfold zipG
 rw [List.getElem?_zip_eq_some]
 exact ⟨h1,by rw [List.getElem?_map,h2];rfl⟩
theorem stL_succ{R:Str→Int}{ys:List Str}{rs:List Row}{i:Nat}{z:Str}{r:Row}(h1:ys[i]?=some z)(h2:rs[i]?=some r):stL R ys rs (i+1)=stepL R (stL R ys rs i) z r.2.2:=by
 unfold stL
 rw [List.take_add_one,zipG_at h1 h2]
 exact lastL_snoc _ _ _ _
theorem stepL_le(R:Str→Int)(ls:Ly)(z:Str)(g:List Str):(stepL R ls z g).length≤ls.length+1:=by
 have h:=lyDs_le ls g
 unfold stepL
 split
 · omega
 · rw [List.length_append];simpa using h
theorem lastL_le(R:Str→Int):∀(xs:List (Str×List Str)) (ls:Ly),(lastL R ls xs).length≤ls.length+xs.length
 | [],ls=>by simp [lastL]
 | (z,g)::r,ls=>by
  have h:=lastL_le R r (stepL R ls z g)
  have h':=stepL_le R ls z g
  simp only [lastL,List.length_cons];omega
theorem stL_le(R:Str→Int)(ys:List Str)(rs:List Row)(i:Nat):(stL R ys rs i).length≤i:=by
 have h:=lastL_le R ((zipG ys rs).take i) []
 rw [List.length_take]at h
 unfold stL
 simp only [List.length_nil]at h
 omega
structure Lawful(R:Str→Int)(n:Int)(ys:List Str)(rs:List Row):Prop where
 len:ys.length=rs.length
 row:∀{i:Nat} {z:Str} {r:Row},ys[i]?=some z→rs[i]?=some r→okRow R n (stL R ys rs i) z r
structure Told(H H':Hp)(l:Addr)(qs:List Addr)(W:Nat→Ly)(n:Nat):Prop where
 L:H' l=some (.lst (qs.map V.ref))
 N:qs.length=n
 d:(l::qs).Nodup
 q:∀(j:Nat) (q:Addr),qs[j]?=some q→H q=none∧H' q=some (.lst ((lyN (W (j+1))).map V.str))
noncomputable def sp14_after(K:PySem.W.Frag)(C:Addr):Sp:=fun vs H Q _=>∃(p a b:Addr) (n:Int) (ts:List Th) (ys:List Str) (as gs:List Addr) (rs:List Row),vs=[.ref p,.ref a,.int n,.ref b]∧StockAt K C H p ts∧(ts.map (·.1)).Nodup∧SqL K H a (ys.map V.str)∧ys.length≤200∧(∀y∈ys,y∈ts.map (·.1))∧(∀y∈ys,rm ts y≤n)∧1≤n∧n≤1000000∧
 BookAt K H b as gs rs∧Lawful (rm ts) n ys rs∧∀l qs H',H l=none→Same H H'→Told H H' l qs (stL (rm ts) ys rs) ys.length→Q (.ref l) H'
theorem Told.same{H H' H1:Hp}{l:Addr}{qs:List Addr}{W:Nat→Ly}{n:Nat}(h:Told H H' l qs W n)(s:Same H' H1):Told H H1 l qs W n:=⟨s _ _ h.L,h.N,h.d,fun j q hj=>⟨(h.q j q hj).1,s _ _ (h.q j q hj).2⟩⟩
theorem Told.step{H H' H1:Hp}{l d x:Addr}{qs:List Addr}{W:Nat→Ly}{n:Nat}{kvs:List (Key×V)}(h:Told H H' l qs W n)(hs:Same H H')(hd:H' d=some (.dK kvs))(sb:SameBut d H' H1)(hH:Same H H1)(hx:H1 x=none):Told H (upd (upd H1 x (.lst ((lyN (W (n+1))).map V.str))) l (.lst ((qs++[x]).map V.ref))) l (qs++[x]) W (n+1):=by
 have hld:l≠d:=fun e=>by have:=h.L;rw [e,hd]at this;cases this
 have hl1:=sb _ _ h.L hld
 have hlx:l≠x:=fun e=>by rw [e,hx]at hl1;cases hl1
 have hqx:∀q∈qs,q≠x∧q≠l∧H1 q=H' q:=fun q hq=>by
  obtain ⟨j,hj⟩:=List.getElem?_of_mem hq
  have h2:=(h.q j q hj).2
  have hqd:q≠d:=fun e=>by rw [e,hd]at h2;cases h2
  have h3:=sb _ _ h2 hqd
  refine ⟨fun e=>(by rw [e,hx]at h3;cases h3),fun e=>(List.nodup_cons.mp h.d).1 (e▸hq),by rw [h3,h2]⟩
 refine ⟨upd_same,by rw [List.length_append,h.N];rfl,?_,?_⟩
 · rw [← List.cons_append,List.nodup_append]
   refine ⟨h.d,List.nodup_cons.mpr ⟨by simp,List.nodup_nil⟩,fun y hy u hu=>?_⟩
   rw [List.mem_singleton]at hu
   rw [hu]
   rcases List.mem_cons.mp hy with e | e
   · rw [e];exact hlx
   · exact (hqx y e).1
 · intro j q hj
   rcases Nat.lt_or_ge j qs.length with h1 | h1
   · rw [List.getElem?_append_left h1]at hj
     obtain ⟨n1,n2,n3⟩:=hqx q (List.mem_of_getElem? hj)
     rw [upd_ne n2,upd_ne n1,n3]
     exact h.q j q hj
   · rw [List.getElem?_append_right h1]at hj
     have e:j - qs.length=0:=by
      rcases Nat.eq_zero_or_pos (j - qs.length) with e | e
      · exact e
      · rw [List.getElem?_eq_none (by simp;omega)]at hj;cases hj
     rw [e]at hj
     cases hj
     have ej:j=n:=by have:=h.N;omega
     subst ej
     refine ⟨?_,by rw [upd_ne hlx.symm];exact upd_same⟩
     cases e2:H x with
     | none=>rfl
     | some o=>rw [hH _ _ e2]at hx;cases hx
theorem new_same{H H':Hp}{x dx:Addr}{o1 o2:HO}(h1:H x=none)(h2:H dx=none)(sb:SameBut x (upd (upd H dx o1) x o2) H'):Same H H':=fun b o e=>by
 have n1:b≠x:=fun h=>by rw [h,h1]at e;cases e
 have n2:b≠dx:=fun h=>by rw [h,h2]at e;cases e
 exact sb _ _ (by rw [upd_ne n1,upd_ne n2];exact e) n1
theorem new_none{H:Hp}{x dx d:Addr}{o1 o2:HO}(h:upd (upd H dx o1) x o2 d=none):H d=none:=by
 by_cases e1:d=x
 · rw [e1,upd_same]at h;cases h
 rw [upd_ne e1]at h
 by_cases e2:d=dx
 · rw [e2,upd_same]at h;cases h
 rw [upd_ne e2]at h;exact h
theorem same_none{H H':Hp}{d:Addr}(s:Same H H')(h:H' d=none):H d=none:=by
 cases e:H d with
 | none=>rfl
 | some o=>rw [s _ _ e]at h;cases h
theorem but_same{H H' H1:Hp}{d:Addr}(s:Same H H')(hd:H d=none)(sb:SameBut d H' H1):Same H H1:=fun b o e=>sb _ _ (s _ _ e) fun h=>by rw [h,hd]at e;cases e
theorem upd_but{H H':Hp}{l:Addr}{o:HO}(s:Same H H')(hl:H l=none):Same H (upd H' l o):=fun b u e=>by
 rw [upd_ne (fun h=>by rw [h,hl]at e;cases e)];exact s _ _ e
structure OkL(R:Str→Int)(ns:List Str)(ls:Ly):Prop where
 nd:(lyN ls).Nodup
 r:∀x∈ls,x.2=R x.1
 s:∀u∈lyN ls,u∈ns
theorem OkL.nil{R:Str→Int}{ns:List Str}:OkL R ns []:=⟨List.nodup_nil,by simp,by simp [lyN]⟩
theorem OkL.drop{R:Str→Int}{ns:List Str}{ls:Ly}{z:Str}(h:OkL R ns ls):OkL R ns (lyD ls z):=
 ⟨by rw [lyD_names h.nd];exact h.nd.erase _,fun x hx=>h.r x (List.mem_filter.mp hx).1,fun u hu=>h.s u (lyD_mem.mp hu).1⟩
theorem OkL.drops{R:Str→Int}{ns:List Str}{ls:Ly}{g:List Str}(h:OkL R ns ls):OkL R ns (lyDs ls g):=by
 unfold lyDs
 induction g generalizing ls with
 | nil=>exact h
 | cons x r ih=>exact ih h.drop
theorem OkL.put{R:Str→Int}{ns:List Str}{ls:Ly}{z:Str}(h:OkL R ns ls)(hz:z∉lyN ls)(hn:z∈ns):OkL R ns (ls++[(z,R z)]):=by
 have e:lyN (ls++[(z,R z)])=lyN ls++[z]:=by unfold lyN;rw [List.map_append];rfl
 refine ⟨?_,?_,?_⟩
 · rw [e,List.nodup_append]
   refine ⟨h.nd,by simp,fun y hy u hu=>?_⟩
   rw [List.mem_singleton]at hu
   rw [hu]
   exact fun e=>hz (e▸hy)
 · intro x hx
   rcases List.mem_append.mp hx with h1 | h1
   · exact h.r x h1
   · rw [List.mem_singleton.mp h1]
 · intro u hu
   rw [e]at hu
   rcases List.mem_append.mp hu with h1 | h1
   · exact h.s u h1
   · rw [List.mem_singleton.mp h1];exact hn
theorem OkL.step{R:Str→Int}{ns:List Str}{ls:Ly}{z:Str}{g:List Str}(h:OkL R ns ls)(hn:z∈ns):OkL R ns (stepL R ls z g):=by
 unfold stepL
 split
 · exact h.drops
 · rename_i hz
   exact h.drops.put (fun hh=>hz (lyDs_mem.mp hh).1) hn
noncomputable def Kp(M:List Addr)(H H':Hp):Prop:=∀b o,b∉M→H b=some o→H' b=some o
theorem Kp.trans{M:List Addr}{H H1 H2:Hp}(h1:Kp M H H1)(h2:Kp M H1 H2):Kp M H H2:=fun b o n e=>h2 b o n (h1 b o n e)
theorem Kp.of{M:List Addr}{H H1:Hp}(h:Same H H1):Kp M H H1:=fun b o _ e=>h b o e
theorem Kp.upd{M:List Addr}{H H1:Hp}{p:Addr}{o:HO}(h:Kp M H H1)(hp:p∈M):Kp M H (upd H1 p o):=fun b u n e=>by
 have hb:b≠p:=fun e2=>n (by rw [e2];exact hp)
 rw [upd_ne hb];exact h b u n e
theorem Kp.same{M:List Addr}{H0 H H1:Hp}(s:Same H0 H)(h:Kp M H H1)(hn:∀p∈M,H0 p=none):Same H0 H1:=fun b o e=>h b o (fun hb=>by rw [hn b hb]at e;cases e) (s b o e)
theorem at_snoc{α:Type}{xs:List α}{y z:α}{i:Nat}(h:(xs++[y])[i]?=some z):(i < xs.length∧xs[i]?=some z)∨(i=xs.length∧z=y):=by
 rcases Nat.lt_or_ge i xs.length with h1 | h1
 · rw [List.getElem?_append_left h1]at h;exact .inl ⟨h1,h⟩
 · rw [List.getElem?_append_right h1]at h
   rcases Nat.eq_zero_or_pos (i - xs.length) with e | e
   · rw [e]at h;cases h;exact .inr ⟨by omega,rfl⟩
   · rw [List.getElem?_eq_none (by simp;omega)]at h;cases h
theorem step_N{R:Str→Int}{ls:Ly}{z:Str}{g:List Str}(h:z∉lyN ls):lyN (stepL R ls z g)=lyN (lyDs ls g)++[z]:=by
 unfold stepL
 rw [if_neg h]
 unfold lyN
 rw [List.map_append];rfl
theorem step_there{R:Str→Int}{ls:Ly}{z:Str}{g:List Str}(h:z∈lyN ls):stepL R ls z g=lyDs ls g:=by
 unfold stepL
 rw [if_pos h]
structure Beh(H:Hp)(l:Addr)(es:List Addr)(W:Nat→Ly)(n:Nat):Prop where
 L:H l=some (.lst (es.map V.ref))
 N:es.length=n
 q:∀(j:Nat) (x:Addr),es[j]?=some x→H x=some (.lst ((lyN (W (j+1))).map V.str))
theorem Told.beh{H H':Hp}{l:Addr}{qs:List Addr}{W:Nat→Ly}{n:Nat}(h:Told H H' l qs W n):Beh H' l qs W n:=⟨h.L,h.N,fun j x e=>(h.q j x e).2⟩
theorem strs_like{K:PySem.W.Frag}{H:Hp}{g g2:Addr}{xs:List Str}(h1:SqL K H g (xs.map V.str))(h2:SqL K H g2 (xs.map V.str)):LikeN K 1 H (.ref g) (.ref g2):=by
 refine LikeN.of ⟨g,g2,_,_,rfl,rfl,.inl ⟨h1,h2⟩,rfl,fun i x y e1 e2=>?_⟩
 rw [e1]at e2
 cases e2
 rw [List.getElem?_map]at e1
 cases e:xs[i]? with
 | none=>rw [e]at e1;cases e1
 | some s=>rw [e]at e1;cases e1;exact LikeN.flat rfl
end N14
namespace L2
structure DefB(P:Program)(w:World)(K:PySem.W.Frag)(mg:Str→Option Value)(base:Heap)(CX:CXT)(k:Nat)(x:Str)(C:Addr)(ps:List Str)(sp:Sp):Prop where
 ex:∃(f:Addr) (fd:FuncData),FnOk P w K mg base CX k f fd ps sp∧Mk K C f∧mg x=some (.ref C)∧Binds K fd ps []∧PySem.W.findCls K (.ref C) (.type "type") "__init__"=some (.val (.ref f))∧PySem.W.keepIn K (.ref f)=true
 sp:PySem.W.specialIn K (.ref C) "__getattribute__"=some (some (.builtin "type.__getattribute__"))
 rd:PySem.W.readsIn K C (.type "type")=true
noncomputable def tCallS(sp:Sp)(EE:St→XK)(t:TA):TE:=fun σ H Q=>t σ H fun vs H1=>sp vs H1 Q (EE σ)
section
variable {X:Cx} {CX:CXT} {k j:Nat} {C:Addr} {ps:List Str} {sp:Sp} {EE:St→XK} {x:Str} {pos apos:Pos} {e o:Expr} {es:List Expr} {t:TA}
theorem pe_initC{pl:Sem Bool}(D:DefB X.prog X.w X.K X.mg X.base CX j x C ps sp)(hr:Room k X.A)(hx:PassesS CX X EE)(he:PE X o (tC (.ref C)))(ha:PA X (e::es) t)(hj:j≤k:=by decide)
 (hst:starEach (e::es) X.env=(false,eval e X.env)::starEach es X.env:=by rfl) (hpl:(backTo pos (starEach es X.env)).any (·.1)=false:=by rfl)
 (ht:eval (.Call (.Attribute o "__init__" apos) (e::es) [] pos) X.env=(do
  let ov ← eval o X.env
  standAt apos.atName
  let (f,first) ← holding [ov] (getMethod ov "__init__" pl)
  callWith pos f first (backTo pos (starEach (e::es) X.env)) (backToKw pos (keywordEach [] X.env))):=by rfl):
 PE X (.Call (.Attribute o "__init__" apos) (e::es) [] pos) (tCallS sp EE t):=by
 obtain ⟨f,fd,F,M,hm,hb,hc,hk⟩:=D.ex
 intro pins s σ H Q I h
 refine PySem.W.methodCall_KW (pl:=pl) (thn (he pins s σ H (fun v H1=>v= .ref C∧t σ H1 fun vs H2=>sp vs H2 Q (EE σ)) I ⟨rfl,h⟩) fun u s1 hq_=>?_) ht
 obtain ⟨x,H1,I1,rx,q⟩:=hq_
 obtain ⟨rfl,q⟩:=q
 obtain rfl:u=Value.ref C:=rx
 refine PySem.W.method_cls I1.kIn D.sp (PySem.W.cls_value I1.kIn D.rd hc rfl ?_)
 have I2:=I1.tok (s1.toks+1)
 exact PySem.W.callWith_K (first:=[]) (h₀:=X.base) I.ok.mod.kin hk (thn (ha pos pins _ σ H1 _ I2 q) fun us s2 ⟨vs,H2,I3,r,q2⟩=>⟨I3.kIn,run_fnS (us:=us) (vs:=vs) (F.mono hj) hr hb hx I3 r q2⟩) hst hpl
theorem rd_callS{σ:St}{H:Hp}{Q:VK}:tCallS sp EE t σ H Q=t σ H fun vs H1=>sp vs H1 Q (EE σ):=rfl
end
end L2
namespace L2
noncomputable def ipM:TIp:=fun x y H Q=>∃i j,x= .int i∧y= .int j∧CMul i j∧Q (.int (i * j)) H
theorem rd_ipM{x y:V}{H:Hp}{Q:VK}:ipM x y H Q=∃i j,x= .int i∧y= .int j∧CMul i j∧Q (.int (i * j)) H:=rfl
end L2
namespace L2
section
variable {X:Cx} {pins:List (Addr×Obj)} {σ:St} {H:Hp} {s:Shared} {a C dx g:Addr} {fs:List (Str×V)} {m:Str} {A:Around} {E:Value→Shared→Prop}
theorem getbound_ok{b:Bool}{Q:Value→Shared→Prop}(I:Inv X pins σ H s)(e:H a=some (.ins C dx fs))(c:Cls X.K C)(k:Meth X.K C m g)(l:fs.lookup m=none)
 (hgf:PySem.W.specialIn X.K (.ref g) "__get__"=some (some (.builtin "function.__get__"))) (ht:PySem.W.takesIn X.K (.ref g)=some false) (hc:PySem.W.copiedNames.contains m=false)
 (h:Q (.ref s.heap.objs.size) {s with heap:=s.heap.push (PySem.W.methodObj (.ref g) (.ref a)),toks:=s.toks+1}):wpAny (model X.prog X.w) A (getAttr (.ref a) m b) Q E s:=by
 obtain ⟨mA,O,r,_,_,_⟩:=ins_get I.hok e
 have hn:mA m=none:=RelO.none_of (by rw [← l];exact r m)
 obtain ⟨od,J,hl⟩:=O.look
 have hK:X.K.In ({s with toks:=s.toks+1}:Shared).heap:=I.kIn
 exact PySem.W.get_bind I.kIn J (PySem.W.plainGet_of (c.get m)).1 (PySem.W.findObj_fn c.hd k.at_ hgf ht hc (by rw [hl,hn])) (PySem.W.plainGet_of (c.get m)).2
  (wpAny_call (PySem.W.fn_get (s:={s with toks:=s.toks+1}) hK (beq_iff_eq.mp k.fn) (PySem.W.handed_on rfl h)))
end
end L2
namespace L2
section
variable {X:Cx} {k:Nat} {f a q:Addr} {fd:FuncData} {ps:List Str} {sp:Sp}
theorem run_bound0{pins:List (Addr×Obj)}{σ:St}{H:Hp}{s:Shared}{Q:VK}{us:List Value}{vs:List V}{E:Value→Shared→Prop}(F:FnOk X.prog X.w X.K X.mg X.base CX0 k f fd ps sp)(hr:Room (k+1) X.A)(hb:Binds X.K fd ps [])
 (I:Inv X pins σ H s) (r:Vals vs us) (hq:s.heap.get? q=some (PySem.W.methodObj (.ref f) (.ref a))) (h:sp (.ref a::vs) H Q E0):wpAny (model X.prog X.w) X.A.in1 (call (.ref q) us) (EP X pins σ Q) E s:=by
 have r':Vals (V.ref a::vs) (Value.ref a::us):= .cons rfl r
 have hl:(Value.ref a::us).length=ps.length:=by rw [← r'.length];exact F.len _ _ _ _ h
 have hb':=hb s (Value.ref a::us) I.kIn (by simpa using hl)
 rw [List.append_nil]at hb'
 refine wpAny_call (ks_codeAny_call_bound (a:=⟨us,[]⟩) hq (codeAny_mono (F.run X.A.in1 X.stack s H ⟨Value.ref a::us,[]⟩ (Value.ref a::us) (V.ref a::vs) Q E0 hr.in1 (Env0.in1 I.env0) hb' r' h) fun r s' hq=>?_))
 cases r with
 | error e=>exact False.elim hq
 | ok fl=>
  cases fl with
  | ret u=>exact I.after hq
  | next=>exact False.elim hq
  | brk=>exact False.elim hq
  | cont=>exact False.elim hq
end
noncomputable def btK(kf:Nat→List Int):Nat→Nat→Bool:=fun i j=>HT.lexLt (kf i) (kf j)
section
variable {X:Cx} {pins:List (Addr×Obj)} {σ:St} {k:Nat} {g a q mo it S:Addr} {fd:FuncData} {ps:List Str} {sp:Sp} {H0:Hp} {xs:List V} {kf:Nat→List Int} {R:Result→Shared→Prop}
theorem Inv.turn1{H:Hp}{s:Shared}{b:Addr}{h':Heap}{t':Nat}(I:Inv X pins σ H s)(fp:FpOk X pins H b)(hk:∀c o,c≠b→s.heap.get? c=some o→h'.get? c=some o):Inv X pins σ H {s with heap:=h',toks:=t'}:=
 I.turned hk fp.1 fp.2.1 fp.2.2.2.1 fp.2.2.2.2.1 fp.2.2.2.2.2
theorem FpOk.at{H H':Hp}{b:Addr}(h:FpOk X pins H b)(hn:H' b=none):FpOk X pins H' b:=⟨hn,h.2⟩
theorem minK_loop(F:FnOk X.prog X.w X.K X.mg X.base CX0 k g fd ps sp)(hr:Room (k+1) X.A)(hb:Binds X.K fd ps [])(hq:SqL X.K H0 a xs)(hai:a≠it)
 (turn:∀i v,xs[i]?=some v→∀H',Same H0 H'→sp [.ref q,v] H' (fun u H''=>Same H' H''∧∃t,u= .ref t∧H'' t=some (.tup ((kf i).map V.int))) E0)
 (hR:∀v u H' s',Same H0 H'→Inv X pins σ H' s'→RelV v u→xs[argBest (btK kf) (xs.length - 1)]?=some v→R (.ok (.ret u)) s')
 (nmi:mo≠it) (nms:mo≠S) (nis:it≠S):
 ∀(r j:Nat) (s:Shared) (H:Hp) (vb:Value) (t:Addr) (c:Nat) (v0:V),xs.length - (j+1)=r→j+1≤xs.length→Inv X pins σ H s→Same H0 H→FpOk X pins H mo→FpOk X pins H it→FpOk X pins H S→
   s.heap.get? mo=some (PySem.W.methodObj (.ref g) (.ref q))→s.heap.get? S=some (seqObj "list" #[vb,.ref t] c)→s.heap.IsListIter it a (j+1)→
   xs[argBest (btK kf) j]?=some v0→RelV v0 vb→H t=some (.tup ((kf (argBest (btK kf) j)).map V.int))→
   codeAny (model X.prog X.w) X.A (.builtin "min.loop" ⟨[.ref it,.ref mo,.ref S],[]⟩) R s:=by
 have hname:(toString "min"++toString ".loop":String)="min.loop":=by decide
 have hh:X.A.in1.handled=none:=hr.hd
 intro r
 induction r with
 | zero=>
  intro j s H vb t c v0 hrr hj I sm fm fi fs gm gS hit hx0 rv0 ht
  obtain ⟨its,rv,p,hz⟩:=I.list (sm.seq hq)
  have hln:=rv.length
  have W:=Walks.list (prog:=X.prog) (w:=X.w) (A:=X.A.in1) hh it a hai its.toArray
  have hsz:its.toArray.size=xs.length:=by rw [List.size_toArray,hln]
  have hin:j+1=xs.length:=by omega
  refine codeAny_builtin PySem.F.entry_min_loop ?_
  rw [Around.under_plainId PySem.F.plain_min_loop _]
  show wpAny _ X.A.in1 (seqItems? (.ref S) >>=_) _ _ _
  refine wpAny_bind (wpAny_seqItems gS rfl ?_)
  show wpAny _ X.A.in1 (tryCatch (pyNext (.ref it)) _ >>=_) _ _ _
  refine wpAny_bind (wpAny_tryCatch (W.done _ _ _ ⟨by rw [hsz,← hin];exact hit,p.isList⟩ fun h' tk' hk'=>?_))
  have hk2:∀b o,b≠it→s.heap.get? b=some o→h'.get? b=some o:=fun b o e=>hk' b o (by simpa using e)
  have I1:Inv X pins σ H {s with heap:=h',toks:=tk'}:=I.turn1 fi hk2
  have gS':=hk2 S _ (Ne.symm nis) gS
  have s1:=Heap.SameBut.update h' S (Obj.mapSeq fun _=>(#[]:Array Value))
  show wpAny _ X.A.in1 (updateSeq S (fun _=>#[]) >>=_) _ _ _
  refine wpAny_bind ?_
  refine wpAny_updateSeq gS' rfl (wpAny_bind (wpAny_letGo (wpAny_pure ?_)))
  refine hR v0 vb H _ sm (I1.turn1 (t':=tk') fs fun b o e e2=>(s1.2 b e).trans e2) rv0 ?_
  rw [show xs.length - 1=j by omega]
  exact hx0
 | succ r ih=>
  intro j s H vb t c v0 hrr hj I sm fm fi fs gm gS hit hx0 rv0 ht
  obtain ⟨its,rv,p,hz⟩:=I.list (sm.seq hq)
  have hln:=rv.length
  have W:=Walks.list (prog:=X.prog) (w:=X.w) (A:=X.A.in1) hh it a hai its.toArray
  have hsz:its.toArray.size=xs.length:=by rw [List.size_toArray,hln]
  have hlt:j+1 < xs.length:=by omega
  refine codeAny_builtin PySem.F.entry_min_loop ?_
  rw [Around.under_plainId PySem.F.plain_min_loop _]
  show wpAny _ X.A.in1 (seqItems? (.ref S) >>=_) _ _ _
  refine wpAny_bind (wpAny_seqItems gS rfl ?_)
  show wpAny _ X.A.in1 (tryCatch (pyNext (.ref it)) _ >>=_) _ _ _
  refine wpAny_bind (wpAny_tryCatch (W.item (j+1) _ _ _ (by rw [hsz];exact hlt) ⟨hit,p.isList⟩ fun v h' tk' hP hst' hk'=>?_))
  have hk2:∀b o,b≠it→s.heap.get? b=some o→h'.get? b=some o:=fun b o e=>hk' b o (by simpa using e)
  have hxj:=List.getElem?_eq_getElem hlt
  obtain ⟨v',hv',rv'⟩:=rv.get hxj
  have hvv:v'=v:=by
   have:its[j+1]?=some v:=by simpa using hP
   rw [hv']at this;exact Option.some.inj this
  subst hvv
  obtain ⟨oI',hoI',hoc,hod⟩:=id hst'.1
  have I1:Inv X pins σ H {s with heap:=h',toks:=tk'}:=I.turn1 fi hk2
  have gS':=hk2 S _ (Ne.symm nis) gS
  have gm':=hk2 mo _ nmi gm
  have I1p:Inv X (pins++[(mo,PySem.W.methodObj (.ref g) (.ref q)),(S,seqObj "list" #[vb,.ref t] c),(it,oI')]) σ H {s with heap:=h',toks:=tk'}:=I1.pins_of fun p hp=>by
   rcases List.mem_append.mp hp with hp | hp
   · exact I1.pin p (List.mem_append_right _ hp)
   · simp only [List.mem_cons,List.not_mem_nil,or_false]at hp
     rcases hp with rfl | rfl | rfl
     · exact ⟨gm',fm.1,fm.2.1,fm.2.2.1,fun v e=>by cases e⟩
     · exact ⟨gS',fs.1,fs.2.1,fs.2.2.1,fun v e=>by cases e⟩
     · exact ⟨hoI',fi.1,fi.2.1,fi.2.2.1,fun v e=>by rw [hod]at e;cases e⟩
  show wpAny _ X.A.in1 (tryCatch (holding [v'] (call (.ref mo) [v'])) _ >>=_) _ _ _
  refine wpAny_bind (wpAny_tryCatch (wpAny_holding (thn (run_bound0 (vs:=[xs[j+1]]) F hr hb I1p (.cons rv' .nil) gm' (turn (j+1) _ hxj H sm)) fun x s2 he=>?_)))
  obtain ⟨y,H2,I2p,ry,sm2,t2,rfl,ht2⟩:=he
  obtain rfl:x=Value.ref t2:=ry
  have P2:=fun p hp=>I2p.pin p (List.mem_append_right _ (List.mem_append_right _ hp))
  have pm:=P2 (mo,PySem.W.methodObj (.ref g) (.ref q)) (by simp)
  have pS:=P2 (S,seqObj "list" #[vb,.ref t] c) (by simp)
  have pI:=P2 (it,oI') (by simp)
  have I2:Inv X pins σ H2 s2:=I2p.pins_of fun p hp=>I2p.pin p (List.mem_append_right _ (List.mem_append_left _ hp))
  have hit2:s2.heap.IsListIter it a (j+1+1):=⟨oI',pI.1,hoc,hod⟩
  have smx:=sm.trans sm2
  have ht':=sm2 _ _ ht
  obtain ⟨us1,r1,p1,_⟩:=I2.tuple (SqT.of ht2)
  obtain ⟨us2,r2,p2,_⟩:=I2.tuple (SqT.of ht')
  have hu:X.A.in1.units < cLine:=Nat.lt_of_le_of_lt (by omega) hr.in1.un
  show wpAny _ X.A.in1 (tryCatch (holding [v',.ref t2] (richCompare .Lt (.ref t2) (.ref t) >>=_)) _ >>=_) _ _ _
  refine wpAny_bind (wpAny_tryCatch (wpAny_holding (wpAny_bind (HT.lt_tupInts p1 p2 (intsAre_of r1) (intsAre_of r2) hu ?_))))
  refine wpAny_bind (wpAny_holding (wpAny_truthy_bool ?_))
  refine wpAny_bind (wpAny_letGo (wpAny_pure ?_))
  have eB:argBest (btK kf) (j+1)=if HT.lexLt (kf (j+1)) (kf (argBest (btK kf) j))=true then j+1 else argBest (btK kf) j:=rfl
  by_cases hb':HT.lexLt (kf (j+1)) (kf (argBest (btK kf) j))=true
  · have s1:=Heap.SameBut.update s2.heap S (Obj.mapSeq fun _=>#[v',.ref t2])
    obtain ⟨c2,hc2⟩:∃c2,(s2.heap.update S (Obj.mapSeq fun _=>#[v',.ref t2])).get? S=some (seqObj "list" #[v',.ref t2] c2):=⟨_,get?_update_seq pS.1 fun _=>#[v',.ref t2]⟩
    rw [if_pos hb']at eB
    simp only [hb',if_true]
    refine wpAny_bind ?_
    refine wpAny_updateSeq pS.1 rfl (wpAny_bind (wpAny_letGo ?_))
    rw [hname]
    have I3:Inv X pins σ H2 {s2 with heap:=s2.heap.update S (Obj.mapSeq fun _=>#[v',.ref t2]),toks:=s2.toks}:=I2.turn1 (fs.at pS.2.1) fun b o e e2=>(s1.2 b e).trans e2
    exact wpAny_pure ⟨plainId_quiet PySem.F.plain_min_loop _,ih (j+1) _ H2 v' t2 c2 _ (by omega) hlt I3 smx (fm.at pm.2.1) (fi.at pI.2.1) (fs.at pS.2.1) ((s1.2 mo nms).trans pm.1) hc2 ⟨oI',(s1.2 it nis).trans pI.1,hoc,hod⟩ (by rw [eB];exact hxj) rv' (by rw [eB];exact ht2)⟩
  · rw [if_neg hb']at eB
    simp only [hb',Bool.false_eq_true,if_false]
    refine wpAny_bind (wpAny_letGo ?_)
    rw [hname]
    exact wpAny_pure ⟨plainId_quiet PySem.F.plain_min_loop _,ih (j+1) s2 H2 vb t c v0 (by omega) hlt I2 smx (fm.at pm.2.1) (fi.at pI.2.1) (fs.at pS.2.1) pm.1 pS.1 hit2 (by rw [eB];exact hx0) rv0 (by rw [eB];exact ht')⟩
end
section
variable {X:Cx} {pins:List (Addr×Obj)} {σ:St} {k:Nat} {g a q mo:Addr} {fd:FuncData} {ps:List Str} {sp:Sp} {H:Hp} {s:Shared} {xs:List V} {kf:Nat→List Int} {Q:VK}
theorem minK_call(F:FnOk X.prog X.w X.K X.mg X.base CX0 k g fd ps sp)(hr:Room (k+1) X.A)(hb:Binds X.K fd ps [])(I:Inv X pins σ H s)(hq:SqL X.K H a xs)(hne:xs≠[])
 (gm:s.heap.get? mo=some (PySem.W.methodObj (.ref g) (.ref q))) (fm:FpOk X pins H mo)
 (turn:∀i v,xs[i]?=some v→∀H',Same H H'→sp [.ref q,v] H' (fun u H''=>Same H' H''∧∃t,u= .ref t∧H'' t=some (.tup ((kf i).map V.int))) E0)
 (hQ:∀v H',Same H H'→xs[argBest (btK kf) (xs.length - 1)]?=some v→Q v H'):
 wpAny (model X.prog X.w) X.A (call (.builtin "min") [.ref a] [(Str.ofString "key",.ref mo)]) (EP X pins σ Q) X.xe s:=by
 have hname:(toString "min"++toString ".loop":String)="min.loop":=by decide
 have hh:X.A.in1.handled=none:=hr.hd
 obtain ⟨its,rv,p,hz⟩:=I.list hq
 have hln:=rv.length
 have hpos:0 < xs.length:=List.length_pos_iff.mpr hne
 have hla:a < s.heap.objs.size:=by obtain ⟨o,n,e,_⟩:=p;exact Heap.lt_size e
 have hlm:mo < s.heap.objs.size:=Heap.lt_size gm
 refine kmk_tree PySem.F.kind_min PySem.F.plain_min PySem.F.entry_min (kmk_min_key _ _) ?_
 show wpAny _ X.A.in1 (Builtin.Builtins.bindParams "min" ["key","default"] 0 ⟨[],[(Str.ofString "key",.ref mo)]⟩ >>=_) _ _ s
 refine wpAny_bind (wpAny_of_eq (show Builtin.Builtins.bindParams "min" ["key","default"] 0 ⟨[],[(Str.ofString "key",.ref mo)]⟩=pure [some (.ref mo),none] from rfl) ?_)
 refine wpAny_bind (wpAny_pure ?_)
 refine wpAny_bind (wpAny_pyIter_list p.isList ?_)
 refine wpAny_bind (wpAny_newList ?_ (Nat.zero_le _))
 rw [hname]
 refine wpAny_pure ⟨plainId_quiet PySem.F.plain_min_loop _,?_⟩
 have hS:(s.heap.push {cls:= .type "list_iterator",data:= .fields #[.ref a,.int 0 0]}).objs.size=s.heap.objs.size+1:=size_push' ..
 generalize hSe:(s.heap.push {cls:= .type "list_iterator",data:= .fields #[.ref a,.int 0 0]}).objs.size=S at hS
 have hai:a≠s.heap.objs.size:=Nat.ne_of_lt hla
 have nmi:mo≠s.heap.objs.size:=Nat.ne_of_lt hlm
 have nms:mo≠S:=by rw [hS];exact Nat.ne_of_lt (Nat.lt_succ_of_lt hlm)
 have nis:s.heap.objs.size≠S:=by rw [hS];exact Nat.ne_of_lt (Nat.lt_succ_self _)
 have k1:∀b o,s.heap.get? b=some o→((s.heap.push {cls:= .type "list_iterator",data:= .fields #[.ref a,.int 0 0]}).push (seqObj "list" #[] 0)).get? b=some o:=fun b o e=>Heap.get?_push_of_some _ (Heap.get?_push_of_some _ e)
 have fi:FpOk X pins H s.heap.objs.size:=I.fpOk (Nat.le_refl _) (I.hok.fresh (Nat.le_refl _))
 have fs:FpOk X pins H S:=I.fpOk (by rw [hS];exact Nat.le_succ _) (I.hok.fresh (by rw [hS];exact Nat.le_succ _))
 have gI:((s.heap.push {cls:= .type "list_iterator",data:= .fields #[.ref a,.int 0 0]}).push (seqObj "list" #[] 0)).get? s.heap.objs.size=some {cls:= .type "list_iterator",data:= .fields #[.ref a,.int 0 0]}:=Heap.get?_push_of_some _ (Heap.get?_push_size _ rfl)
 have gS:((s.heap.push {cls:= .type "list_iterator",data:= .fields #[.ref a,.int 0 0]}).push (seqObj "list" #[] 0)).get? S=some (seqObj "list" #[] 0):=by rw [← hSe];exact Heap.get?_push_size _ rfl
 have gm1:=k1 _ _ gm
 have I1:Inv X pins σ H {s with heap:=(s.heap.push {cls:= .type "list_iterator",data:= .fields #[.ref a,.int 0 0]}).push (seqObj "list" #[] 0),toks:=s.toks}:=I.kept k1
 obtain ⟨its',rv1,p1,_⟩:=I1.list hq
 have hln1:=rv1.length
 have W:=Walks.list (prog:=X.prog) (w:=X.w) (A:=X.A.in1) hh s.heap.objs.size a hai its'.toArray
 have hsz:its'.toArray.size=xs.length:=by rw [List.size_toArray,hln1]
 refine codeAny_builtin PySem.F.entry_min_loop ?_
 rw [Around.under_plainId PySem.F.plain_min_loop _]
 show wpAny _ X.A.in1 (seqItems? (.ref S) >>=_) _ _ _
 refine wpAny_bind (wpAny_seqItems gS rfl ?_)
 show wpAny _ X.A.in1 (tryCatch (pyNext (.ref s.heap.objs.size)) _ >>=_) _ _ _
 refine wpAny_bind (wpAny_tryCatch (W.item 0 _ _ _ (by rw [hsz];exact hpos) ⟨⟨_,gI,rfl,rfl⟩,p1.isList⟩ fun v h' tk' hP hst' hk'=>?_))
 have hk2:∀b o,b≠s.heap.objs.size→((s.heap.push {cls:= .type "list_iterator",data:= .fields #[.ref a,.int 0 0]}).push (seqObj "list" #[] 0)).get? b=some o→h'.get? b=some o:=fun b o e=>hk' b o (by simpa using e)
 have hx0:=List.getElem?_eq_getElem hpos
 obtain ⟨v',hv',rv'⟩:=rv1.get hx0
 have hvv:v'=v:=by
  have:its'[0]?=some v:=by simpa using hP
  rw [hv']at this;exact Option.some.inj this
 subst hvv
 obtain ⟨oI',hoI',hoc,hod⟩:=id hst'.1
 have I2:Inv X pins σ H {s with heap:=h',toks:=tk'}:=I1.turn1 fi hk2
 have gS':=hk2 S _ (Ne.symm nis) gS
 have gm':=hk2 mo _ nmi gm1
 have I2p:Inv X (pins++[(mo,PySem.W.methodObj (.ref g) (.ref q)),(S,seqObj "list" #[] 0),(s.heap.objs.size,oI')]) σ H {s with heap:=h',toks:=tk'}:=I2.pins_of fun p hp=>by
  rcases List.mem_append.mp hp with hp | hp
  · exact I2.pin p (List.mem_append_right _ hp)
  · simp only [List.mem_cons,List.not_mem_nil,or_false]at hp
    rcases hp with rfl | rfl | rfl
    · exact ⟨gm',fm.1,fm.2.1,fm.2.2.1,fun v e=>by cases e⟩
    · exact ⟨gS',fs.1,fs.2.1,fs.2.2.1,fun v e=>by cases e⟩
    · exact ⟨hoI',fi.1,fi.2.1,fi.2.2.1,fun v e=>by rw [hod]at e;cases e⟩
 show wpAny _ X.A.in1 (tryCatch (holding [v'] (call (.ref mo) [v'])) _ >>=_) _ _ _
 refine wpAny_bind (wpAny_tryCatch (wpAny_holding (thn (run_bound0 (vs:=[xs[0]]) F hr hb I2p (.cons rv' .nil) gm' (turn 0 _ hx0 H (Same.refl H))) fun x s2 he=>?_)))
 obtain ⟨y,H2,I3p,ry,sm2,t2,rfl,ht2⟩:=he
 obtain rfl:x=Value.ref t2:=ry
 have P2:=fun p hp=>I3p.pin p (List.mem_append_right _ (List.mem_append_right _ hp))
 have pm:=P2 (mo,PySem.W.methodObj (.ref g) (.ref q)) (by simp)
 have pS:=P2 (S,seqObj "list" #[] 0) (by simp)
 have pI:=P2 (s.heap.objs.size,oI') (by simp)
 have I3:Inv X pins σ H2 s2:=I3p.pins_of fun p hp=>I3p.pin p (List.mem_append_right _ (List.mem_append_left _ hp))
 have s1:=Heap.SameBut.update s2.heap S (Obj.mapSeq fun _=>#[v',.ref t2])
 obtain ⟨c2,hc2⟩:∃c2,(s2.heap.update S (Obj.mapSeq fun _=>#[v',.ref t2])).get? S=some (seqObj "list" #[v',.ref t2] c2):=⟨_,get?_update_seq pS.1 fun _=>#[v',.ref t2]⟩
 show wpAny _ X.A.in1 (updateSeq S (fun _=>#[v',.ref t2]) >>=_) _ _ _
 refine wpAny_bind ?_
 refine wpAny_updateSeq pS.1 rfl ?_
 rw [hname]
 have I4:Inv X pins σ H2 {s2 with heap:=s2.heap.update S (Obj.mapSeq fun _=>#[v',.ref t2]),toks:=s2.toks}:=I3.turn1 (fs.at pS.2.1) fun b o e e2=>(s1.2 b e).trans e2
 refine wpAny_pure ⟨plainId_quiet PySem.F.plain_min_loop _,minK_loop (H0:=H) (kf:=kf) (xs:=xs) (a:=a) F hr hb hq hai turn (fun v u H' s' smH I' ru hv=>?_) nmi nms nis _ 0 _ H2 v' t2 c2 xs[0] rfl hpos I4 sm2 (fm.at pm.2.1) (fi.at pI.2.1) (fs.at pS.2.1) ((s1.2 mo nms).trans pm.1) hc2 ⟨oI',(s1.2 _ nis).trans pI.1,hoc,hod⟩ hx0 rv' ht2⟩
 exact ⟨v,H',I',ru,hQ v H' smH hv⟩
end
structure DefV(P:Program)(w:World)(K:PySem.W.Frag)(mg:Str→Option Value)(base:Heap)(k:Nat)(C:Addr)(m:Str)(ps:List Str)(sp:Sp):Prop where
 ex:∃(f:Addr) (fd:FuncData),FnOk P w K mg base CX0 k f fd ps sp∧Meth K C m f∧Binds K fd ps []∧PySem.W.specialIn K (.ref f) "__get__"=some (some (.builtin "function.__get__"))∧PySem.W.takesIn K (.ref f)=some false
noncomputable def tMinK(K:PySem.W.Frag)(C:Addr)(m:Str)(sp:Sp)(ta:TA)(to:TE):TE:=fun σ H Q=>ta σ H fun vs H1=>to σ H1 fun o H2=>∃(a q dx:Addr) (fs:List (Str×V)) (xs:List V) (kf:Nat→List Int),vs=[.ref a]∧o= .ref q∧H2 q=some (.ins C dx fs)∧fs.lookup m=none∧SqL K H2 a xs∧xs≠[]∧
 (∀i v,xs[i]?=some v→∀H',Same H2 H'→sp [.ref q,v] H' (fun u H''=>Same H' H''∧∃t,u= .ref t∧H'' t=some (.tup ((kf i).map V.int))) E0)∧∀v H',Same H2 H'→xs[argBest (btK kf) (xs.length - 1)]?=some v→Q v H'
section
variable {X:Cx} {k j:Nat} {C:Addr} {ps:List Str} {sp:Sp} {m:Str} {x:Str} {p pos apos kp:Pos} {e o:Expr} {t:TA} {to:TE}
theorem pe_minK(D:DefV X.prog X.w X.K X.mg X.base j C m ps sp)(c:Cls X.K C)(hr:Room k X.A)(hg:Gl X x)(hm:X.mg x=none)(hv:bootBuiltins x=some (.builtin "min"))(ha:PA X [e] t)(ho:PE X o to)(hba:attributeBase o m X.env (eval o X.env)=eval o X.env)(hcn:PySem.W.copiedNames.contains m=false:=by decide+kernel)(hj:j+1≤k:=by decide)(hn:x≠"__name__":=by decide)(hdb:(x==("__debug__":Str))=false:=by decide)
 (he:backTo pos (starEach [e] X.env)=(false,eval e X.env)::backTo pos (starEach [] X.env):=by rfl) (hpl:(backTo pos (starEach [e] X.env)).any (·.1)=false:=by rfl):
 PE X (.Call (.Name x p) [e] [⟨some (Str.ofString "key"),.Attribute o m apos,kp⟩] pos) (tMinK X.K C m sp t to):=by
 obtain ⟨g,fd,F,M,hb,hgf,htk⟩:=D.ex
 intro pins s σ H Q I h
 refine wpAny_Call_Name_kw (ld_blt I hg hm hv ?_ hn hdb)
 refine callWith_kw (thn (ha pos pins s σ H _ I h) fun us s1 hq_=>?_) he hpl
 obtain ⟨vs,H1,I1,r1,q1⟩:=hq_
 refine kws_cons (attr_of hba (thn (ho pins s1 σ H1 _ I1 q1) fun u s2 hq_=>?_))
 obtain ⟨y,H2,I2,ry,a,q,dx,fs,xs,kf,ev,ey,hq,hl,hx,hne,turn,fin⟩:=hq_
 subst ev ey
 obtain rfl:u=Value.ref q:=ry
 obtain ⟨u,rfl,ru⟩:=vals1 r1
 obtain rfl:u=Value.ref a:=ru
 refine getbound_ok I2 hq c M hl hgf htk hcn (kws_nil ?_)
 have I3:Inv X pins σ H2 {s2 with heap:=s2.heap.push (PySem.W.methodObj (.ref g) (.ref q)),toks:=s2.toks+1}:=I2.kept fun b o e=>Heap.get?_push_of_some _ e
 exact minK_call (q:=q) (g:=g) (F.mono (show j≤j from Nat.le_refl j)) (hr.mono hj) hb I3 hx hne (Heap.get?_push_size _ rfl) (I2.fpOk (Nat.le_refl _) (I2.hok.fresh (Nat.le_refl _))) turn fin
theorem rd_minK{K:PySem.W.Frag}{σ:St}{H:Hp}{Q:VK}:tMinK K C m sp t to σ H Q=t σ H fun vs H1=>to σ H1 fun o H2=>∃(a q dx:Addr) (fs:List (Str×V)) (xs:List V) (kf:Nat→List Int),vs=[.ref a]∧o= .ref q∧H2 q=some (.ins C dx fs)∧fs.lookup m=none∧SqL K H2 a xs∧xs≠[]∧
 (∀i v,xs[i]?=some v→∀H',Same H2 H'→sp [.ref q,v] H' (fun u H''=>Same H' H''∧∃t,u= .ref t∧H'' t=some (.tup ((kf i).map V.int))) E0)∧∀v H',Same H2 H'→xs[argBest (btK kf) (xs.length - 1)]?=some v→Q v H':=rfl
end
end L2
namespace N20
open L2 N1 N5 N4 N6 N12 N32 N14
noncomputable def sp20_stream:Sp:=fun vs H Q _=>∃(c:Int) (m:Nat),vs=[.int c,.int m]∧m≤1000∧∀(p:Addr) (xs:List Int) (H':Hp),H p=none→Same H H'→H' p=some (.lst (xs.map V.int))→xs.length=m→(∀x∈xs,0≤x)→Q (.ref p) H'
noncomputable def sp20_names:Sp:=fun vs H Q _=>∃(c:Int) (m:Nat),vs=[.int c,.int m]∧m≤60∧∀(p:Addr) (ys:List Str) (H':Hp),H p=none→Same H H'→H' p=some (.lst (ys.map V.str))→ys.length=m→ys.Nodup→(∀y∈ys,nameB y.cps.toList=true)→Q (.ref p) H'
noncomputable def sp20_rows(K:PySem.W.Frag):Sp:=fun vs H Q _=>∃(a:Addr) (ns:List Int),vs=[.ref a]∧SqL K H a (ns.map V.int)∧ns.length≤63∧
 ∀(r:Addr) (as:List Addr) (ts:List Th) (H':Hp),Same H H'→H' r=some (.lst (as.map V.ref))→RowsAt K H' r as ts→1≤ts.length→Q (.ref r) H'
noncomputable def sp20_places(K:PySem.W.Frag):Sp:=fun vs H Q _=>∃(r:Addr) (c:Int) (as:List Addr) (ts:List Th),vs=[.ref r,.int c]∧RowsAt K H r as ts∧1≤ts.length∧∀(n:Int) (H':Hp),Same H H'→1≤n→n≤1000000→(∀t∈ts,t.2.2≤n)→Q (.int n) H'
noncomputable def sp20_asks(K:PySem.W.Frag):Sp:=fun vs H Q _=>∃(a r:Addr) (ns:List Int) (as:List Addr) (ts:List Th),vs=[.ref a,.ref r]∧SqL K H a (ns.map V.int)∧ns.length≤63∧RowsAt K H r as ts∧1≤ts.length∧
 ∀(p:Addr) (ys:List Str) (H':Hp),Same H H'→H' p=some (.lst (ys.map V.str))→ys.length≤200→(∀y∈ys,y∈ts.map (·.1))→Q (.ref p) H'
noncomputable def rmK(ts:List Th):List (Key×V):=ts.map fun t=>(Sum.inr t.1,.int t.2.2)
noncomputable def sp20_rooms(K:PySem.W.Frag):Sp:=fun vs H Q _=>∃(r:Addr) (as:List Addr) (ts:List Th),vs=[.ref r]∧RowsAt K H r as ts∧∀(e:Addr) (H':Hp),Same H H'→H' e=some (.dK (rmK ts))→Q (.ref e) H'
noncomputable def sp20_same(K:PySem.W.Frag):Sp:=fun vs H Q _=>∃(x y:Addr) (as gs as2 gs2:List Addr) (rs:List N14.Row),vs=[.ref x,.ref y]∧H x=some (.lst (as.map V.ref))∧(∀(i:Nat) a,as[i]?=some a→∃xs,H a=some (.tup xs))∧BookAt K H x as gs rs∧BookAt K H y as2 gs2 rs∧rs.length≤200∧∀H',Same H H'→Q (.bl true) H'
end N20
namespace N71
open L2 N1 N5 N4 N6 N12
theorem valV_drop_same(kvs:List (Key×V))(k:Key):valV (dropK kvs k) k=none:=by
 induction kvs with
 | nil=>rfl
 | cons p r ih=>
  by_cases e:p.1=k
  · have:dropK (p::r) k=dropK r k:=by unfold dropK;rw [List.filter_cons_of_neg (by simp [e])]
    rw [this];exact ih
  · have:dropK (p::r) k=p::dropK r k:=by unfold dropK;rw [List.filter_cons_of_pos (by simp [e])]
    rw [this,valV_neg e];exact ih
theorem valV_dropK{kvs:List (Key×V)}{k j:Key}(n:j≠k):valV (dropK kvs k) j=valV kvs j:=by
 induction kvs with
 | nil=>rfl
 | cons p r ih=>
  by_cases e:p.1=k
  · have h1:dropK (p::r) k=dropK r k:=by unfold dropK;rw [List.filter_cons_of_neg (by simp [e])]
    rw [h1,ih,valV_neg (fun z=>n (by rw [← z,e]))]
  · have h1:dropK (p::r) k=p::dropK r k:=by unfold dropK;rw [List.filter_cons_of_pos (by simp [e])]
    rw [h1]
    by_cases e2:p.1=j
    · rw [valV_pos e2,valV_pos e2]
    · rw [valV_neg e2,valV_neg e2];exact ih
structure TwA where
 st:Addr
 si:Addr
 ro:Addr
 he:Addr
 la:Addr
 so:Addr
 en:Addr
 fi:Addr
structure TwS where
 zs:List Int
 R:List Str
 kh:List (Key×V)
 kl:List (Key×V)
 ks:List (Key×V)
 es:List V
 ff:List Int
 pd:Int
noncomputable def own(t:Addr)(x:TwA):List Addr:=[t,x.ro,x.he,x.la,x.so,x.en,x.fi]
noncomputable def pre(zs:List Int)(i:Nat):Int:=(zs.take i).sum
noncomputable def f1(x:TwA):List (Str×V):=putF (Str.ofString "sizes") (.ref x.si) (putF (Str.ofString "stock") (.ref x.st) [])
noncomputable def f3(x:TwA):List (Str×V):=putF (Str.ofString "late") (.ref x.la) (putF (Str.ofString "held") (.ref x.he) (putF (Str.ofString "row") (.ref x.ro) (f1 x)))
noncomputable def f6(x:TwA):List (Str×V):=putF (Str.ofString "paid") (.int 0) (putF (Str.ofString "finds") (.ref x.fi) (putF (Str.ofString "entries") (.ref x.en) (putF (Str.ofString "store") (.ref x.so) (f3 x))))
end N71
namespace L2
section
variable {K:PySem.W.Frag} {σ:St} {H:Hp} {D:Ends} {Q:VK}
theorem rd_fldaug{ta tv:TE}{rd:V→V→Hp→VK→Prop}{f:Str}:sFldAug K ta tv rd f D σ H=ta σ H fun x H1=>∃a C dx fs v,x= .ref a∧H1 a=some (.ins C dx fs)∧Cls K C∧NoAttr K C f∧fs.lookup f=some v∧
 tv σ H1 fun y H2=>rd v y H2 fun z H3=>∃dx' fs',H3 a=some (.ins C dx' fs')∧fs'.length < 1000∧D.nx σ (upd H3 a (.ins C dx' (putF f z fs'))):=rfl
end
end L2
namespace L2
theorem inV_texts{z:Str}{ys:List Str}:inV (.str z) (ys.map V.str)=decide (z∈ys):=by
 unfold inV
 induction ys with
 | nil=>rfl
 | cons y ys ih=>
  rw [List.map_cons,List.any_cons,ih,eqV_str]
  by_cases h:y=z
  · subst h;simp
  · have h':¬z=y:=fun e=>h e.symm
    simp [h,h']
theorem ninT_go{K:PySem.W.Frag}{H:Hp}{p:Addr}{z:Str}{ys:List Str}{Q:VK}(h:SqL K H p (ys.map V.str))(q:Q (.bl (!decide (z∈ys))) H):rIn K true (.str z) (.ref p) H Q:=by
 refine ⟨p,_,rfl,.inl h,rfl,all_strs,?_⟩
 rw [if_pos rfl,inV_texts]
 exact q
end L2
namespace N53
open L2 N1 N5
theorem put_both{kvs:List (Key×V)}{ks:List Str}{z:Str}{v:V}(h:kvs.map (·.1)=ks.map Sum.inr):(putK kvs (Sum.inr z) v).map (·.1)=(if z∈ks then ks else ks++[z]).map Sum.inr:=by
 have hm:=key_mem (z:=z) h
 by_cases hz:z∈ks
 · rw [if_pos hz,← h]
   unfold putK
   rw [valV_any,hm,decide_eq_true hz,if_pos rfl,List.map_map]
   refine List.map_congr_left fun e _=>?_
   show (if e.1=Sum.inr z then (e.1,v) else e).1=e.1
   split <;> rfl
 · rw [if_neg hz,putK_new v (by rw [decide_eq_false hz]at hm;simpa using hm),List.map_append,List.map_append,h]
   rfl
end N53
namespace L2
noncomputable def rOr(r1 r2:R2):R2:=fun x y H Q=>r1 x y H Q∨r2 x y H Q
theorem op_orR{X:Cx}{f:Value→Value→Sem Value}{r1 r2:R2}(h1:OpR X f r1)(h2:OpR X f r2):OpR X f (rOr r1 r2):=by
 intro pins s σ H x y v u Q I rx ry h
 rcases h with h | h
 · exact h1 pins s σ H x y v u Q I rx ry h
 · exact h2 pins s σ H x y v u Q I rx ry h
theorem rd_orR{r1 r2:R2}{x y:V}{H:Hp}{Q:VK}:rOr r1 r2 x y H Q=(r1 x y H Q∨r2 x y H Q):=rfl
end L2
namespace N18
open L2 N1 N5 N4 N6 N12 N32 N14
end N18
namespace N25
open L2 N1 N5 N4 N6 N12 N32 N14 N20
noncomputable def hgo(R:Str→Int)(n need:Int):Nat→List Str→List Str→List Str→List Str×List Str×List Str
 | 0,L,D,w=>(L,D,w)
 | _+1,[],D,w=>([],D,w)
 | k+1,f::r,D,w=>if need≤n - N41.sm R (f::r) then (f::r,D,w) else if f∈D then hgo R n need k (r++[f]) (D.erase f) w else hgo R n need k r D (w++[f])
noncomputable def hfin(R:Str→Int)(n need:Int)(L D w:List Str):List Str×List Str×List Str:=hgo R n need (L.length+D.length) L D w
noncomputable def mkD(D:List Str)(z:Str):List Str:=if z∈D then D else D++[z]
noncomputable def hask(R:Str→Int)(n:Int)(s:List Str×List Str)(z:Str):(List Str×List Str)×N14.Row:=
 if z∈s.1 then ((s.1,mkD s.2 z),(z,true,[])) else (((hfin R n (R z) s.1 s.2 []).1++[z],mkD (hfin R n (R z) s.1 s.2 []).2.1 z),(z,false,(hfin R n (R z) s.1 s.2 []).2.2))
noncomputable def hst(R:Str→Int)(n:Int)(ys:List Str)(i:Nat):List Str×List Str:=(ys.take i).foldl (fun s z=>(hask R n s z).1) ([],[])
noncomputable def hrow(R:Str→Int)(n:Int)(ys:List Str)(i:Nat):N14.Row:=(hask R n (hst R n ys i) (ys.getD i Str.empty)).2
noncomputable def hfl(p od md:Addr)(n:Int):List (Str×V):=putF "marked" (.ref md) (putF "order" (.ref od) (putF "places" (.int n) (putF "stock" (.ref p) [])))
theorem hfl_stock{p od md:Addr}{n:Int}:(hfl p od md n).lookup ("stock":Str)=some (V.ref p):=by
 unfold hfl
 rw [lookup_putF,if_neg (by decide),lookup_putF,if_neg (by decide),lookup_putF,if_neg (by decide),lookup_putF,if_pos rfl]
theorem hfl_places{p od md:Addr}{n:Int}:(hfl p od md n).lookup ("places":Str)=some (V.int n):=by
 unfold hfl
 rw [lookup_putF,if_neg (by decide),lookup_putF,if_neg (by decide),lookup_putF,if_pos rfl]
theorem hfl_order{p od md:Addr}{n:Int}:(hfl p od md n).lookup ("order":Str)=some (V.ref od):=by
 unfold hfl
 rw [lookup_putF,if_neg (by decide),lookup_putF,if_pos rfl]
theorem hfl_marked{p od md:Addr}{n:Int}:(hfl p od md n).lookup ("marked":Str)=some (V.ref md):=by
 unfold hfl
 rw [lookup_putF,if_pos rfl]
theorem inr_ne'{y z:Str}(h:y≠z):(Sum.inr y:Key)≠Sum.inr z:=fun e=>h (by injection e)
theorem sm_perm{f:Str→Int}:∀{L M:List Str},L.Perm M→N41.sm f L=N41.sm f M:=by
 intro L M h
 induction h with
 | nil=>rfl
 | cons x _ ih=>rw [N41.sm_cons,N41.sm_cons,ih]
 | swap x y l=>rw [N41.sm_cons,N41.sm_cons,N41.sm_cons,N41.sm_cons];omega
 | trans _ _ a b=>rw [a,b]
theorem okl_sum{R:Str→Int}{ns:List Str}:∀{ls:Ly},(∀x∈ls,x.2=R x.1)→lyS ls=N41.sm R (lyN ls)
 | [],_=>rfl
 | x::r,h=>by
  have ih:=okl_sum (R:=R) (ns:=ns) (ls:=r) fun y hy=>h y (List.mem_cons_of_mem _ hy)
  have h1:=h x (List.mem_cons_self ..)
  unfold lyS at ih ⊢
  unfold lyN at ih ⊢
  rw [List.map_cons,List.sum_cons,List.map_cons,N41.sm_cons,ih,h1]
end N25
namespace N25
open L2 N1 N5 N4 N6 N12 N32 N14 N20
theorem kp_of_but{M:List Addr}{a:Addr}{H H':Hp}(s:SameBut a H H')(h:a∈M):Kp M H H':=fun b o n e=>s b o e (fun e2=>n (e2▸h))
theorem kp_none{M:List Addr}{H H':Hp}{b:Addr}(k:Kp M H H')(hb:b∉M)(h:H' b=none):H b=none:=by
 cases e:H b with
 | none=>rfl
 | some o=>rw [k b o hb e]at h;cases h
theorem kp_new{M:List Addr}{H H':Hp}{w:Addr}{o:HO}(k:Kp M H H')(hw:H w=none):Kp M H (upd H' w o):=fun b u n e=>by
 rw [upd_ne (fun h=>by rw [h,hw]at e;cases e)];exact k b u n e
theorem nd_len{L M:List Str}(h:L.Nodup)(hs:∀z∈L,z∈M):L.length≤M.length:=by
 induction L generalizing M with
 | nil=>exact Nat.zero_le _
 | cons x r ih=>
  obtain ⟨hx,hr⟩:=List.nodup_cons.mp h
  have hm:=hs x (List.mem_cons_self ..)
  have:=ih (M:=M.erase x) hr fun z hz=>(List.mem_erase_of_ne (fun e=>hx (by rw [← e];exact hz))).mpr (hs z (List.mem_cons_of_mem _ hz))
  rw [List.length_erase_of_mem hm]at this
  have hp:0 < M.length:=List.length_pos_of_mem hm
  rw [List.length_cons]
  omega
end N25
namespace NR
open L2 N1 N5 N4 N6 N12 N32 N14 N20 N18 N25
structure RuleT where
 C:Addr
 St:Type
 At:Hp→List Addr→Addr→Addr→Int→St→Prop
 asked:Int→St→Str→St
 pick:Int→St→List Str→St×Str
 gone:Int→St→Str→St
 came:Int→St→Str→St
 inv:List Str→Int→St→List Str→Prop
 mid:List Str→Int→Str→St→List Str→Prop
 dep:∀{H H':Hp} {M:List Addr} {q p:Addr} {n:Int} {s:St},(∀m∈M,∀o,H m=some o→H' m=some o)→At H M q p n s→At H' M q p n s
 live:∀{H:Hp} {M:List Addr} {q p:Addr} {n:Int} {s:St},At H M q p n s→∀m∈M,H m≠none
 obj:∀{H:Hp} {M:List Addr} {q p:Addr} {n:Int} {s:St},At H M q p n s→∃dx fs,H q=some (.ins C dx fs)∧fs.lookup ("stock":Str)=some (.ref p)∧fs.lookup ("places":Str)=some (.int n)∧fs.lookup ("asked":Str)=none∧fs.lookup ("choice":Str)=none∧fs.lookup ("gone":Str)=none∧fs.lookup ("came":Str)=none∧fs.lookup ("nests":Str)=none
 i_hit:∀{ns:List Str} {n:Int} {s:St} {l:List Str} {z:Str},inv ns n s l→z∈ns→z∈l→inv ns n (asked n s z) l
 i_mid:∀{ns:List Str} {n:Int} {s:St} {l:List Str} {z:Str},inv ns n s l→z∈ns→z∉l→mid ns n z (asked n s z) l
 i_pick:∀{ns:List Str} {n:Int} {s:St} {l:List Str} {z:Str},mid ns n z s l→l≠[]→(pick n s l).2∈l∧mid ns n z (gone n (pick n s l).1 (pick n s l).2) (l.erase (pick n s l).2)
 i_came:∀{ns:List Str} {n:Int} {s:St} {l:List Str} {z:Str},mid ns n z s l→z∈ns→z∉l→inv ns n (came n s z) (l++[z])
 cnt:St→Nat:=fun _=>0
 c_ask:∀n s z,cnt (asked n s z)≤cnt s+1:=by exact fun _ _ _=>Nat.zero_le _
 c_pick:∀n s l,cnt (pick n s l).1≤cnt s:=by exact fun _ _ _=>Nat.zero_le _
 c_gone:∀n s z,cnt (gone n s z)≤cnt s:=by exact fun _ _ _=>Nat.zero_le _
 c_came:∀n s z,cnt (came n s z)≤cnt s:=by exact fun _ _ _=>Nat.zero_le _
noncomputable def gfin(T:RuleT)(R:Str→Int)(n need:Int):Nat→T.St→List Str→List Str→T.St×List Str×List Str
 | 0,s,l,w=>(s,l,w)
 | k+1,s,l,w=>if need≤n - N41.sm R l then (s,l,w) else gfin T R n need k (T.gone n (T.pick n s l).1 (T.pick n s l).2) (l.erase (T.pick n s l).2) (w++[(T.pick n s l).2])
noncomputable def gf(T:RuleT)(R:Str→Int)(n need:Int)(s:T.St)(l w:List Str):T.St×List Str×List Str:=gfin T R n need l.length s l w
section
variable {T:RuleT} {R:Str→Int} {n need:Int} {s:T.St} {l w ns:List Str} {z:Str}
theorem gf_end(h:need≤n - N41.sm R l):gf T R n need s l w=(s,l,w):=by
 unfold gf
 cases hk:l.length with
 | zero=>rfl
 | succ k=>
  show (if _ then _ else _)=_
  rw [if_pos h]
theorem gf_go(h:¬need≤n - N41.sm R l)(hp:(T.pick n s l).2∈l):gf T R n need s l w=gf T R n need (T.gone n (T.pick n s l).1 (T.pick n s l).2) (l.erase (T.pick n s l).2) (w++[(T.pick n s l).2]):=by
 unfold gf
 have hl:=List.length_erase_of_mem hp
 have h0:0 < l.length:=List.length_pos_of_mem hp
 rw [show l.length=(l.erase (T.pick n s l).2).length+1 by omega]
 show (if _ then _ else _)=_
 rw [if_neg h]
theorem gf_pos:∀(k:Nat) (s:T.St) (l w:List Str),l.length=k→T.mid ns n z s l→need≤n→T.mid ns n z (gf T R n need s l w).1 (gf T R n need s l w).2.1∧need≤n - N41.sm R (gf T R n need s l w).2.1∧(∀u∈(gf T R n need s l w).2.1,u∈l)∧(l.Nodup→(gf T R n need s l w).2.1.Nodup)∧(gf T R n need s l w).2.1.length≤l.length:=by
 intro k
 induction k with
 | zero=>
  intro s l w hk hm hn
  have hL:l=[]:=List.length_eq_zero_iff.mp hk
  subst hL
  have he:need≤n - N41.sm R []:=by rw [N41.sm_nil];omega
  rw [gf_end he]
  exact ⟨hm,he,fun z hz=>hz,id,Nat.le_refl _⟩
 | succ k ih=>
  intro s l w hk hm hn
  by_cases he:need≤n - N41.sm R l
  · rw [gf_end he]
    exact ⟨hm,he,fun z hz=>hz,id,Nat.le_refl _⟩
  · have hne:l≠[]:=fun e=>by rw [e]at hk;cases hk
    obtain ⟨hp,hm2⟩:=T.i_pick hm hne
    rw [gf_go he hp]
    have hl:=List.length_erase_of_mem hp
    obtain ⟨a,b,c,d,e⟩:=ih _ _ (w++[(T.pick n s l).2]) (by omega) hm2 hn
    exact ⟨a,b,fun u hu=>List.mem_of_mem_erase (c u hu),fun hnd=>d (hnd.erase _),by omega⟩
end
noncomputable def gask(T:RuleT)(R:Str→Int)(n:Int)(s:T.St×List Str)(z:Str):(T.St×List Str)×N14.Row:=
 if z∈s.2 then ((T.asked n s.1 z,s.2),(z,true,[]))
 else ((T.came n (gf T R n (R z) (T.asked n s.1 z) s.2 []).1 z,(gf T R n (R z) (T.asked n s.1 z) s.2 []).2.1++[z]),(z,false,(gf T R n (R z) (T.asked n s.1 z) s.2 []).2.2))
noncomputable def gst(T:RuleT)(R:Str→Int)(n:Int)(s0:T.St)(ys:List Str)(i:Nat):T.St×List Str:=(ys.take i).foldl (fun s z=>(gask T R n s z).1) (s0,[])
noncomputable def grow(T:RuleT)(R:Str→Int)(n:Int)(s0:T.St)(ys:List Str)(i:Nat):N14.Row:=(gask T R n (gst T R n s0 ys i) (ys.getD i Str.empty)).2
noncomputable def grows(T:RuleT)(R:Str→Int)(n:Int)(s0:T.St)(ys:List Str)(i:Nat):List N14.Row:=(List.range i).map (grow T R n s0 ys)
section
variable {T:RuleT} {R:Str→Int} {n:Int} {s0:T.St} {ys ns:List Str} {i:Nat} {z:Str}
theorem gst_succ(h:ys[i]?=some z):gst T R n s0 ys (i+1)=(gask T R n (gst T R n s0 ys i) z).1:=by
 unfold gst
 rw [List.take_add_one,h,List.foldl_append];rfl
theorem grow_at(h:ys[i]?=some z):grow T R n s0 ys i=(gask T R n (gst T R n s0 ys i) z).2:=by
 unfold grow
 rw [List.getD_eq_getElem?_getD,h];rfl
theorem grows_len:(grows T R n s0 ys i).length=i:=by unfold grows;rw [List.length_map,List.length_range]
theorem mem_eq{u v:Str}{l:List Str}(e:u=v)(h:u∈l):v∈l:=e▸h
structure GI(T:RuleT)(ns:List Str)(n:Int)(s:T.St×List Str):Prop where
 i:T.inv ns n s.1 s.2
 nd:s.2.Nodup
 s:∀u∈s.2,u∈ns
theorem GI.ask{s:T.St×List Str}(h:GI T ns n s)(hz:z∈ns)(hR:R z≤n):GI T ns n (gask T R n s z).1:=by
 unfold gask
 split
 · rename_i hm
   exact ⟨T.i_hit h.i hz hm,h.nd,h.s⟩
 · rename_i hm
   obtain ⟨a,b,c,d,e⟩:=gf_pos (R:=R) _ _ _ [] rfl (T.i_mid h.i hz hm) hR
   have hm2:z∉(gf T R n (R z) (T.asked n s.1 z) s.2 []).2.1:=fun hh=>hm (c z hh)
   refine ⟨T.i_came a hz hm2,?_,fun u hu=>?_⟩
   · show ((gf T R n (R z) (T.asked n s.1 z) s.2 []).2.1++[z]).Nodup
     rw [List.nodup_append]
     refine ⟨d h.nd,by simp,fun y hy u hu e=>hm2 (mem_eq (e.trans (List.mem_singleton.mp hu)) hy)⟩
   · rcases List.mem_append.mp hu with hu | hu
     · exact h.s u (c u hu)
     · rw [List.mem_singleton.mp hu];exact hz
theorem gst_inv(h0:T.inv ns n s0 [])(hin:∀y∈ys,y∈ns)(hR:∀y∈ys,R y≤n):∀i,i≤ys.length→GI T ns n (gst T R n s0 ys i)
 | 0,_=>⟨h0,List.nodup_nil,by simp [gst]⟩
 | i+1,h=>by
  have hz:=List.getElem?_eq_getElem (show i < ys.length by omega)
  have hm:=List.mem_of_getElem? hz
  rw [gst_succ hz]
  exact (gst_inv h0 hin hR i (by omega)).ask (hin _ hm) (hR _ hm)
end
theorem gfin_cnt{T:RuleT}{R:Str→Int}{n need:Int}:∀(k:Nat) (s:T.St) (l w:List Str),T.cnt (gfin T R n need k s l w).1≤T.cnt s:=by
 intro k
 induction k with
 | zero=>intro s l w;exact Nat.le_refl _
 | succ k ih=>
  intro s l w
  unfold gfin
  split
  · exact Nat.le_refl _
  · exact Nat.le_trans (ih _ _ _) (Nat.le_trans (T.c_gone _ _ _) (T.c_pick _ _ _))
theorem gask_cnt{T:RuleT}{R:Str→Int}{n:Int}{s:T.St×List Str}{z:Str}:T.cnt (gask T R n s z).1.1≤T.cnt s.1+1:=by
 unfold gask
 split
 · exact T.c_ask _ _ _
 · exact Nat.le_trans (T.c_came _ _ _) (Nat.le_trans (gfin_cnt _ _ _ _) (T.c_ask _ _ _))
theorem gst_cnt{T:RuleT}{R:Str→Int}{n:Int}{s0:T.St}{ys:List Str}:∀i,i≤ys.length→T.cnt (gst T R n s0 ys i).1≤T.cnt s0+i
 | 0,_=>Nat.le_refl _
 | i+1,h=>by
  have hz:=List.getElem?_eq_getElem (show i < ys.length by omega)
  rw [gst_succ hz]
  have:=gst_cnt (T:=T) (R:=R) (n:=n) (s0:=s0) (ys:=ys) i (by omega)
  have h2:=gask_cnt (T:=T) (R:=R) (n:=n) (s:=gst T R n s0 ys i) (z:=ys[i])
  omega
structure RunG(T:RuleT)(K:PySem.W.Frag)(C S:Addr)(H0 H:Hp)(q p sh d:Addr)(M:List Addr)(n:Int)(ts:List Th)(ls:Ly)(s:T.St):Prop where
 h:T.At H M q p n s
 shf:ShelfAt S H sh p d n ls
 st:StockAt K C H0 p ts
 sm:Same H0 H
 n0:∀m∈M,H0 m=none
 nd:H0 d=none
 nsh:sh∉M
 ndm:d∉M
 ok:OkL (rm ts) (ts.map (·.1)) ls
section
variable {T:RuleT} {K:PySem.W.Frag} {C S:Addr} {H0 H H' H1 H2:Hp} {q p sh d w:Addr} {M:List Addr} {n:Int} {ts:List Th} {ls:Ly} {s s':T.St}
theorem at_same(e:Same H H')(h:T.At H M q p n s):T.At H' M q p n s:=T.dep (fun m _ o=>e m o) h
theorem at_but(e:SameBut d H H')(hd:d∉M)(h:T.At H M q p n s):T.At H' M q p n s:=T.dep (fun m hm o e1=>e m o e1 (fun e2=>hd (e2▸hm))) h
theorem RunG.same(r:RunG T K C S H0 H q p sh d M n ts ls s)(e:Same H H'):RunG T K C S H0 H' q p sh d M n ts ls s:=
 ⟨at_same e r.h,r.shf.same e,r.st,r.sm.trans e,r.n0,r.nd,r.nsh,r.ndm,r.ok⟩
theorem RunG.x(r:RunG T K C S H0 H q p sh d M n ts ls s):StockX K C H p ts d:=(StockX.of r.st r.nd).same r.sm
theorem RunG.left(r:RunG T K C S H0 H q p sh d M n ts ls s):n - lyS ls=n - N41.sm (rm ts) (lyN ls):=by rw [okl_sum (ns:=ts.map (·.1)) r.ok.r]
theorem RunG.rule(r:RunG T K C S H0 H q p sh d M n ts ls s)(k:Kp M H H')(h:T.At H' M q p n s'):RunG T K C S H0 H' q p sh d M n ts ls s':=
 ⟨h,⟨r.shf.o.imp fun _ e=>k _ _ r.nsh e,k _ _ r.ndm r.shf.d,r.shf.nd⟩,r.st,Kp.same r.sm k r.n0,r.n0,r.nd,r.nsh,r.ndm,r.ok⟩
theorem RunG.shelf{ls':Ly}(r:RunG T K C S H0 H q p sh d M n ts ls s)(k:SameBut d H H')(hs:ShelfAt S H' sh p d n ls')(ok:OkL (rm ts) (ts.map (·.1)) ls'):RunG T K C S H0 H' q p sh d M n ts ls' s:=
 ⟨at_but k r.ndm r.h,hs,r.st,but_same r.sm r.nd k,r.n0,r.nd,r.nsh,r.ndm,ok⟩
theorem RunG.lst{zs:List V}(r:RunG T K C S H0 H q p sh d M n ts ls s)(k:SameBut w H H')(hw:H w=some (.lst zs))(hm:w∉M)(h0:H0 w=none):RunG T K C S H0 H' q p sh d M n ts ls s:=
 ⟨at_but k hm r.h,r.shf.butL k hw,r.st,but_same r.sm h0 k,r.n0,r.nd,r.nsh,r.ndm,r.ok⟩
theorem RunG.free{b:Addr}(r:RunG T K C S H0 H q p sh d M n ts ls s)(hb:H b=none):b∉d::M:=fun hm=>by
 rcases List.mem_cons.mp hm with e | e
 · rw [e,r.shf.d]at hb;cases hb
 · exact T.live r.h b e hb
theorem kp_cons{M:List Addr}{d:Addr}{H H':Hp}(k:Kp M H H'):Kp (d::M) H H':=fun b o n e=>k b o (fun h=>n (List.mem_cons_of_mem _ h)) e
theorem SqL_kp{a:Addr}{xs:List V}(h:SqL K H a xs)(k:Kp M H H')(na:a∉M):SqL K H' a xs:=by
 rcases h with (h | ⟨o,h⟩) | h
 · exact .inl (.inl (k _ _ na h))
 · exact .inl (.inr ⟨o,k _ _ na h⟩)
 · exact .inr h
end
noncomputable def spR_nests(T:RuleT)(b:Bool):Sp:=fun vs H Q _=>∃(q:Addr),vs=[.ref q]∧Q (.bl b) H
noncomputable def spR_asked(T:RuleT):Sp:=fun vs H Q _=>∃(q p:Addr) (n:Int) (M:List Addr) (s:T.St) (l ns:List Str) (z:Str),vs=[.ref q,.str z]∧T.At H M q p n s∧T.inv ns n s l∧z∈ns∧ns.length≤60∧∀H',Kp M H H'→T.At H' M q p n (T.asked n s z)→Q .non H'
noncomputable def spR_choice(T:RuleT)(K:PySem.W.Frag):Sp:=fun vs H Q _=>∃(q p a:Addr) (n:Int) (M:List Addr) (s:T.St) (l ns:List Str) (z:Str),vs=[.ref q,.ref a]∧T.At H M q p n s∧T.mid ns n z s l∧l≠[]∧H a=some (.lst (l.map V.str))∧a∉M∧ns.length≤60∧l.length≤60∧T.cnt s≤300∧∀H',Kp M H H'→T.At H' M q p n (T.pick n s l).1→Q (.str (T.pick n s l).2) H'
noncomputable def spR_gone(T:RuleT):Sp:=fun vs H Q _=>∃(q p:Addr) (n:Int) (M:List Addr) (s:T.St) (l ns:List Str) (z:Str),vs=[.ref q,.str (T.pick n s l).2]∧T.At H M q p n (T.pick n s l).1∧T.mid ns n z s l∧l≠[]∧ns.length≤60∧∀H',Kp M H H'→T.At H' M q p n (T.gone n (T.pick n s l).1 (T.pick n s l).2)→Q .non H'
noncomputable def spR_came(T:RuleT):Sp:=fun vs H Q _=>∃(q p:Addr) (n:Int) (M:List Addr) (s:T.St) (l ns:List Str) (z:Str),vs=[.ref q,.str z]∧T.At H M q p n s∧T.mid ns n z s l∧z∈ns∧z∉l∧ns.length≤60∧∀H',Kp M H H'→T.At H' M q p n (T.came n s z)→Q .non H'
noncomputable def spR_room(T:RuleT)(K:PySem.W.Frag)(C S:Addr):Sp:=fun vs H Q _=>∃(H0:Hp) (q p sh d:Addr) (M:List Addr) (n need:Int) (ts:List Th) (ls:Ly) (s:T.St) (z:Str),vs=[.ref q,.ref sh,.int need]∧RunG T K C S H0 H q p sh d M n ts ls s∧T.mid (ts.map (·.1)) n z s (lyN ls)∧need≤n∧ls.length≤60∧ts.length≤60∧T.cnt s≤300∧
 ∀(w:Addr) (ls':Ly) (H':Hp),Kp (d::M) H H'→H w=none→H' w=some (.lst ((gf T (rm ts) n need s (lyN ls) []).2.2.map V.str))→lyN ls'=(gf T (rm ts) n need s (lyN ls) []).2.1→RunG T K C S H0 H' q p sh d M n ts ls' (gf T (rm ts) n need s (lyN ls) []).1→Q (.ref w) H'
noncomputable def spR_row(T:RuleT)(K:PySem.W.Frag)(C S:Addr):Sp:=fun vs H Q _=>∃(H0:Hp) (q p sh d:Addr) (M:List Addr) (n:Int) (ts:List Th) (ls:Ly) (s:T.St) (z:Str),vs=[.ref q,.ref sh,.str z]∧RunG T K C S H0 H q p sh d M n ts ls s∧T.inv (ts.map (·.1)) n s (lyN ls)∧(ts.map (·.1)).Nodup∧ts.length≤60∧z∈ts.map (·.1)∧rm ts z≤n∧T.cnt s≤299∧
 ∀(t g:Addr) (ls':Ly) (H':Hp),Kp (d::M) H H'→H t=none→H g=none→H' t=some (.tup [.str (gask T (rm ts) n (s,lyN ls) z).2.1,.bl (gask T (rm ts) n (s,lyN ls) z).2.2.1,.ref g])→H' g=some (.lst ((gask T (rm ts) n (s,lyN ls) z).2.2.2.map V.str))→lyN ls'=(gask T (rm ts) n (s,lyN ls) z).1.2→RunG T K C S H0 H' q p sh d M n ts ls' (gask T (rm ts) n (s,lyN ls) z).1.1→Q (.ref t) H'
noncomputable def spR_book(T:RuleT)(K:PySem.W.Frag)(C S:Addr):Sp:=fun vs H Q _=>∃(H0:Hp) (q p a:Addr) (M:List Addr) (n:Int) (ts:List Th) (ys:List Str) (s0:T.St),vs=[.ref q,.ref a]∧T.At H M q p n s0∧T.inv (ts.map (·.1)) n s0 []∧StockAt K C H0 p ts∧Same H0 H∧(∀m∈M,H0 m=none)∧(ts.map (·.1)).Nodup∧ts.length≤60∧SqL K H a (ys.map V.str)∧a∉M∧ys.length≤200∧(∀y∈ys,y∈ts.map (·.1))∧(∀y∈ys,rm ts y≤n)∧1≤n∧n≤1000000∧T.cnt s0≤50∧
 ∀(b:Addr) (as gs:List Addr) (H':Hp),Kp M H H'→H' b=some (.lst (as.map V.ref))→(∀(i:Nat) a,as[i]?=some a→∃xs,H' a=some (.tup xs))→BookAt K H' b as gs (grows T (rm ts) n s0 ys ys.length)→T.At H' M q p n (gst T (rm ts) n s0 ys ys.length).1→Q (.ref b) H'
end NR
namespace L2
noncomputable def tMeth2(C:Bool→Addr)(m:Str)(sp:Bool→Sp)(EE:St→XK)(ta:TE)(t:TA):TE:=fun σ H Q=>ta σ H fun x H1=>∃b a dx fs,x= .ref a∧H1 a=some (.ins (C b) dx fs)∧fs.lookup m=none∧t σ H1 fun vs H2=>sp b (x::vs) H2 Q (EE σ)
section
variable {X:Cx} {CX:CXT} {k j:Nat} {C:Bool→Addr} {ps:List Str} {sp:Bool→Sp} {EE:St→XK} {m:Str} {pos apos:Pos} {e o:Expr} {es:List Expr} {ta:TE} {t:TA}
theorem rd_meth2{σ:St}{H:Hp}{Q:VK}:tMeth2 C m sp EE ta t σ H Q=ta σ H fun x H1=>∃b a dx fs,x= .ref a∧H1 a=some (.ins (C b) dx fs)∧fs.lookup m=none∧t σ H1 fun vs H2=>sp b (x::vs) H2 Q (EE σ):=rfl
end
end L2
namespace N22
open L2 N1 N5 N4 N6 N12 N32 N14 N20 N18 N25 NR
noncomputable def rf0(p:Addr)(n:Int):List (Str×V):=putF "places" (.int n) (putF "stock" (.ref p) [])
noncomputable def rf1(p:Addr)(n k:Int)(la pa:Addr):List (Str×V):=putF "put_at" (.ref pa) (putF "last" (.ref la) (putF "present" (.int k) (rf0 p n)))
theorem headD_mem{l:List Str}(h:l≠[]):l.headD Str.empty∈l:=by
 cases l with
 | nil=>exact absurd rfl h
 | cons x r=>exact List.mem_cons_self ..
structure S1 where
 k:Int
 la:List (Key×V)
 pu:List (Key×V)
noncomputable def pv(s:S1)(z:Str):Int:=match valV s.pu (Sum.inr z) with
 | some (.int i)=>i
 | _=>0
noncomputable def KeysIn(kvs:List (Key×V))(ns:List Str):Prop:=∃ks:List Str,kvs.map (·.1)=ks.map Sum.inr∧ks.Nodup∧∀z∈ks,z∈ns
theorem KeysIn.nil{ns:List Str}:KeysIn [] ns:=⟨[],rfl,List.nodup_nil,by simp⟩
theorem KeysIn.len{kvs:List (Key×V)}{ns:List Str}(h:KeysIn kvs ns):kvs.length≤ns.length:=by
 obtain ⟨ks,e,nd,s⟩:=h
 have:=congrArg List.length e
 rw [List.length_map,List.length_map]at this
 have:=nd_len nd s
 omega
theorem KeysIn.put{kvs:List (Key×V)}{ns:List Str}{z:Str}{v:V}(h:KeysIn kvs ns)(hz:z∈ns):KeysIn (putK kvs (Sum.inr z) v) ns:=by
 obtain ⟨ks,e,nd,s⟩:=h
 refine ⟨if z∈ks then ks else ks++[z],N53.put_both e,?_,?_⟩
 · split
   · exact nd
   · rename_i hn
     rw [List.nodup_append]
     exact ⟨nd,by simp,fun a ha b hb e2=>hn (mem_eq (e2.trans (List.mem_singleton.mp hb)) ha)⟩
 · intro u hu
   split at hu
   · exact s u hu
   · rcases List.mem_append.mp hu with hu | hu
     · exact s u hu
     · rw [List.mem_singleton.mp hu];exact hz
structure FI(ns:List Str)(s:S1)(l:List Str)(B:Int):Prop where
 a:KeysIn s.la ns
 b:KeysIn s.pu ns
 v:∀z∈l,∃i,valV s.pu (Sum.inr z)=some (.int i)∧i≤B
 o:l.Pairwise fun x y=>pv s x < pv s y
theorem pv_at{s:S1}{z:Str}{i:Int}(h:valV s.pu (Sum.inr z)=some (.int i)):pv s z=i:=by unfold pv;rw [h]
noncomputable def f1ask(s:S1)(z:Str):S1:=⟨s.k+1,putK s.la (Sum.inr z) (.int (s.k+1)),s.pu⟩
noncomputable def f1came(s:S1)(z:Str):S1:=⟨s.k,s.la,putK s.pu (Sum.inr z) (.int s.k)⟩
theorem FI.ask{ns:List Str}{s:S1}{l:List Str}{z:Str}{B:Int}(h:FI ns s l B)(hz:z∈ns):FI ns (f1ask s z) l B:=⟨h.a.put hz,h.b,h.v,h.o⟩
theorem FI.mono{ns:List Str}{s:S1}{l:List Str}{B B':Int}(h:FI ns s l B)(hb:B≤B'):FI ns s l B':=⟨h.a,h.b,fun z hz=>(h.v z hz).imp fun _ e=>⟨e.1,Int.le_trans e.2 hb⟩,h.o⟩
theorem FI.drop{ns:List Str}{s:S1}{l:List Str}{z:Str}{B:Int}(h:FI ns s l B):FI ns s (l.erase z) B:=
 ⟨h.a,h.b,fun u hu=>h.v u (List.mem_of_mem_erase hu),h.o.sublist List.erase_sublist⟩
theorem FI.came{ns:List Str}{s:S1}{l:List Str}{z:Str}(h:FI ns s l (s.k - 1))(hz:z∈ns)(hn:z∉l):FI ns (f1came s z) (l++[z]) s.k:=by
 have hne:∀u∈l,(Sum.inr u:Key)≠Sum.inr z:=fun u hu e=>hn (by injection e with e;rw [← e];exact hu)
 have hold:∀u∈l,valV (putK s.pu (Sum.inr z) (.int s.k)) (Sum.inr u)=valV s.pu (Sum.inr u):=fun u hu=>by rw [valV_put,if_neg (hne u hu)]
 have hnew:valV (putK s.pu (Sum.inr z) (.int s.k)) (Sum.inr z)=some (.int s.k):=by rw [valV_put,if_pos rfl]
 have pold:∀u∈l,pv (f1came s z) u=pv s u:=fun u hu=>by
  unfold pv f1came
  simp only
  rw [hold u hu]
 refine ⟨h.a,h.b.put hz,fun u hu=>?_,?_⟩
 · rcases List.mem_append.mp hu with hu | hu
   · obtain ⟨i,e,hi⟩:=h.v u hu
     exact ⟨i,(hold u hu).trans e,by omega⟩
   · rw [List.mem_singleton.mp hu]
     exact ⟨s.k,hnew,Int.le_refl _⟩
 · rw [List.pairwise_append]
   refine ⟨?_,List.pairwise_singleton ..,fun u hu y hy=>?_⟩
   · exact h.o.imp_of_mem fun hx hy hxy=>by rw [pold _ hx,pold _ hy];exact hxy
   · rw [List.mem_singleton]at hy
     rw [hy,pold u hu]
     obtain ⟨i,e,hi⟩:=h.v u hu
     rw [pv_at e,pv_at (s:=f1came s z) hnew]
     omega
noncomputable def FAt(C:Addr)(H:Hp)(M:List Addr)(q p:Addr)(n:Int)(s:S1):Prop:=∃la pa,M=[q,la,pa]∧la≠pa∧(∃dx,H q=some (.ins C dx (rf1 p n s.k la pa)))∧H la=some (.dK s.la)∧H pa=some (.dK s.pu)
noncomputable def T1(C:Addr):RuleT where
 C:=C
 St:=S1
 At:=FAt C
 asked:=fun _ s z=>f1ask s z
 pick:=fun _ s l=>(s,l.headD Str.empty)
 gone:=fun _ s _=>s
 came:=fun _ s z=>f1came s z
 inv:=fun ns _ s l=>FI ns s l s.k
 mid:=fun ns _ _ s l=>FI ns s l (s.k - 1)
 dep:=fun e ⟨la,pa,hM,d,⟨dx,ho⟩,h1,h2⟩=>by
  rw [hM]at e
  exact ⟨la,pa,hM,d,⟨dx,e _ (by simp) _ ho⟩,e _ (by simp) _ h1,e _ (by simp) _ h2⟩
 live:=fun ⟨la,pa,hM,d,⟨dx,ho⟩,h1,h2⟩ m hm e=>by
  rw [hM]at hm
  simp only [List.mem_cons,List.not_mem_nil,or_false]at hm
  rcases hm with e1 | e1 | e1
  · rw [e1,ho]at e;cases e
  · rw [e1,h1]at e;cases e
  · rw [e1,h2]at e;cases e
 obj:=fun ⟨la,pa,hM,d,⟨dx,ho⟩,h1,h2⟩=>⟨dx,_,ho,by rfl,by rfl,by rfl,by rfl,by rfl,by rfl,by rfl⟩
 i_hit:=fun {ns n s l z} h hz _=>(FI.ask h hz).mono (show s.k≤s.k+1 by omega)
 i_mid:=fun {ns n s l z} h hz _=>(FI.ask h hz).mono (show s.k≤s.k+1 - 1 by omega)
 i_pick:=fun h hl=>⟨headD_mem hl,FI.drop h⟩
 i_came:=fun h hz hn=>FI.came h hz hn
theorem best_head{kf:Nat→List Int}{v:Nat→Int}{m:Nat}(hk:∀i,i≤m→kf i=[v i])(ho:∀i,i≤m→v 0≤v i):argBest (btK kf) m=0:=by
 have:∀j,j≤m→argBest (btK kf) j=0:=by
  intro j
  induction j with
  | zero=>intro _;rfl
  | succ j ih=>
   intro hj
   show (if btK kf (j+1) (argBest (btK kf) j)=true then j+1 else argBest (btK kf) j)=0
   rw [ih (by omega)]
   have:btK kf (j+1) 0=false:=by
    unfold btK
    rw [hk _ hj,hk 0 (by omega)]
    show (if v (j+1)=v 0 then false else decide (v (j+1) < v 0))=false
    have:=ho (j+1) hj
    split
    · rfl
    · exact decide_eq_false (by omega)
   rw [this];rfl
 exact this m (Nat.le_refl _)
noncomputable def sp22_init(C:Addr):Sp:=fun vs H Q _=>∃(q dx p:Addr) (n:Int),vs=[.ref q,.ref p,.int n]∧H q=some (.ins C dx [])∧1≤n∧n≤1000000∧∀H' la pa,SameBut q H H'→H la=none→H pa=none→FAt C H' [q,la,pa] q p n ⟨0,[],[]⟩→Q .non H'
noncomputable def sp22_number(C:Addr):Sp:=fun vs H Q _=>∃(q p:Addr) (n:Int) (M:List Addr) (s:S1) (z:Str),vs=[.ref q,.str z]∧FAt C H M q p n s∧s.la.length≤1000∧∀H',Kp M H H'→FAt C H' M q p n (f1ask s z)→Q .non H'
noncomputable def sp22_rank(C:Addr):Sp:=fun vs H Q _=>∃(q p:Addr) (n:Int) (M:List Addr) (s:S1) (z:Str) (i:Int),vs=[.ref q,.str z]∧FAt C H M q p n s∧valV s.pu (Sum.inr z)=some (.int i)∧∀t,H t=none→Q (.ref t) (upd H t (.tup [.int i]))
noncomputable def spR2_room(T:Bool→RuleT)(K:PySem.W.Frag)(C S:Addr):Sp:=fun vs H Q E=>∃b,spR_room (T b) K C S vs H Q E
noncomputable def spR2_row(T:Bool→RuleT)(K:PySem.W.Frag)(C S:Addr):Sp:=fun vs H Q E=>∃b,spR_row (T b) K C S vs H Q E
noncomputable def spR2_book(T:Bool→RuleT)(K:PySem.W.Frag)(C S:Addr):Sp:=fun vs H Q E=>∃b,spR_book (T b) K C S vs H Q E
section
variable {p la pa:Addr} {n k k':Int}
theorem rf1_len:(rf1 p n k la pa).length=5:=by rfl
theorem rf1_present:(rf1 p n k la pa).lookup ("present":Str)=some (V.int k):=by rfl
theorem rf1_last:(rf1 p n k la pa).lookup ("last":Str)=some (V.ref la):=by rfl
theorem rf1_put:(rf1 p n k la pa).lookup ("put_at":Str)=some (V.ref pa):=by rfl
end
end N22
namespace N21
open L2 N1 N5 N4 N6 N12 N32 N14 N20 N18 N25 NR N22
structure S2 where
 k:Int
 la:List (Key×V)
noncomputable def lv(s:S2)(z:Str):Int:=match valV s.la (Sum.inr z) with
 | some (.int i)=>i
 | _=>0
theorem lv_at{s:S2}{z:Str}{i:Int}(h:valV s.la (Sum.inr z)=some (.int i)):lv s z=i:=by unfold lv;rw [h]
noncomputable def lmin(v:Str→Int)(l:List Str):Str:=l.getD (argBest (fun i j=>decide (v (l.getD i Str.empty) < v (l.getD j Str.empty))) (l.length - 1)) Str.empty
theorem lmin_ok{v:Str→Int}{l:List Str}(h:l≠[]):lmin v l∈l∧∀u∈l,v (lmin v l)≤v u:=by
 have hl0:0 < l.length:=List.length_pos_iff.mpr h
 have hb:=best_lt (fun i=>v (l.getD i Str.empty)) (l.length - 1)
 unfold lmin
 generalize argBest (fun i j=>decide (v (l.getD i Str.empty) < v (l.getD j Str.empty))) (l.length - 1)=m at hb
 have hm:m < l.length:=by omega
 refine ⟨?_,fun u hu=>?_⟩
 · rw [List.getD_eq_getElem?_getD,List.getElem?_eq_getElem hm];exact List.getElem_mem hm
 · obtain ⟨j,hj⟩:=List.mem_iff_getElem?.mp hu
   have hjl:=(List.getElem?_eq_some_iff.mp hj).1
   have:=hb.2 j (by omega)
   rw [show l.getD j Str.empty=u by rw [List.getD_eq_getElem?_getD,hj];rfl]at this
   exact this
structure LI(ns:List Str)(s:S2)(l:List Str):Prop where
 a:KeysIn s.la ns
 v:∀z∈l,∃i,valV s.la (Sum.inr z)=some (.int i)∧i≤s.k
 o:l.Pairwise fun x y=>lv s x≠lv s y
noncomputable def ask2(s:S2)(z:Str):S2:=⟨s.k+1,putK s.la (Sum.inr z) (.int (s.k+1))⟩
theorem ask_old{s:S2}{z u:Str}(h:u≠z):valV (ask2 s z).la (Sum.inr u)=valV s.la (Sum.inr u):=by
 unfold ask2;simp only;rw [valV_put,if_neg (inr_ne' h)]
theorem ask_new{s:S2}{z:Str}:valV (ask2 s z).la (Sum.inr z)=some (.int (s.k+1)):=by
 unfold ask2;simp only;rw [valV_put,if_pos rfl]
theorem lv_old{s:S2}{z u:Str}(h:u≠z):lv (ask2 s z) u=lv s u:=by unfold lv;rw [ask_old h]
theorem lv_new{s:S2}{z:Str}:lv (ask2 s z) z=s.k+1:=lv_at ask_new
theorem LI.le{ns:List Str}{s:S2}{l:List Str}(h:LI ns s l):∀z∈l,lv s z≤s.k:=fun z hz=>by
 obtain ⟨i,e,hi⟩:=h.v z hz
 rw [lv_at e];exact hi
theorem LI.inj{ns:List Str}{s:S2}{l:List Str}(h:LI ns s l):∀x∈l,∀y∈l,lv s x=lv s y→x=y:=fun x hx y hy e=>by
 obtain ⟨i,hi⟩:=List.mem_iff_getElem?.mp hx
 obtain ⟨j,hj⟩:=List.mem_iff_getElem?.mp hy
 obtain ⟨hil,hi⟩:=List.getElem?_eq_some_iff.mp hi
 obtain ⟨hjl,hj⟩:=List.getElem?_eq_some_iff.mp hj
 rcases Nat.lt_trichotomy i j with c | c | c
 · exact absurd (by rw [hi,hj];exact e) ((List.pairwise_iff_getElem.mp h.o) i j hil hjl c)
 · subst c;rw [← hi,← hj]
 · exact absurd (by rw [hi,hj];exact e.symm) ((List.pairwise_iff_getElem.mp h.o) j i hjl hil c)
theorem LI.ask{ns:List Str}{s:S2}{l:List Str}{z:Str}(h:LI ns s l)(hz:z∈ns):LI ns (ask2 s z) l:=by
 refine ⟨h.a.put hz,fun u hu=>?_,h.o.imp_of_mem fun {x y} hx hy hxy=>?_⟩
 · by_cases e:u=z
   · rw [e];exact ⟨_,ask_new,Int.le_refl _⟩
   · obtain ⟨i,e1,e2⟩:=h.v u hu
     exact ⟨i,(ask_old e).trans e1,by show i≤s.k+1;omega⟩
 · have lx:=h.le x hx
   have ly:=h.le y hy
   by_cases ex:x=z
   · by_cases ey:y=z
     · exact absurd (by rw [ex,ey]) hxy
     · rw [ex,lv_new,lv_old ey];omega
   · by_cases ey:y=z
     · rw [ey,lv_new,lv_old ex];omega
     · rw [lv_old ex,lv_old ey];exact hxy
theorem LI.drop{ns:List Str}{s:S2}{l:List Str}{z:Str}(h:LI ns s l):LI ns s (l.erase z):=
 ⟨h.a,fun u hu=>h.v u (List.mem_of_mem_erase hu),h.o.sublist List.erase_sublist⟩
structure LM(ns:List Str)(z:Str)(s:S2)(l:List Str):Prop where
 i:LI ns s l
 z:valV s.la (Sum.inr z)=some (.int s.k)
 b:∀u∈l,lv s u < s.k
theorem LI.mid{ns:List Str}{s:S2}{l:List Str}{z:Str}(h:LI ns s l)(hz:z∈ns)(hn:z∉l):LM ns z (ask2 s z) l:=
 ⟨h.ask hz,ask_new,fun u hu=>by
  have:=h.le u hu
  have e:lv (ask2 s z) u=lv s u:=lv_old (fun e=>hn (by rw [← e];exact hu))
  show lv (ask2 s z) u < s.k+1
  omega⟩
theorem LM.came{ns:List Str}{s:S2}{l:List Str}{z:Str}(h:LM ns z s l):LI ns s (l++[z]):=by
 refine ⟨h.i.a,fun u hu=>?_,?_⟩
 · rcases List.mem_append.mp hu with hu | hu
   · exact h.i.v u hu
   · rw [List.mem_singleton.mp hu];exact ⟨_,h.z,Int.le_refl _⟩
 · rw [List.pairwise_append]
   refine ⟨h.i.o,List.pairwise_singleton ..,fun u hu y hy=>?_⟩
   rw [List.mem_singleton.mp hy,lv_at h.z]
   have:=h.b u hu
   omega
noncomputable def rf2(p:Addr)(n k:Int)(la:Addr):List (Str×V):=putF "last" (.ref la) (putF "present" (.int k) (rf0 p n))
noncomputable def OAt(C:Addr)(H:Hp)(M:List Addr)(q p:Addr)(n:Int)(s:S2):Prop:=∃la,M=[q,la]∧(∃dx,H q=some (.ins C dx (rf2 p n s.k la)))∧H la=some (.dK s.la)
noncomputable def T2(C:Addr):RuleT where
 C:=C
 St:=S2
 At:=OAt C
 asked:=fun _ s z=>ask2 s z
 pick:=fun _ s l=>(s,lmin (lv s) l)
 gone:=fun _ s _=>s
 came:=fun _ s _=>s
 inv:=fun ns _ s l=>LI ns s l
 mid:=fun ns _ z s l=>LM ns z s l
 dep:=fun e ⟨la,hM,⟨dx,ho⟩,h1⟩=>by
  rw [hM]at e
  exact ⟨la,hM,⟨dx,e _ (by simp) _ ho⟩,e _ (by simp) _ h1⟩
 live:=fun ⟨la,hM,⟨dx,ho⟩,h1⟩ m hm e=>by
  rw [hM]at hm
  simp only [List.mem_cons,List.not_mem_nil,or_false]at hm
  rcases hm with e1 | e1
  · rw [e1,ho]at e;cases e
  · rw [e1,h1]at e;cases e
 obj:=fun ⟨la,hM,⟨dx,ho⟩,h1⟩=>⟨dx,_,ho,by rfl,by rfl,by rfl,by rfl,by rfl,by rfl,by rfl⟩
 i_hit:=fun h hz _=>LI.ask h hz
 i_mid:=fun h hz hn=>LI.mid h hz hn
 i_pick:=fun h hl=>⟨(lmin_ok hl).1,LI.drop h.i,h.z,fun u hu=>h.b u (List.mem_of_mem_erase hu)⟩
 i_came:=fun h _ _=>LM.came h
noncomputable def RT2(c1 c2:Addr)(b:Bool):RuleT:=bif b then T2 c1 else T2 c2
noncomputable def s20:S2:=⟨0,[]⟩
noncomputable def st2(c1 c2:Addr):(b:Bool)→(T2 c1).St→(RT2 c1 c2 b).St
 | true,s=>s
 | false,s=>s
section
variable {p la:Addr} {n k k':Int}
theorem rf2_len:(rf2 p n k la).length=4:=by rfl
theorem rf2_present:(rf2 p n k la).lookup ("present":Str)=some (V.int k):=by rfl
theorem rf2_last:(rf2 p n k la).lookup ("last":Str)=some (V.ref la):=by rfl
end
noncomputable def sp21_rinit(c1 c2:Addr):Sp:=fun vs H Q _=>∃(b:Bool) (q dx p:Addr) (n:Int),vs=[.ref q,.ref p,.int n]∧H q=some (.ins (RT2 c1 c2 b).C dx [])∧1≤n∧n≤1000000∧∀H',SameBut q H H'→H' q=some (.ins (RT2 c1 c2 b).C dx (rf0 p n))→Q .non H'
noncomputable def sp21_init(C:Addr):Sp:=fun vs H Q _=>∃(q dx p:Addr) (n:Int),vs=[.ref q,.ref p,.int n]∧H q=some (.ins C dx [])∧1≤n∧n≤1000000∧∀H' la,SameBut q H H'→H la=none→OAt C H' [q,la] q p n s20→Q .non H'
noncomputable def sp21_number(C:Addr):Sp:=fun vs H Q _=>∃(q p:Addr) (n:Int) (M:List Addr) (s:S2) (z:Str),vs=[.ref q,.str z]∧OAt C H M q p n s∧s.la.length≤1000∧∀H',Kp M H H'→OAt C H' M q p n (ask2 s z)→Q .non H'
noncomputable def sp21_last(C:Addr):Sp:=fun vs H Q _=>∃(q p:Addr) (n:Int) (M:List Addr) (s:S2) (z:Str) (i:Int),vs=[.ref q,.str z]∧OAt C H M q p n s∧valV s.la (Sum.inr z)=some (.int i)∧Q (.int i) H
noncomputable def sp21_rank(C:Addr):Sp:=fun vs H Q _=>∃(q p:Addr) (n:Int) (M:List Addr) (s:S2) (z:Str) (i:Int),vs=[.ref q,.str z]∧OAt C H M q p n s∧valV s.la (Sum.inr z)=some (.int i)∧∀t,H t=none→Q (.ref t) (upd H t (.tup [.int i]))
theorem bt_one{v:Nat→Int}:btK (fun i=>[v i])=fun i j=>decide (v i < v j):=by
 funext i j
 show (if v i=v j then false else decide (v i < v j))=decide (v i < v j)
 split
 · rename_i e;rw [e];exact (decide_eq_false (Int.lt_irrefl _)).symm
 · rfl
noncomputable def spR_bookN(T:RuleT)(K:PySem.W.Frag)(C S:Addr):Sp:=fun vs H Q _=>∃(H0:Hp) (q p a:Addr) (M:List Addr) (n:Int) (ts:List Th) (ys:List Str) (s0:T.St),vs=[.ref q,.ref a]∧T.At H M q p n s0∧T.inv (ts.map (·.1)) n s0 []∧StockAt K C H0 p ts∧Same H0 H∧(∀m∈M,H0 m=none)∧(ts.map (·.1)).Nodup∧ts.length≤60∧SqL K H a (ys.map V.str)∧a∉M∧ys.length≤200∧(∀y∈ys,y∈ts.map (·.1))∧(∀y∈ys,rm ts y≤n)∧1≤n∧n≤1000000∧T.cnt s0≤50∧
 ∀(b:Addr) (as gs:List Addr) (H':Hp),Kp M H H'→H' b=some (.lst (as.map V.ref))→(∀(i:Nat) a,as[i]?=some a→∃xs,H' a=some (.tup xs))→BookAt K H' b as gs (grows T (rm ts) n s0 ys ys.length)→T.At H' M q p n (gst T (rm ts) n s0 ys ys.length).1→H b=none→b∉gs→gs.Nodup→(∀(i:Nat) a g,as[i]?=some a→gs[i]?=some g→H a=none∧H g=none∧g∉M∧H' a=some (.tup [.str (NR.grow T (rm ts) n s0 ys i).1,.bl (NR.grow T (rm ts) n s0 ys i).2.1,.ref g])∧H' g=some (.lst ((NR.grow T (rm ts) n s0 ys i).2.2.map V.str)))→Q (.ref b) H'
structure LineI(s:S2)(l line:List Str):Prop where
 p:line.Perm l
 o:line.Pairwise fun x y=>lv s x < lv s y
theorem LineI.nil{s:S2}:LineI s [] []:=⟨List.Perm.refl _,List.Pairwise.nil⟩
theorem LineI.nd{s:S2}{l line:List Str}(h:LineI s l line):line.Nodup:=h.o.imp fun {x y} hxy e=>by rw [e]at hxy;exact Int.lt_irrefl _ hxy
theorem LineI.hit{ns:List Str}{s:S2}{l line:List Str}{z:Str}(h:LineI s l line)(hi:LI ns s l)(hz:z∈l):LineI (ask2 s z) l (line.erase z++[z]):=by
 have hzl:z∈line:=h.p.mem_iff.mpr hz
 have hne:∀u∈line.erase z,u≠z:=fun u hu e=>by rw [e,List.Nodup.mem_erase_iff h.nd]at hu;exact hu.1 rfl
 refine ⟨((List.perm_append_singleton ..).trans (List.perm_cons_erase hzl).symm).trans h.p,?_⟩
 rw [List.pairwise_append]
 refine ⟨(h.o.sublist List.erase_sublist).imp_of_mem fun {x y} hx hy hxy=>by rw [lv_old (hne x hx),lv_old (hne y hy)];exact hxy,List.pairwise_singleton ..,fun u hu y hy=>?_⟩
 rw [List.mem_singleton.mp hy,lv_new,lv_old (hne u hu)]
 have:=hi.le u (h.p.mem_iff.mp (List.mem_of_mem_erase hu))
 omega
theorem LineI.mid{s:S2}{l line:List Str}{z:Str}(h:LineI s l line)(hz:z∉l):LineI (ask2 s z) l line:=by
 have hne:∀u∈line,u≠z:=fun u hu e=>hz (by rw [← e];exact h.p.mem_iff.mp hu)
 exact ⟨h.p,h.o.imp_of_mem fun {x y} hx hy hxy=>by rw [lv_old (hne x hx),lv_old (hne y hy)];exact hxy⟩
theorem LineI.head{ns:List Str}{s:S2}{l r:List Str}{f:Str}(h:LineI s l (f::r))(hi:LI ns s l):lmin (lv s) l=f:=by
 have hf:f∈l:=h.p.mem_iff.mp (List.mem_cons_self ..)
 have hne:l≠[]:=fun e=>by rw [e]at hf;cases hf
 obtain ⟨a,b⟩:=lmin_ok (v:=lv s) hne
 have hle:lv s f≤lv s (lmin (lv s) l):=by
  rcases List.mem_cons.mp (h.p.mem_iff.mpr a) with e | e
  · rw [e];exact Int.le_refl _
  · exact Int.le_of_lt ((List.pairwise_cons.mp h.o).1 _ e)
 exact hi.inj _ a _ hf (Int.le_antisymm (b f hf) hle)
theorem LineI.drop{s:S2}{l r:List Str}{f:Str}(h:LineI s l (f::r)):LineI s (l.erase f) r:=by
 have:=h.p.erase f
 rw [List.erase_cons_head]at this
 exact ⟨this,(List.pairwise_cons.mp h.o).2⟩
theorem LineI.come{ns:List Str}{s:S2}{l line:List Str}{z:Str}(h:LineI s l line)(hm:LM ns z s l):LineI s (l++[z]) (line++[z]):=by
 refine ⟨h.p.append_right _,?_⟩
 rw [List.pairwise_append]
 refine ⟨h.o,List.pairwise_singleton ..,fun u hu y hy=>?_⟩
 rw [List.mem_singleton.mp hy,lv_at hm.z]
 exact hm.b u (h.p.mem_iff.mp hu)
end N21
namespace N24
open L2 N1 N5 N4 N6 N12 N32 N14 N20 N18 N25 NR N22 N21
noncomputable def nx(ys:List Str)(j:Nat)(z:Str):Nat:=min (j+(ys.drop j).findIdx fun y=>decide (y=z)) ys.length
end N24
namespace L2
noncomputable def rDictOf:List V→Hp→VK→Prop:=fun xs H Q=>∃a kvs,xs=[.ref a]∧H a=some (.dK kvs)∧∀l,H l=none→Q (.ref l) (upd H l (.dK kvs))
section
variable {H:Hp} {Q:VK} {x:V} {xs:List V}
theorem rd_dictOf:rDictOf xs H Q=∃a kvs,xs=[.ref a]∧H a=some (.dK kvs)∧∀l,H l=none→Q (.ref l) (upd H l (.dK kvs)):=rfl
end
end L2
namespace L2
section
variable {P:Program} {w:World} {K:PySem.W.Frag} {mg:Str→Option Value} {base:Heap} {x qual:Str} {st:Stmt} {f:Addr} {fd:FuncData} {dv:List Value} {N ps:List Str} {k:Nat} {sp:Sp}
noncomputable def gV31:List V→List V→List V
 | [a,b,c],[d]=>[a,b,c,d]
 | _,_=>[]
theorem gV31_at{a b c d:V}:gV31 [a,b,c] [d]=[a,b,c,d]:=rfl
end
noncomputable def tMakeD(C:Addr)(sp:Sp)(dvs:List V)(EE:St→XK)(t:TA):TE:=fun σ H Q=>t σ H fun vs H1=>∀x dx,H1 x=none→H1 dx=none→dx≠x→sp (.ref x::(vs++dvs)) (upd (upd H1 dx (.own x)) x (.ins C dx [])) (fun v H2=>v= .non∧Q (.ref x) H2) (EE σ)
noncomputable def tMakeK(C:Addr)(sp:Sp)(EE:St→XK)(t tk:TA):TE:=fun σ H Q=>t σ H fun vs H1=>tk σ H1 fun zs H2=>∀x dx,H2 x=none→H2 dx=none→dx≠x→sp (gV31 (.ref x::vs) zs) (upd (upd H2 dx (.own x)) x (.ins C dx [])) (fun v H3=>v= .non∧Q (.ref x) H3) (EE σ)
section
variable {X:Cx} {CX:CXT} {k j:Nat} {f C:Addr} {fd:FuncData} {ps:List Str} {sp:Sp} {EE:St→XK} {x kn:Str} {p pos kpos:Pos} {e ke:Expr} {es:List Expr} {kws:List Keyword} {t tk:TA} {te:TE} {dvs:List V}
theorem rd_makeD{σ:St}{H:Hp}{Q:VK}:tMakeD C sp dvs EE t σ H Q=t σ H fun vs H1=>∀x dx,H1 x=none→H1 dx=none→dx≠x→sp (.ref x::(vs++dvs)) (upd (upd H1 dx (.own x)) x (.ins C dx [])) (fun v H2=>v= .non∧Q (.ref x) H2) (EE σ):=rfl
theorem rd_makeK{σ:St}{H:Hp}{Q:VK}:tMakeK C sp EE t tk σ H Q=t σ H fun vs H1=>tk σ H1 fun zs H2=>∀x dx,H2 x=none→H2 dx=none→dx≠x→sp (gV31 (.ref x::vs) zs) (upd (upd H2 dx (.own x)) x (.ins C dx [])) (fun v H3=>v= .non∧Q (.ref x) H3) (EE σ):=rfl
end
end L2
namespace N23
open L2 N1 N5 N4 N6 N12 N32 N14 N20 N18 N25 NR N22 N21 N24
noncomputable def tvK(d:List (Key×V))(k:Key):Int:=match valV d k with
 | some (.int i)=>i
 | _=>0
noncomputable def stepH(d:List (Key×V))(k:Key):List (Key×V):=putK d k (.int (tvK d k / 2))
noncomputable def hvi(d:List (Key×V))(i:Nat):List (Key×V):=((d.map (·.1)).take i).foldl stepH d
noncomputable def hvd(d:List (Key×V)):List (Key×V):=hvi d d.length
noncomputable def tbl(e k:Int)(d:List (Key×V)):List (Key×V):=if k % e=0 then hvd d else d
end N23
namespace L2
noncomputable def tMethI{ι:Type}(C:ι→Addr)(m:Str)(sp:ι→Sp)(EE:St→XK)(ta:TE)(t:TA):TE:=fun σ H Q=>ta σ H fun x H1=>∃b a dx fs,x= .ref a∧H1 a=some (.ins (C b) dx fs)∧fs.lookup m=none∧t σ H1 fun vs H2=>sp b (x::vs) H2 Q (EE σ)
section
variable {ι:Type} {X:Cx} {CX:CXT} {k j:Nat} {C:ι→Addr} {ps:List Str} {sp:ι→Sp} {EE:St→XK} {m:Str} {pos apos:Pos} {e o:Expr} {es:List Expr} {ta:TE} {t:TA}
theorem pe_methI{pl:Sem Bool}(D:∀b,DefM X.prog X.w X.K X.mg X.base CX j (C b) m ps (sp b))(c:∀b,Cls X.K (C b))(hr:Room k X.A)(hx:PassesS CX X EE)(he:PE X o ta)(ha:PA X (e::es) t)(hj:j≤k:=by decide)
 (hst:starEach (e::es) X.env=(false,eval e X.env)::starEach es X.env:=by rfl) (hpl:(backTo pos (starEach es X.env)).any (·.1)=false:=by rfl)
 (ht:eval (.Call (.Attribute o m apos) (e::es) [] pos) X.env=(do
  let ov ← eval o X.env
  standAt apos.atName
  let (f,first) ← holding [ov] (getMethod ov m pl)
  callWith pos f first (backTo pos (starEach (e::es) X.env)) (backToKw pos (keywordEach [] X.env))):=by rfl):
 PE X (.Call (.Attribute o m apos) (e::es) [] pos) (tMethI C m sp EE ta t):=by
 intro pins s σ H Q I h
 refine PySem.W.methodCall_KW (pl:=pl) (thn (he pins s σ H _ I h) fun u s1 hq_=>?_) ht
 obtain ⟨x,H1,I1,rx,b,a,dx,fs,ex,ea,l,q⟩:=hq_
 obtain ⟨f,fd,F,hm,hb⟩:=(D b).ex
 subst ex
 obtain rfl:u=Value.ref a:=rx
 refine getmeth_ok I1 ea (c b) hm l ?_
 refine PySem.W.callWith_K (first:=[.ref a]) (h₀:=X.base) I.ok.mod.kin hm.kp (thn (ha pos pins s1 σ H1 _ I1 q) fun us s2 ⟨vs,H2,I2,r,q2⟩=>⟨I2.kIn,?_⟩) hst hpl
 exact run_fnS (us:= .ref a::us) (vs:= .ref a::vs) (F.mono hj) hr hb hx I2 (.cons rfl r) q2
theorem rd_methI{σ:St}{H:Hp}{Q:VK}:tMethI C m sp EE ta t σ H Q=ta σ H fun x H1=>∃b a dx fs,x= .ref a∧H1 a=some (.ins (C b) dx fs)∧fs.lookup m=none∧t σ H1 fun vs H2=>sp b (x::vs) H2 Q (EE σ):=rfl
end
noncomputable def rNeDD:R2:=fun x y H Q=>∃a b kvs,x= .ref a∧y= .ref b∧H a=some (.dK kvs)∧H b=some (.dK kvs)∧(∀p∈kvs,flatV p.2=true)∧Q (.bl false) H
section
variable {X:Cx}
theorem rd_neDD{x y:V}{H:Hp}{Q:VK}:rNeDD x y H Q=∃a b kvs,x= .ref a∧y= .ref b∧H a=some (.dK kvs)∧H b=some (.dK kvs)∧(∀p∈kvs,flatV p.2=true)∧Q (.bl false) H:=rfl
end
end L2
namespace L2
open PySem.W
noncomputable def rIsiO(K:PySem.W.Frag):List V→Hp→VK→Prop:=fun xs H Q=>∃(p C dx D:Addr) (fs:List (Str×V)),xs=[.ref p,.ref D]∧H p=some (.ins C dx fs)∧PySem.W.kitOne K (.ref C) (.ref D)=some true∧Q (.bl true) H
theorem rd_isiO{K:PySem.W.Frag}{xs:List V}{H:Hp}{Q:VK}:rIsiO K xs H Q=∃(p C dx D:Addr) (fs:List (Str×V)),xs=[.ref p,.ref D]∧H p=some (.ins C dx fs)∧PySem.W.kitOne K (.ref C) (.ref D)=some true∧Q (.bl true) H:=rfl
end L2
namespace L2
noncomputable def rSortS(K:PySem.W.Frag):List V→Hp→VK→Prop:=fun xs H Q=>∃(p:Addr) (ys:List Str),xs=[.ref p]∧SqL K H p (ys.map V.str)∧ys.length < 64∧∀(q:Addr) (zs:List Str),H q=none→zs.Perm ys→sortedS zs=true→Q (.ref q) (upd H q (.lst (zs.map V.str)))
theorem sorS_in{ys:List Str}:∀{us:List Value},Vals (ys.map V.str) us→StrsAre us ys:=by
 induction ys with
 | nil=>intro us h;cases h;exact .nil
 | cons y r ih=>
  intro us h
  cases h with
  | cons a b=>
   obtain ⟨t,rfl⟩:=a
   exact .cons y t (ih b)
theorem sorS_out{ys:List Str}{us:List Value}(h:StrsAre us ys):Vals (ys.map V.str) us:=by
 induction h with
 | nil=>exact .nil
 | cons y t _ ih=>exact .cons ⟨t,rfl⟩ ih
section
variable {X:Cx}
theorem call_sortS:CallR X (.builtin "sorted") (rSortS X.K):=by
 intro pins s σ H xs us Q I r h
 obtain ⟨p,ys,rfl,hp,hl,q⟩:=h
 obtain ⟨u,rfl,rx⟩:=vals1 r
 cases rx
 obtain ⟨its,rel,pl,hz⟩:=I.list hp
 have hsa:=sorS_in rel
 have hlen:=rel.length
 rw [List.length_map]at hlen
 refine sorted_strs pl.isList hsa (by omega) fun out ss' a1 a2 a3=>?_
 obtain ⟨e,he⟩:=sortedAll_at s.heap its out
 have hv:=sorS_out a1
 have hol:=hv.length
 rw [List.length_map,a2.length_eq]at hol
 have hnone:H (s.heap.objs.size+1)=none:=I.hok.fresh (Nat.le_succ _)
 refine ⟨.ref (s.heap.objs.size+1),_,I.laid (t':=s.toks) (fun b u q=>sortedAll_old q) (Nat.le_succ _) (show ObjOk X.prog X.w _ (sortedAll s.heap its out) _ (.lst (ss'.map V.str)) from ⟨?_,out.toList,e,hv,?_⟩),rfl,q _ ss' hnone a2 a3⟩
 · rw [List.length_map,a2.length_eq];exact Nat.le_trans (Nat.le_of_lt hl) (by rw [sizeLine_eq];decide)
 · rw [Array.toArray_toList];exact he
end
theorem rd_sortS{K:PySem.W.Frag}{xs:List V}{H:Hp}{Q:VK}:rSortS K xs H Q=∃(p:Addr) (ys:List Str),xs=[.ref p]∧SqL K H p (ys.map V.str)∧ys.length < 64∧∀(q:Addr) (zs:List Str),H q=none→zs.Perm ys→sortedS zs=true→Q (.ref q) (upd H q (.lst (zs.map V.str))):=rfl
theorem str_anti{a b:Str}(h1:ltCps a.cps.toList b.cps.toList=false)(h2:ltCps b.cps.toList a.cps.toList=false):a=b:=by
 rw [ltCps_eq]at h1 h2
 have e:a.cps.toList=b.cps.toList:=List.le_antisymm (List.not_lt.mp (of_decide_eq_false h2)) (List.not_lt.mp (of_decide_eq_false h1))
 have e2:a.cps=b.cps:=Array.toList_inj.mp e
 cases a;cases b;simp_all
theorem risingS_pair:∀(p:Str) (l:List Str),risingS p l=true→∀x∈l,ltCps x.cps.toList p.cps.toList=false:=by
 intro p l
 induction l generalizing p with
 | nil=>intro _ x hx;cases hx
 | cons y r ih=>
  intro h x hx
  have h':(!ltCps y.cps.toList p.cps.toList && risingS y r)=true:=h
  rw [Bool.and_eq_true,Bool.not_eq_true']at h'
  rcases List.mem_cons.mp hx with e | e
  · rw [e];exact h'.1
  · have h3:=ih y h'.2 x e
    have h1:=h'.1
    rw [ltCps_eq]at h1 h3 ⊢
    exact decide_eq_false (List.not_lt.mpr (List.le_trans (List.not_lt.mp (of_decide_eq_false h1)) (List.not_lt.mp (of_decide_eq_false h3))))
theorem sorted_one:∀(a b:List Str),a.Perm b→sortedS a=true→sortedS b=true→a=b:=by
 have tl:∀(x:Str) (r:List Str),sortedS (x::r)=true→sortedS r=true:=fun x r h=>by
  cases r with
  | nil=>rfl
  | cons y r'=>
   have h':(!ltCps y.cps.toList x.cps.toList && risingS y r')=true:=h
   rw [Bool.and_eq_true]at h'
   exact h'.2
 intro a
 induction a with
 | nil=>intro b p _ _;exact (List.nil_perm.mp p).symm
 | cons x r ih=>
  intro b p h1 h2
  cases b with
  | nil=>exact absurd p.length_eq (by simp)
  | cons y t=>
   have e:x=y:=by
    rcases List.mem_cons.mp (p.mem_iff.mp (List.mem_cons_self ..)) with e | e
    · exact e
    · rcases List.mem_cons.mp (p.mem_iff.mpr (List.mem_cons_self (a:=y) (l:=t))) with e' | e'
      · exact e'.symm
      · exact str_anti (risingS_pair y t h2 x e) (risingS_pair x r h1 y e')
   subst e
   rw [ih t (List.Perm.cons_inv p) (tl _ _ h1) (tl _ _ h2)]
end L2
namespace N26
open L2 N1 N5 N4 N6 N12 N32 N14 N20 N18 N25 NR
structure R4 where
 a:List Str
 b:List Str
 p:List Str
 q:List Str
 k:Int
 r:Bool
noncomputable def cnt(s:R4)(u:Str):Nat:=s.a.count u+s.b.count u+s.p.count u+s.q.count u
noncomputable def l4(s:R4)(j:Nat):List Str:=match j with
 | 0=>s.a
 | 1=>s.b
 | 2=>s.p
 | _=>s.q
end N26
namespace N28
open L2 N1 N5 N4 N6 N12 N32 N14 N20 N18 N25 NR N22 N21 N24 N23 N26
structure H6 where
 L:List Str
 k:List (Key×V)
noncomputable def hrot:Nat→H6→H6
 | 0,s=>s
 | m+1,s=>match s.L with
  | []=>s
  | f::r=>if (valV s.k (Sum.inr f)).isSome=true then hrot m ⟨r++[f],dropK s.k (Sum.inr f)⟩ else s
noncomputable def hpk(s:H6):H6:=hrot s.k.length s
theorem hrot_cons{m:Nat}{f:Str}{r:List Str}{k:List (Key×V)}:hrot (m+1) ⟨f::r,k⟩=if (valV k (Sum.inr f)).isSome=true then hrot m ⟨r++[f],dropK k (Sum.inr f)⟩ else ⟨f::r,k⟩:=rfl
theorem drop_len{d:List (Key×V)}{k:Key}(h:(valV d k).isSome=true):(dropK d k).length < d.length:=by
 rw [← valV_any,List.any_eq_true]at h
 obtain ⟨p,hp,e⟩:=h
 have:(d.filter fun kv=>decide (kv.1≠k)).length < d.length:=by
  refine Nat.lt_of_le_of_ne (List.length_filter_le _ _) fun e2=>?_
  have:=(List.length_filter_eq_length_iff.mp e2) p hp
  simp only [decide_eq_true_eq]at this e
  exact this e
 exact this
theorem hrot_fuel:∀(m1 m2:Nat) (s:H6),s.k.length≤m1→s.k.length≤m2→hrot m1 s=hrot m2 s:=by
 intro m1
 induction m1 with
 | zero=>
  intro m2 s h1 h2
  obtain ⟨L,k⟩:=s
  have:k=[]:=List.length_eq_zero_iff.mp (Nat.le_zero.mp h1)
  subst this
  cases m2 with
  | zero=>rfl
  | succ m2=>
   cases L with
   | nil=>rfl
   | cons f r=>rw [hrot_cons,if_neg (by simp [valV])];rfl
 | succ m1 ih=>
  intro m2 s h1 h2
  obtain ⟨L,k⟩:=s
  cases L with
  | nil=>cases m2 <;> rfl
  | cons f r=>
   by_cases hf:(valV k (Sum.inr f)).isSome=true
   · have hd:=drop_len hf
     cases m2 with
     | zero=>simp only at h2 hd;omega
     | succ m2=>
      rw [hrot_cons,hrot_cons,if_pos hf,if_pos hf]
      simp only at h1 h2
      exact ih m2 _ (by show (dropK k (Sum.inr f)).length≤m1;omega) (by show (dropK k (Sum.inr f)).length≤m2;omega)
   · cases m2 with
     | zero=>rw [hrot_cons,if_neg hf];rfl
     | succ m2=>rw [hrot_cons,hrot_cons,if_neg hf,if_neg hf]
theorem hpk_go{f:Str}{r:List Str}{k:List (Key×V)}(h:(valV k (Sum.inr f)).isSome=true):hpk ⟨f::r,k⟩=hpk ⟨r++[f],dropK k (Sum.inr f)⟩:=by
 have hd:=drop_len h
 unfold hpk
 rw [hrot_fuel _ (k.length - 1+1) ⟨f::r,k⟩ (Nat.le_refl _) (by show k.length≤_;omega)]
 rw [hrot_cons,if_pos h]
 exact hrot_fuel _ _ _ (by show (dropK k (Sum.inr f)).length≤_;omega) (Nat.le_refl _)
theorem hpk_end{f:Str}{r:List Str}{k:List (Key×V)}(h:¬(valV k (Sum.inr f)).isSome=true):hpk ⟨f::r,k⟩=⟨f::r,k⟩:=by
 unfold hpk
 rw [hrot_fuel _ (k.length+1) ⟨f::r,k⟩ (Nat.le_refl _) (Nat.le_succ _)]
 rw [hrot_cons,if_neg h]
theorem KeysIn.drop{kvs:List (Key×V)}{ns:List Str}{z:Str}(h:KeysIn kvs ns):KeysIn (dropK kvs (Sum.inr z)) ns:=by
 obtain ⟨ks,e,nd,s⟩:=h
 refine ⟨ks.filter (fun u=>decide (u≠z)),?_,nd.filter _,fun u hu=>s u (List.mem_filter.mp hu).1⟩
 unfold dropK
 clear nd s
 induction kvs generalizing ks with
 | nil=>cases ks with
  | nil=>rfl
  | cons a b=>cases e
 | cons p q ih=>
  cases ks with
  | nil=>cases e
  | cons a b=>
   rw [List.map_cons,List.map_cons]at e
   obtain ⟨e1,e2⟩:=List.cons.inj e
   have:=ih b e2
   by_cases ha:a=z
   · rw [List.filter_cons_of_neg (by rw [e1,ha];simp),List.filter_cons_of_neg (by rw [ha];simp)];exact this
   · rw [List.filter_cons_of_pos (by rw [e1];simp [ha]),List.filter_cons_of_pos (by simp [ha]),List.map_cons,List.map_cons,this,e1]
structure HI6(ns:List Str)(s:H6)(l:List Str):Prop where
 k:KeysIn s.k ns
 p:s.L.Perm l
 nd:s.L.Nodup
 s:∀u∈s.L,u∈ns
theorem hrot_inv{ns l:List Str}:∀(m:Nat) (s:H6),HI6 ns s l→HI6 ns (hrot m s) l:=by
 intro m
 induction m with
 | zero=>exact fun s h=>h
 | succ m ih=>
  intro s h
  obtain ⟨L,k⟩:=s
  cases L with
  | nil=>exact h
  | cons f r=>
   rw [hrot_cons]
   split
   · have hp:(r++[f]).Perm (f::r):=List.perm_append_singleton ..
     exact ih _ ⟨KeysIn.drop h.k,hp.trans h.p,hp.nodup_iff.mpr h.nd,fun u hu=>h.s u (hp.mem_iff.mp hu)⟩
   · exact h
noncomputable def HkAt(C:Addr)(H:Hp)(M:List Addr)(q p:Addr)(n:Int)(s:H6):Prop:=∃od md,M=[q,od,md]∧(∃dx,H q=some (.ins C dx (hfl p od md n)))∧H od=some (.lst (s.L.map V.str))∧H md=some (.dK s.k)
noncomputable def ask6(s:H6)(z:Str):H6:=if z∈s.L then ⟨s.L,putK s.k (Sum.inr z) (.bl true)⟩ else s
theorem ask6_in{s:H6}{z:Str}(h:z∈s.L):ask6 s z=⟨s.L,putK s.k (Sum.inr z) (.bl true)⟩:=by unfold ask6;rw [if_pos h]
theorem ask6_out{s:H6}{z:Str}(h:z∉s.L):ask6 s z=s:=by unfold ask6;rw [if_neg h]
noncomputable def T6(C:Addr):RuleT where
 C:=C
 St:=H6
 At:=HkAt C
 asked:=fun _ s z=>ask6 s z
 pick:=fun _ s _=>(hpk s,(hpk s).L.headD Str.empty)
 gone:=fun _ s z=>⟨s.L.erase z,s.k⟩
 came:=fun _ s z=>⟨s.L++[z],putK s.k (Sum.inr z) (.bl true)⟩
 inv:=fun ns _ s l=>HI6 ns s l
 mid:=fun ns _ _ s l=>HI6 ns s l
 dep:=fun e ⟨od,md,hM,⟨dx,ho⟩,h1,h2⟩=>by
  subst hM
  exact ⟨od,md,rfl,⟨dx,e _ (by simp) _ ho⟩,e _ (by simp) _ h1,e _ (by simp) _ h2⟩
 live:=fun ⟨od,md,hM,⟨dx,ho⟩,h1,h2⟩ m hm e=>by
  subst hM
  simp only [List.mem_cons,List.not_mem_nil,or_false]at hm
  rcases hm with e1 | e1 | e1
  · rw [e1,ho]at e;cases e
  · rw [e1,h1]at e;cases e
  · rw [e1,h2]at e;cases e
 obj:=fun ⟨od,md,hM,⟨dx,ho⟩,h1,h2⟩=>⟨dx,_,ho,hfl_stock,hfl_places,by rfl,by rfl,by rfl,by rfl,by rfl⟩
 i_hit:=fun {ns n s l z} h hn hz=>by
  show HI6 ns (ask6 s z) l
  unfold ask6
  split
  · exact ⟨h.k.put hn,h.p,h.nd,h.s⟩
  · exact h
 i_mid:=fun {ns n s l z} h hn hz=>by
  show HI6 ns (ask6 s z) l
  unfold ask6
  split
  · exact ⟨h.k.put hn,h.p,h.nd,h.s⟩
  · exact h
 i_pick:=fun {ns n s l z} h hl=>by
  have h2:HI6 ns (hpk s) l:=hrot_inv _ _ h
  have hm:(hpk s).L.headD Str.empty∈(hpk s).L:=by
   cases e:(hpk s).L with
   | nil=>have:=h2.p;rw [e]at this;exact absurd (List.nil_perm.mp this) hl
   | cons f r=>exact List.mem_cons_self ..
  exact ⟨h2.p.mem_iff.mp hm,h2.k,h2.p.erase _,h2.nd.erase _,fun u hu=>h2.s u (List.mem_of_mem_erase hu)⟩
 i_came:=fun {ns n s l z} h hn hz=>by
  refine ⟨h.k.put hn,h.p.append_right _,?_,fun u hu=>?_⟩
  · show (s.L++[z]).Nodup
    rw [List.nodup_append]
    refine ⟨h.nd,by simp,fun a ha b hb e=>hz (h.p.mem_iff.mp ?_)⟩
    rw [List.mem_singleton]at hb
    rw [← hb,← e];exact ha
  · rcases List.mem_append.mp hu with hu | hu
    · exact h.s u hu
    · rw [List.mem_singleton.mp hu];exact hn
noncomputable def s60:H6:=⟨[],[]⟩
theorem hi60{ns:List Str}:HI6 ns s60 []:=⟨KeysIn.nil,List.Perm.refl _,List.nodup_nil,by simp [s60]⟩
noncomputable def spI_room{ι:Type}(T:ι→RuleT)(K:PySem.W.Frag)(C S:Addr):Sp:=fun vs H Q E=>∃b,spR_room (T b) K C S vs H Q E
noncomputable def spI_row{ι:Type}(T:ι→RuleT)(K:PySem.W.Frag)(C S:Addr):Sp:=fun vs H Q E=>∃b,spR_row (T b) K C S vs H Q E
noncomputable def sp28_rinit(K:PySem.W.Frag):Sp:=fun vs H Q _=>∃(X q dx p:Addr) (n:Int),vs=[.ref q,.ref p,.int n]∧H q=some (.ins X dx [])∧Cls K X∧NoAttr K X "stock"∧NoAttr K X "places"∧1≤n∧n≤1000000∧∀H',SameBut q H H'→H' q=some (.ins X dx (rf0 p n))→Q .non H'
noncomputable def sp28_kinit(K:PySem.W.Frag):Sp:=fun vs H Q _=>∃(X q dx p:Addr) (n:Int),vs=[.ref q,.ref p,.int n]∧H q=some (.ins X dx [])∧Cls K X∧(NoAttr K X "stock"∧NoAttr K X "places")∧NoAttr K X "present"∧NoAttr K X "last"∧1≤n∧n≤1000000∧∀H' la,SameBut q H H'→H la=none→la≠q→H' q=some (.ins X dx (rf2 p n 0 la))→H' la=some (.dK [])→Q .non H'
noncomputable def sp28_hinit(C:Addr):Sp:=fun vs H Q _=>∃(q dx p:Addr) (n:Int),vs=[.ref q,.ref p,.int n]∧H q=some (.ins C dx [])∧1≤n∧n≤1000000∧∀H' od md,SameBut q H H'→H od=none→H md=none→HkAt C H' [q,od,md] q p n s60→Q .non H'
inductive Wk(R:Str→Int)(n need:Int):List Str→List Str→List Str→Prop
 | nil {l:List Str} (h:need≤n - N41.sm R l):Wk R n need l [] l
 | cons {l w l':List Str} {x:Str} (hx:x∈l) (h:¬need≤n - N41.sm R l) (t:Wk R n need (l.erase x) w l'):Wk R n need l (x::w) l'
theorem gf_walk{T:RuleT}{R:Str→Int}{n need:Int}{z:Str}{ns:List Str}:∀(k:Nat) (s:T.St) (l w:List Str),l.length=k→T.mid ns n z s l→need≤n→∃v,(gf T R n need s l w).2.2=w++v∧Wk R n need l v (gf T R n need s l w).2.1:=by
 intro k
 induction k with
 | zero=>
  intro s l w hk hm hn
  have hL:l=[]:=List.length_eq_zero_iff.mp hk
  subst hL
  have he:need≤n - N41.sm R []:=by rw [N41.sm_nil];omega
  rw [gf_end he]
  exact ⟨[],(List.append_nil _).symm,.nil he⟩
 | succ k ih=>
  intro s l w hk hm hn
  by_cases he:need≤n - N41.sm R l
  · rw [gf_end he]
    exact ⟨[],(List.append_nil _).symm,.nil he⟩
  · have hne:l≠[]:=fun e=>by rw [e]at hk;cases hk
    obtain ⟨hp,hm2⟩:=T.i_pick hm hne
    rw [gf_go he hp]
    have hl:=List.length_erase_of_mem hp
    obtain ⟨v,e1,e2⟩:=ih _ _ (w++[(T.pick n s l).2]) (by omega) hm2 hn
    exact ⟨(T.pick n s l).2::v,by rw [e1,List.append_assoc];rfl,.cons hp he e2⟩
noncomputable def RowW(R:Str→Int)(n:Int)(l:List Str)(z:Str)(b:Bool)(w l':List Str):Prop:=(b=true∧z∈l∧w=[]∧l'=l)∨(b=false∧z∉l∧∃l1,Wk R n (R z) l w l1∧l'=l1++[z])
theorem gask_row{T:RuleT}{R:Str→Int}{n:Int}{z:Str}{ns:List Str}{s:T.St×List Str}(h:GI T ns n s)(hz:z∈ns)(hR:R z≤n):(gask T R n s z).2.1=z∧RowW R n s.2 z (gask T R n s z).2.2.1 (gask T R n s z).2.2.2 (gask T R n s z).1.2:=by
 unfold gask
 split
 · rename_i hm
   exact ⟨rfl,.inl ⟨rfl,hm,rfl,rfl⟩⟩
 · rename_i hm
   obtain ⟨v,e1,e2⟩:=gf_walk (R:=R) (need:=R z) _ _ _ [] rfl (T.i_mid h.i hz hm) hR
   refine ⟨rfl,.inr ⟨rfl,hm,_,?_,rfl⟩⟩
   show Wk R n (R z) s.2 (gf T R n (R z) (T.asked n s.1 z) s.2 []).2.2 _
   rw [e1];exact e2
theorem Wk.ly{R:Str→Int}{n need:Int}{ns:List Str}{z:Str}{l w l':List Str}(h:Wk R n need l w l'):∀{ls:Ly},OkL R ns ls→lyN ls=l→z∉l→lyN (lyDs ls w)=l'∧okG z ls w∧need≤n - N41.sm R l':=by
 induction h with
 | nil h=>intro ls _ e _;exact ⟨e,trivial,h⟩
 | cons hx h t ih=>
  rename_i l0 w0 l1 x
  intro ls ok e hz
  have e2:lyN (lyD ls x)=l0.erase x:=by rw [lyD_names ok.nd,e]
  obtain ⟨a,b,c⟩:=ih ok.drop e2 (fun hh=>hz (List.mem_of_mem_erase hh))
  exact ⟨a,⟨fun ez=>hz (ez▸hx),by rw [e];exact hx,b⟩,c⟩
section
variable {T:RuleT} {R:Str→Int} {n:Int} {s0:T.St} {ys ns:List Str}
theorem grows_at{i:Nat}(h:i < ys.length):(grows T R n s0 ys ys.length)[i]?=some (grow T R n s0 ys i):=by unfold grows;rw [List.getElem?_map,List.getElem?_range h];rfl
theorem gl_st(h0:T.inv ns n s0 [])(hin:∀y∈ys,y∈ns)(hR:∀y∈ys,R y≤n):∀i,i≤ys.length→OkL R ns (stL R ys (grows T R n s0 ys ys.length) i)∧lyN (stL R ys (grows T R n s0 ys ys.length) i)=(gst T R n s0 ys i).2∧(∀z r,i < ys.length→ys[i]?=some z→(grows T R n s0 ys ys.length)[i]?=some r→okRow R n (stL R ys (grows T R n s0 ys ys.length) i) z r):=by
 have row:∀i,i < ys.length→OkL R ns (stL R ys (grows T R n s0 ys ys.length) i)→lyN (stL R ys (grows T R n s0 ys ys.length) i)=(gst T R n s0 ys i).2→∀z,ys[i]?=some z→okRow R n (stL R ys (grows T R n s0 ys ys.length) i) z (grow T R n s0 ys i)∧lyN (stepL R (stL R ys (grows T R n s0 ys ys.length) i) z (grow T R n s0 ys i).2.2)=(gst T R n s0 ys (i+1)).2:=by
  intro i hi ok e z hz
  have hm:=List.mem_of_getElem? hz
  have gi:=gst_inv (T:=T) (R:=R) h0 hin hR i (by omega)
  rw [gst_succ hz,grow_at hz]
  obtain ⟨e1,hw⟩:=gask_row gi (hin z hm) (hR z hm)
  rcases hw with ⟨b,hz1,w,l'⟩ | ⟨b,hz1,l1,wk,l'⟩
  · rw [← e]at hz1
    rw [l',step_there hz1,w]
    refine ⟨⟨e1,by rw [b];exact (decide_eq_true hz1).symm,by rw [w];trivial,fun hh=>absurd hz1 hh⟩,e⟩
  · have hz2:=hz1
    rw [← e]at hz2
    obtain ⟨a1,a2,a3⟩:=wk.ly ok e hz1
    rw [l',step_N hz2,a1]
    refine ⟨⟨e1,by rw [b];exact (decide_eq_false hz2).symm,a2,fun _=>?_⟩,rfl⟩
    rw [okl_sum (ns:=ns) (OkL.drops (g:=(gask T R n (gst T R n s0 ys i) z).2.2.2) ok).r,a1]
    exact a3
 intro i
 induction i with
 | zero=>
  intro _
  have ok:OkL R ns (stL R ys (grows T R n s0 ys ys.length) 0):=OkL.nil
  exact ⟨ok,rfl,fun z r hi hz hr=>by rw [grows_at hi]at hr;cases hr;exact (row 0 hi ok rfl z hz).1⟩
 | succ i ih=>
  intro hi
  obtain ⟨ok,e,_⟩:=ih (by omega)
  have hi':i < ys.length:=by omega
  have hz:=List.getElem?_eq_getElem hi'
  have st:=stL_succ (R:=R) hz (grows_at (T:=T) (R:=R) (n:=n) (s0:=s0) hi')
  have ok2:OkL R ns (stL R ys (grows T R n s0 ys ys.length) (i+1)):=by rw [st];exact ok.step (hin _ (List.mem_of_getElem? hz))
  have e2:lyN (stL R ys (grows T R n s0 ys ys.length) (i+1))=(gst T R n s0 ys (i+1)).2:=by rw [st];exact (row i hi' ok e _ hz).2
  exact ⟨ok2,e2,fun z r hi2 hz2 hr=>by rw [grows_at hi2]at hr;cases hr;exact (row (i+1) hi2 ok2 e2 z hz2).1⟩
theorem gl_lawful(h0:T.inv ns n s0 [])(hin:∀y∈ys,y∈ns)(hR:∀y∈ys,R y≤n):Lawful R n ys (grows T R n s0 ys ys.length):=by
 refine ⟨grows_len.symm,fun {i z r} h1 h2=>?_⟩
 have hi:=(List.getElem?_eq_some_iff.mp h1).1
 exact (gl_st h0 hin hR i (by omega)).2.2 z r hi h1 h2
end
noncomputable def spI_bookN{ι:Type}(T:ι→RuleT)(K:PySem.W.Frag)(C S:Addr):Sp:=fun vs H Q E=>∃b,spR_bookN (T b) K C S vs H Q E
end N28
namespace L2
noncomputable def OptV:Option V→Option Value→Prop
 | none,o=>o=none
 | some v,o=>∃u,o=some u∧RelV v u
structure KTab(P:Params)(K:PySem.W.Frag)(a:Addr)(x:Str)(o:Option V):Prop where
 lo:(a==sysModules)=false
 ex:∃es n,K.lookup a=some ⟨.type "dict",none,.dict es n,#[]⟩∧PySem.W.KeysLit P es.toList∧OptV o (findBy Value.isStrOf es x)
theorem ktab_of{P:Params}{K:PySem.W.Frag}{a:Addr}{x:Str}{o:Option V}{r:Option Value}{es:Array DictEntry}{n:Nat}(lo:(a==sysModules)=false)(hl:K.lookup a=some ⟨.type "dict",none,.dict es n,#[]⟩)(hk:PySem.W.KeysLit P es.toList)(e:PySem.W.nsIn K a x=some r)(q:OptV o r):KTab P K a x o:=
 ⟨lo,es,n,hl,hk,by rw [PySem.W.find_K hl e];exact q⟩
noncomputable def tKGet(P:Params)(K:PySem.W.Frag)(td ty:TE):TE:=fun σ H Q=>td σ H fun x H1=>ty σ H1 fun y H2=>∃a w v,x= .ref a∧y= .str w∧KTab P K a w (some v)∧Q v H2
noncomputable def tKNin(P:Params)(K:PySem.W.Frag)(ty td:TE):TE:=fun σ H Q=>ty σ H fun y H1=>td σ H1 fun x H2=>∃a w o,x= .ref a∧y= .str w∧KTab P K a w o∧Q (.bl (!o.isSome)) H2
section
variable {X:Cx} {o i:Expr} {td ty:TE} {pos:Pos}
theorem pe_kget(ho:PE X o td)(hi:PE X i ty)(hs:NoSl i):PE X (.Subscript o i pos) (tKGet X.w.params X.K td ty):=by
 intro pins s σ H Q I h
 refine subD_of PySem.F.slot_dict_getitem.lookup hs (thn (ho pins s σ H _ I h) fun u s1 ⟨x,H1,I1,rx,q1⟩=>thn (hi pins s1 σ H1 _ I1 q1) fun iv s2 hq_=>?_)
 obtain ⟨y,H2,I2,ry,a,w,v,ex,ey,g,q2⟩:=hq_
 subst ex
 subst ey
 obtain rfl:u=Value.ref a:=rx
 obtain ⟨t,rfl⟩:=ry
 obtain ⟨es,n,hl,hk,hf⟩:=g.ex
 have hm:=PySem.W.mapOf_K (prog:=X.prog) (w:=X.w) I2.kIn hl hk
 obtain ⟨r,e1,e2⟩:=hf
 exact ⟨hm.typeIs,wpAny_getItem_of (strKind_is X.prog X.w w t) hm e1 ⟨v,H2,I2.tok _,e2,q2⟩⟩
theorem pc_knin(hi:PE X i ty)(ho:PE X o td):PC X .NotIn i o (tKNin X.w.params X.K ty td):=by
 intro pins s σ H Q I h
 refine thn (hi pins s σ H _ I h) fun iv s1 ⟨y,H1,I1,ry,q1⟩=>thn (ho pins s1 σ H1 _ I1 q1) fun u s2 hq_=>?_
 obtain ⟨x,H2,I2,rx,a,w,ov,ex,ey,g,q2⟩:=hq_
 subst ex
 subst ey
 obtain rfl:u=Value.ref a:=rx
 obtain ⟨t,rfl⟩:=ry
 obtain ⟨es,n,hl,hk,hf⟩:=g.ex
 have hm:=PySem.W.mapOf_K (prog:=X.prog) (w:=X.w) I2.kIn hl hk
 refine wpAny_notIn_of (strKind_is X.prog X.w w t) g.lo hm ⟨.bl (!ov.isSome),H2,I2.tok _,?_,q2⟩
 show Value.bool _=Value.bool _
 cases ov with
 | none=>rw [show findBy Value.isStrOf es w=none from hf];rfl
 | some v=>obtain ⟨r,e1,_⟩:=hf;rw [e1];rfl
theorem rd_kget{P:Params}{K:PySem.W.Frag}{σ:St}{H:Hp}{Q:VK}:tKGet P K td ty σ H Q=td σ H fun x H1=>ty σ H1 fun y H2=>∃a w v,x= .ref a∧y= .str w∧KTab P K a w (some v)∧Q v H2:=rfl
theorem rd_knin{P:Params}{K:PySem.W.Frag}{σ:St}{H:Hp}{Q:VK}:tKNin P K ty td σ H Q=ty σ H fun y H1=>td σ H1 fun x H2=>∃a w o,x= .ref a∧y= .str w∧KTab P K a w o∧Q (.bl (!o.isSome)) H2:=rfl
end
end L2
namespace N63
open L2 N1 N5 N4 N6 N12 N32 N14 N20 N18 N25 NR N22 N21 N28
section
variable {C:Addr} {R:Str→Int} {n1 n2:Int} {ns ys:List Str}
theorem li0:LI ns s20 []:=⟨KeysIn.nil,by simp,List.Pairwise.nil⟩
end
section
variable {H H':Hp} {x dx:Addr} {o:HO}
theorem mk_same(h1:H x=none)(h2:H dx=none)(s:SameBut x (upd (upd H dx (.own x)) x o) H'):Same H H':=fun b ob e=>by
 have n1:b≠x:=fun e2=>by rw [e2,h1]at e;cases e
 have n2:b≠dx:=fun e2=>by rw [e2,h2]at e;cases e
 exact s b ob (by rw [upd_ne n1,upd_ne n2];exact e) n1
theorem mk_old(h1:H x=none)(h2:H dx=none):Same H (upd (upd H dx (.own x)) x o):=fun b ob e=>by
 have n1:b≠x:=fun e2=>by rw [e2,h1]at e;cases e
 have n2:b≠dx:=fun e2=>by rw [e2,h2]at e;cases e
 rw [upd_ne n1,upd_ne n2];exact e
theorem mk_none(h1:H x=none)(h2:H dx=none){l:Addr}(h:upd (upd H dx (.own x)) x o l=none):H l=none:=by
 cases e:H l with
 | none=>rfl
 | some ob=>rw [mk_old (o:=o) h1 h2 _ _ e]at h;cases h
end
noncomputable def sp63_greater:Sp:=fun vs H Q _=>∃a b:Int,vs=[.int a,.int b]∧a≤b∧b≤1000000∧Q .non H
structure RowOk(K:PySem.W.Frag)(C:Addr)(H:Hp)(st a:Addr)(n:Int)(ts:List Th)(ys:List Str):Prop where
 s:StockAt K C H st ts
 nd:(ts.map (·.1)).Nodup
 tl:ts.length≤60
 a:H a=some (.lst (ys.map V.str))
 l:ys.length≤200
 i:∀y∈ys,y∈ts.map (·.1)
 r:∀y∈ys,rm ts y≤n
 n1:1≤n
 n2:n≤1000000
theorem RowOk.same{K:PySem.W.Frag}{C:Addr}{H H':Hp}{st a:Addr}{n:Int}{ts:List Th}{ys:List Str}(h:RowOk K C H st a n ts ys)(s:Same H H'):RowOk K C H' st a n ts ys:=⟨h.s.same s,h.nd,h.tl,s _ _ h.a,h.l,h.i,h.r,h.n1,h.n2⟩
noncomputable def pm(H:Hp):V→Bool
 | .ref a=>match H a with
  | some (.tup [_,.bl b,_])=>!b
  | _=>false
 | _=>false
end N63
namespace L2
open PySem.W
noncomputable def OnlyT(tp:Addr)(H:Hp):Prop:=H tp=some (.tbl #[])∧∀b,b≠tp→H b=none∨∃o xs,H b=some (.frz o (.lst xs))
theorem law_callT{P:Program}{w:World}{K:PySem.W.Frag}{mg mb:Str→Option Value}{CX:CXT}{k:Nat}{fa a tp:Addr}{fd:FuncData}{x:Str}{sp:Sp}{s₁:Shared}{vs:List Value}{ns:List Int}
 (KX:K.In s₁.heap) (hns:s₁.heap.Ns mainGlobals mg) (hb:s₁.heap.Ns builtinsNs mb) (hbb:∀x:Str,x≠"__name__"→mb x=bootBuiltins x) (hlim:s₁.heap.NoLimit) (hg:s₁.gens=#[])
 (ha:s₁.heap.get? a=some {cls:= .type "list",data:= .seq vs.toArray}) (hi:IntsAre vs ns) (hl:ns.length≤sizeLine) (hr:Room k callerA)
 (hT:s₁.heap.get? tp=some (tabObj #[])) (hct:isCodeTable s₁.heap tp) (hKt:K.lookup tp=none)
 (hbm:∃bm ob,mg "__builtins__"=some (.ref bm)∧bm≠builtinsNs∧s₁.heap.get? bm=some ob∧ob.cls= .type "module"∧ob.dict=some builtinsNs∧ob.data= .plain)
 (F:∀base:Heap,K.In base→base.Ns mainGlobals mg→base.BuiltinsAt mg tp→FnOk P w K mg base CX k fa fd [x] sp) (hbind:∀(s:Shared) (u:Value),BindsTo s fd ⟨[u],[]⟩ [(x,u)])
 (hsp:∀H:Hp,OnlyT tp H→SqL K H a (ns.map V.int)→sp [.ref a] H (fun v _=>v= .bl true) fun _ _ _=>False)
 (hCX:∀H e s',CX [] H s₁ (fun _ _ _=>False) e s'→False):
 codeAny (model P w) callerA (.call (.ref fa) ⟨[.ref a],[]⟩) (fun r s'=>r= .ok (.ret (.bool true))∧OldK s₁.heap s'.heap∧s'.os=s₁.os∧AllBare s'.gens) s₁:=by
 have rv:=vals_ints hi
 have lenV:=hi.length
 have nta:tp≠a:=fun e=>by rw [e,ha]at hT;cases hT
 have core:∀H:Hp,OnlyT tp H→SqL K H a (ns.map V.int)→HOk P w H s₁.heap→(∀b,b≠tp→H b≠none→b=a∧K.lookup a=none)→
  codeAny (model P w) callerA (.call (.ref fa) ⟨[.ref a],[]⟩) (fun r s'=>r= .ok (.ret (.bool true))∧OldK s₁.heap s'.heap∧s'.os=s₁.os∧AllBare s'.gens) s₁:=by
  intro H hO hS hok hA
  have off:∀{b:Addr} {o:Obj} {es:Array DictEntry} {ep:Nat},s₁.heap.get? b=some o→o.data= .dict es ep→H b=none:=fun {b o es ep} e d=>by
   by_cases h1:b=tp
   · subst h1;rw [hT]at e;cases e;cases d
   · cases q:H b with
     | none=>rfl
     | some u=>
      obtain ⟨e',_⟩:=hA b h1 (by rw [q];simp)
      subst e';rw [ha]at e;cases e;cases d
  have nsT:∀{b:Addr} {m:Str→Option Value},s₁.heap.Ns b m→(hidT s₁.heap H).Ns b m:=fun {b m} ⟨o,es,ep,e,d,r⟩=>⟨o,es,ep,hidT_get e (off e d),d,r⟩
  have inT:K.In (hidT s₁.heap H):=fun b o e=>hidT_get (KX b o e) (by
   by_cases h1:b=tp
   · subst h1;rw [hKt]at e;cases e
   · cases q:H b with
     | none=>rfl
     | some u=>
      obtain ⟨e',hk⟩:=hA b h1 (by rw [q];simp)
      subst e';rw [hk]at e;cases e)
  have mT:Mod K mg (hidT s₁.heap H):=⟨inT,nsT hns,⟨mb,nsT hb,hbb⟩,let ⟨mc,h1,h2⟩:=hlim;⟨mc,nsT h1,h2⟩⟩
  have e0:Env0 P w K mg (hidT s₁.heap H) callerA [] s₁ H:=⟨rfl,mT,fun b o e=>of_hidT e,Nat.le_of_eq (hidT_size _ _),trivial,fun b hb=>absurd (show b∈([]:List Addr) from hb) (by simp),hok,.of_eq hg⟩
  have bT:(hidT s₁.heap H).BuiltinsAt mg tp:=by
   obtain ⟨bm,ob,m1,m2,m3,m4,m5,m6⟩:=hbm
   have ntp:bm≠tp:=fun e=>by rw [e,hT]at m3;cases m3;cases m4
   refine ⟨bm,ob,m1,m2,fun e=>?_,ntp,hidT_get m3 ?_,m4,m5,m6⟩
   · obtain ⟨o,es,ep,e1,d1,_⟩:=hns
     rw [← e,m3]at e1
     cases e1
     rw [m6]at d1
     cases d1
   · cases q:H bm with
     | none=>rfl
     | some u=>
      obtain ⟨e',_⟩:=hA bm ntp (by rw [q];simp)
      rw [e',ha]at m3
      cases m3
      cases m6
  refine codeAny_mono ((F _ inT (nsT hns) bT).run callerA [] s₁ H ⟨[.ref a],[]⟩ [.ref a] [.ref a] _ _ hr e0 (hbind s₁ (.ref a)) (.cons rfl .nil) (hsp H hO hS)) fun r s' h=>?_
  cases r with
  | error e=>exact (hCX H e s' h).elim
  | ok fl=>
   cases fl with
   | next=>exact False.elim h
   | brk=>exact False.elim h
   | cont=>exact False.elim h
   | ret u=>
    obtain ⟨v,H',os,bare,un,hok',r',q⟩:=h
    obtain rfl:v= .bl true:=q
    obtain rfl:u=Value.bool true:=r'
    have kp:∀b o,b≠tp→s₁.heap.get? b=some o→s'.heap.get? b=some o:=fun b o nb e=>by
     cases q:H b with
     | none=>exact un.keep b o e q (by intro z;exact absurd (show b∈([]:List Addr) from z) (by simp)) (by simp)
     | some u=>
      rcases hO.2 b nb with z | ⟨ob,xs,z⟩
      · rw [q]at z;cases z
      · obtain ⟨e1,_⟩:=hok b _ z
        obtain ⟨e2,_⟩:=hok' b _ (un.frzs b ob _ z)
        rw [e]at e1;cases e1
        exact e2
    obtain ⟨more,hm⟩:=un.tbls tp #[] hO.1
    have tT:s'.heap.get? tp=some {cls:= .none,data:= .fields (#[]++more)}:=hok' tp _ hm
    refine ⟨rfl,⟨fun b o e=>?_,fun b o e=>?_⟩,os,bare⟩
    · by_cases nb:b=tp
      · subst nb
        rw [hT]at e;cases e
        exact .inr (.inl ⟨hct,rfl,#[],more,rfl,tT⟩)
      · exact .inl (kp b o nb e)
    · by_cases nb:b=tp
      · subst nb;exact ⟨_,tT⟩
      · exact ⟨o,kp b o nb e⟩
 have tOk:∀H:Hp,ObjOk P w H s₁.heap tp (.tbl #[]):=fun H=>hT
 cases hk:K.lookup a with
 | some o=>
  have e:=KX a o hk
  rw [ha]at e
  cases e
  refine core (fun b=>if b=tp then some (.tbl #[]) else none) ⟨if_pos rfl,fun b nb=> .inl (if_neg nb)⟩ (.inr ⟨_,vs.toArray,_,hk,rfl,rfl,rfl,by rw [List.size_toArray,lenV];exact hl,by simpa using rv⟩) (fun b u z=>?_) (fun b nb z=>absurd (if_neg nb) z)
  by_cases h1:b=tp
  · have z':=(if_pos h1).symm.trans z
    cases z';subst h1;exact tOk _
  · have z':=(if_neg h1).symm.trans z
    cases z'
 | none=>
  refine core (fun b=>if b=tp then some (.tbl #[]) else if b=a then some (.frz {cls:= .type "list",data:= .seq vs.toArray} (.lst (ns.map V.int))) else none) ⟨if_pos rfl,fun b nb=>?_⟩ (.inl (.inr ⟨{cls:= .type "list",data:= .seq vs.toArray},(if_neg nta.symm).trans (if_pos rfl)⟩)) (fun b u z=>?_) (fun b nb z=>⟨?_,hk⟩)
  · by_cases h2:b=a
    · exact .inr ⟨_,_,(if_neg nb).trans (if_pos h2)⟩
    · exact .inl ((if_neg nb).trans (if_neg h2))
  · by_cases h1:b=tp
    · have z':=(if_pos h1).symm.trans z
      cases z';subst h1;exact tOk _
    · have z1:=(if_neg h1).symm.trans z
      by_cases h2:b=a
      · have z':=(if_pos h2).symm.trans z1
        cases z';subst h2
        exact ⟨ha,by rw [List.length_map];exact hl,vs,_,rv,ha⟩
      · have z':=(if_neg h2).symm.trans z1
        cases z'
  · by_cases h2:b=a
    · exact h2
    · exact absurd ((if_neg nb).trans (if_neg h2)) z
theorem walk_ofKT{l:PySem.W.OpenLaw}{n k:Nat}{q:Program}{loose:List Str}{XP:(Str→Option Value)→Heap→Prop}{YP:World→Heap→Prop}{d:DefRec}{K:Params→PySem.W.Frag}{CX:CXT}{sp:PySem.W.Frag→Sp}{x:Str}{tp:Addr}
 (hn:l.most=some n) (hn2:n≤sizeLine) (hdf:d.params.defaults=[]) (hr:Room k callerA)
 (hY:∀(w:World) (h:Heap),YP w h→(K w.params).In h) (hT:∀(w:World) (h:Heap),YP w h→h.get? tp=some (tabObj #[])) (hKt:∀w:World,(K w.params).lookup tp=none)
 (F:∀(w:World) (mg:Str→Option Value) (fa:Addr) (h:Heap),(K w.params).In h→h.Ns mainGlobals mg→mg d.name=some (.ref fa)→
  (∃c,codeHdIn (K w.params) c tp=true)∧∃fd:FuncData,(∀(s:Shared) (u:Value),BindsTo s fd ⟨[u],[]⟩ [(x,u)])∧
   ∀base:Heap,(K w.params).In base→base.Ns mainGlobals mg→base.BuiltinsAt mg tp→FnOk l.prog w (K w.params) mg base CX k fa fd [x] (sp (K w.params)))
 (hsp:∀(K:PySem.W.Frag) (H:Hp) (a:Addr) (ns:List Int),ns.length≤n→OnlyT tp H→SqL K H a (ns.map V.int)→sp K [.ref a] H (fun v _=>v= .bl true) fun _ _ _=>False)
 (hCX:∀(H:Hp) (s:Shared) (e:Value) (s':Shared),CX [] H s (fun _ _ _=>False) e s'→False):
 PySem.W.WalkO q loose XP YP l.row.toRowW d [] (fun f vs=>PySem.call f vs):=by
 refine Att.attach_call hn hdf fun w s₀ s₁ mg mb fa o pm cd doc a vs ns G Y ho hd hcd hmg hobj hints hlen hg=>?_
 have KX:=hY w _ Y
 obtain ⟨⟨c,hc⟩,fd,hb,hF⟩:=F w mg fa _ KX G.T.g hmg
 have hct:isCodeTable s₁.heap tp:=by
  obtain ⟨o,vs,f,tf,fl,tg,b,n,tt,e1,e2,e3,e4,_⟩:=codeHd_of_K KX hc
  exact ⟨c,o,vs,e1,e2,e3,e4⟩
 exact law_callT KX G.T.g G.T.b G.T.builtins G.T.nolimit hg hobj hints (Nat.le_trans hlen hn2) hr (hT w _ Y) hct (hKt w) G.T.bmain hF hb (fun H hO hS=>hsp (K w.params) H a ns hlen hO hS) fun H e s'=>hCX H s₁ e s'
section
variable {X:Cx} {pins:List (Addr×Obj)} {σ:List (Option V)} {H H':Hp} {s:Shared} {h':Heap}
theorem Inv.grown{t':Nat}{tp:Addr}{ps more:Array Value}(I:Inv X pins σ H s)(ht:H tp=some (.tbl ps))(k:∀b u,b≠tp→s.heap.get? b=some u→h'.get? b=some u)(e:h'.get? tp=some (tabObj (ps++more)))
 (hT:H' tp=some (.tbl (ps++more))) (old:∀b,b≠tp→b < s.heap.objs.size→H' b=H b) (new:∀b u,s.heap.objs.size≤b→H' b=some u→ObjOk X.prog X.w H' h' b u):Inv X pins σ H' {s with heap:=h',toks:=t'}:=by
 have lt:∀b u,H b=some u→b < s.heap.objs.size:=fun b u q=>(I.hok b u q).lt
 have nt:∀b u,H b=some u→(∀ps,u≠ .tbl ps)→b≠tp:=fun b u q n z=>by rw [z,ht]at q;cases q;exact n _ rfl
 have st:∀b u,H b=some u→b≠tp→H' b=some u:=fun b u q n=>by rw [old b n (lt b u q)];exact q
 refine I.un ⟨fun b o q n _ _=>k b o (fun z=>by rw [z,ht]at n;cases n) q,fun b o q n _ _=>⟨o.slots,k b o (fun z=>by rw [z,ht]at n;cases n) q⟩,fun b o q n _=>?_,fun b o q _=>?_,fun b xs q=>st b _ q (nt b _ q fun _ z=>by cases z),fun b o u q=>st b _ q (nt b _ q fun _ z=>by cases z),fun b ps' q=>?_⟩ fun b u q=>?_
 · rw [old b (fun z=>by rw [z,ht]at n;cases n) (Heap.lt_size q)];exact n
 · by_cases z:b=tp
   · subst z;exact ⟨_,e⟩
   · exact ⟨o,k b o z q⟩
 · by_cases z:b=tp
   · subst z;rw [ht]at q;cases q;exact ⟨more,hT⟩
   · exact ⟨#[],by rw [st b _ q z];simp⟩
 · by_cases z:b=tp
   · subst z;rw [hT]at q;cases q;exact e
   · by_cases hb:b < s.heap.objs.size
     · have q0:H b=some u:=by rw [← old b z hb];exact q
       refine (I.hok b u q0).stay (fun c v hc r=>k c v (fun w'=>?_) r) (fun c r=>st c _ r (nt c _ r fun _ z=>by cases z)) fun c xs r=>st c _ r (nt c _ r fun _ z=>by cases z)
       rcases hc with rfl | hc
       · exact z w'
       · rw [w',ht]at hc;cases hc
     · exact new b u (Nat.le_of_not_lt hb) q
end
noncomputable def codeO(c:Addr)(qual:Str):HO:= .ext fun h=>h.CodeRec (.ref c) qual
noncomputable def fnO(f:Addr)(o:Obj):HO:= .ext fun h=>h.get? f=some o
theorem codeO_ok{P:Program}{w:World}{H:Hp}{h:Heap}{c:Addr}{qual:Str}(x:h.CodeRec (.ref c) qual):ObjOk P w H h c (codeO c qual):=by
 refine ⟨x,?_,fun h1 h2 y k=>?_⟩
 · obtain ⟨c',oc,vs,tq,e,hoc,_⟩:=x
   cases e
   exact ⟨oc,hoc⟩
 · obtain ⟨c',oc,vs,tq,e,hoc,r⟩:=y
   cases e
   exact ⟨_,oc,vs,tq,rfl,k _ hoc,r⟩
theorem fnO_ok{P:Program}{w:World}{H:Hp}{h:Heap}{f:Addr}{o:Obj}(x:h.get? f=some o):ObjOk P w H h f (fnO f o):=⟨x,⟨o,x⟩,fun _ _ y k=>k _ y⟩
noncomputable def MkAt(K:PySem.W.Frag)(f tp:Addr):Prop:=∃(oc:Value) (od:Option Addr) (fd:FuncData) (sl:Array (Option Value)) (c:Addr),K.lookup f=some ⟨oc,od,.func fd,sl⟩∧fd.code= .ref c∧codeHdIn K c tp=true
end L2
namespace L2
open PySem.W
noncomputable def celO(c:Addr)(o:Obj):HO:= .frz o (.ext fun h=>h.get? c=some o)
theorem celO_ok{P:Program}{w:World}{H:Hp}{h:Heap}{c:Addr}{o:Obj}(e:h.get? c=some o):ObjOk P w H h c (celO c o):=⟨e,e,⟨o,e⟩,fun _ _ y k=>k _ y⟩
structure LamT where
 qual:Str
 args:Arguments
 body:Expr
 scope:Scope
noncomputable abbrev lamO(L:LamT)(cl:List (Str×Addr))(pm:Value)(cd:Addr)(ct:Value):Obj:=kla_obj "<lambda>" L.qual L.args L.body L.scope cl pm cd ct
noncomputable def LamAt(L:LamT)(cl:List (Str×Addr))(H:Hp)(f:Addr):Prop:=∃pm cd ct,H f=some (fnO f (lamO L cl pm cd ct))∧H cd=some (codeO cd L.qual)
noncomputable def CellsAt(H:Hp)(cl:List (Str×Addr))(vs:List V):Prop:=Paired (fun (p:Str×Addr) (v:V)=>∃o u,H p.2=some (celO p.2 o)∧o.data= .cell (some u)∧RelV v u) cl vs
theorem LamAt.same{L:LamT}{cl:List (Str×Addr)}{H H':Hp}{f:Addr}(s:Same H H')(h:LamAt L cl H f):LamAt L cl H' f:=let ⟨pm,cd,ct,a,b⟩:=h;⟨pm,cd,ct,s _ _ a,s _ _ b⟩
theorem CellsAt.same{cl:List (Str×Addr)}{H H':Hp}{vs:List V}(s:Same H H')(h:CellsAt H cl vs):CellsAt H' cl vs:=Paired.mapP h fun p v ⟨o,u,a,b⟩=>⟨o,u,s _ _ a,b⟩
theorem CellsAt.get{H:Hp}:∀{cl:List (Str×Addr)} {vs:List V},CellsAt H cl vs→∀p∈cl,∃o u,H p.2=some (celO p.2 o)∧o.data= .cell (some u)
 | _,_,.nil,_,h=>by cases h
 | _,_,.cons ⟨o,u,a,b,_⟩ t,p,h=>by
  rcases List.mem_cons.mp h with rfl | h
  · exact ⟨o,u,a,b⟩
  · exact CellsAt.get t p h
theorem CellsAt.ix{H:Hp}:∀{cl:List (Str×Addr)} {vs:List V} {i:Nat} {v:V},CellsAt H cl vs→vs[i]?=some v→∃p o u,cl[i]?=some p∧H p.2=some (celO p.2 o)∧o.data= .cell (some u)∧RelV v u
 | _,_,_,_,.nil,h=>by cases h
 | _,_,0,v,.cons ⟨o,u,a,b,c⟩ t,h=>by
  simp at h;subst h
  exact ⟨_,o,u,rfl,a,b,c⟩
 | _,_,i+1,v,.cons _ t,h=>by
  obtain ⟨p,o,u,e,r⟩:=CellsAt.ix (i:=i) (v:=v) t (by simpa using h)
  exact ⟨p,o,u,by simpa using e,r⟩
noncomputable def unk(H:Hp)(as:List Addr):Hp:=fun b=>if b∈as then none else H b
noncomputable def retr(H H0:Hp)(as:List Addr):Hp:=fun b=>if b∈as then H0 b else H b
section
variable {H H0:Hp} {as:List Addr} {b:Addr}
theorem unk_in(h:b∈as):unk H as b=none:=if_pos h
theorem unk_out(h:b∉as):unk H as b=H b:=if_neg h
theorem retr_in(h:b∈as):retr H H0 as b=H0 b:=if_pos h
theorem retr_out(h:b∉as):retr H H0 as b=H b:=if_neg h
theorem unk_none(h:H b=none):unk H as b=none:=by
 by_cases z:b∈as
 · exact unk_in z
 · rw [unk_out z];exact h
theorem unk_some{o:HO}(h:unk H as b=some o):b∉as∧H b=some o:=by
 by_cases z:b∈as
 · rw [unk_in z]at h;cases h
 · rw [unk_out z]at h;exact ⟨z,h⟩
end
structure LamScope(N ps:List Str)(sc:Scope)(cl:List (Str×Addr)):Prop where
 kind:sc.kind= .function
 co:sc.isCoroutine=false
 gen:sc.isGenerator=false
 nd:(ps++cl.map (·.1)).Nodup
 N:N=ps++cl.map (·.1)
 par:∀x∈ps,sc.names.lookup x=some .local
 nocell:∀y∈sc.names,y.2≠ .cell
 fr:∀x,sc.names.lookup x=some .free→∃c,cl.lookup x=some c
 frk:∀p∈cl,sc.names.lookup p.1=some .free
 inj:∀x y c,cl.lookup x=some c→cl.lookup y=some c→x=y
noncomputable def cxL(P:Program)(w:World)(K:PySem.W.Frag)(mg:Str→Option Value)(base:Heap)(N:List Str)(qual:Str)(scope:Scope)(f:Addr)(cd:Value)(A:Around)(outer:List Env)(s:Shared)(H:Hp)(cl:List (Str×Addr)):Cx where
 prog:=P
 w:=w
 K:=K
 mg:=mg
 base:=base
 A:=A.deeper (envX qual scope s.heap.objs.size f cd cl)
 N:=N
 s₀:=s
 H₀:=H
 env:=envX qual scope s.heap.objs.size f cd cl
 outer:=outer
 stack:=envX qual scope s.heap.objs.size f cd cl::outer
 ex:=[]
 calm:=true
 fn:=fun _=>false
 pn:=[]
 xe:=fun _ _=>False
theorem look_of{x:Str}{u:Value}:∀{l:List (Str×Value)},(l.map (·.1)).Nodup→(x,u)∈l→l.lookup x=some u:=by
 intro l
 induction l with
 | nil=>intro _ h;cases h
 | cons p r ih=>
  intro nd h
  rw [List.map_cons,List.nodup_cons]at nd
  rcases List.mem_cons.mp h with e | h
  · rw [← e,List.lookup_cons_self]
  · have n:x≠p.1:=fun e=>nd.1 (List.mem_map.mpr ⟨_,h,e⟩)
    rw [List.lookup_cons,show (x==p.1)=false from beq_eq_false_iff_ne.mpr n]
    exact ih nd.2 h
theorem zip_look{x:Str}{u:Value}:∀{ps:List Str} {us:List Value} {i:Nat},ps.Nodup→ps[i]?=some x→us[i]?=some u→(ps.zip us).reverse.lookup x=some u:=by
 intro ps us i nd h1 h2
 refine look_of ?_ ?_
 · rw [List.map_reverse]
   refine (List.reverse_perm _).nodup_iff.mpr ?_
   have key:∀(ps:List Str) (us:List Value),((ps.zip us).map (·.1)).Sublist ps:=by
    intro ps
    induction ps with
    | nil=>intro us;cases us <;> exact List.Sublist.refl _
    | cons p r ih=>
     intro us
     cases us with
     | nil=>exact List.nil_sublist _
     | cons u v=>exact (ih v).cons₂ p
   exact nd.sublist (key ps us)
 · rw [List.mem_reverse]
   exact List.mem_of_getElem? (i:=i) (by rw [List.getElem?_zip_eq_some];exact ⟨h1,h2⟩)
section
variable {P:Program} {w:World} {K:PySem.W.Frag} {mg:Str→Option Value} {base:Heap}
theorem lam_run{k:Nat}{f:Addr}{L:LamT}{cl:List (Str×Addr)}{pm ct:Value}{cd:Addr}{N ps:List Str}{A:Around}{outer:List Env}{s:Shared}{H:Hp}{us:List Value}{vs fvs:List V}{Q:VK}{E:XK}
 (S:LamScope N ps L.scope cl) (hb:bindArgs (kla_fn "<lambda>" L.qual L.args L.body L.scope cl pm (.ref cd) ct) ⟨us,[]⟩=pure (ps.zip us)) (hr:Room (k+1) A) (e0:Env0 P w K mg base A outer s H) (r:Vals vs us) (hl:vs.length=ps.length)
 (hf:H f=some (fnO f (lamO L cl pm cd ct))) (hc:H cd=some (codeO cd L.qual)) (hcs:CellsAt H cl fvs)
 (hbody:∃t,PE (cxL P w K mg base N L.qual L.scope f (.ref cd) A outer s (unk H (cl.map (·.2))) cl) L.body t∧t (vs.map some++fvs.map some) (unk H (cl.map (·.2))) fun v H'=>(∀c∈cl.map (·.2),H' c=none)→Q v (retr H' H (cl.map (·.2)))):
 codeAny (model P w) A (.call (.ref f) ⟨us,[]⟩) (CR CX0 outer P w H s Q E) s:=by
 have hf1:s.heap.get? f=some (lamO L cl pm cd ct):=(e0.hok f _ hf).1
 have hc1:s.heap.CodeRec (.ref cd) L.qual:=(e0.hok cd _ hc).1
 have lim:s.heap.NoLimit:=e0.mod.nolimit.keeps fun b o e=>(e0.bs b o e).1
 have hcm:∀c∈cl.map (·.2),∃o u,H c=some (celO c o)∧o.data= .cell (some u)∧s.heap.get? c=some o:=fun c h=>by
  obtain ⟨p,hp,rfl⟩:=List.mem_map.mp h
  obtain ⟨o,u,a,b⟩:=hcs.get p hp
  exact ⟨o,u,a,b,(e0.hok _ _ a).1⟩
 have nfs:∀c∈cl.map (·.2),c∉frs outer:=fun c h z=>by
  obtain ⟨o,u,a,_⟩:=hcm c h
  rw [e0.frf c z]at a;cases a
 refine kla_callFunE hr.depth hf1 rfl S.co S.gen rfl hc1 ?_
 rw [hb]
 refine wpAny_pure (wpAny_newFunctionEnv S.nocell (fun y hy=>S.par y.1 (List.of_mem_zip hy).1) (fun h₁ hns hsb=>?_) S.kind)
 have kp:∀b o,s.heap.get? b=some o→h₁.get? b=some o:=fun b o e=>hsb.extBut b o (Nat.ne_of_lt (Heap.lt_size e)) (Heap.get?_push_of_some _ e)
 refine ⟨lim.keeps kp,?_⟩
 show codeAny _ _ (.expr L.body (envX L.qual L.scope s.heap.objs.size f (.ref cd) cl)) _ _
 obtain ⟨t,ht,hq⟩:=hbody
 have noA:∀b:Addr,b∉(cxL P w K mg base N L.qual L.scope f (.ref cd) A outer s (unk H (cl.map (·.2))) cl).ex:=fun b z=>absurd (show b∈([]:List Addr) from z) (by simp)
 have cin:∀x c,cl.lookup x=some c→c∈cl.map (·.2):=fun x c e=>List.mem_map.mpr ⟨(x,c),PySem.mem_of_lookup e,rfl⟩
 have hok1:HOk P w (unk H (cl.map (·.2))) h₁:=fun b o e=>by
  obtain ⟨nb,e⟩:=unk_some e
  refine (e0.hok b o e).stay (fun c v _ q=>kp c v q) (fun c q=>?_) fun c xs q=>?_
  · rw [unk_out fun z=>?_]
    · exact q
    · obtain ⟨o',_,a,_⟩:=hcm c z
      rw [a]at q;cases q
  · rw [unk_out fun z=>?_]
    · exact q
    · obtain ⟨o',_,a,_⟩:=hcm c z
      rw [a]at q;cases q
 have I:Inv (cxL P w K mg base N L.qual L.scope f (.ref cd) A outer s (unk H (cl.map (·.2))) cl) [] (vs.map some++fvs.map some) (unk H (cl.map (·.2))) {s with heap:=h₁,toks:=s.toks+(ps.zip us).length}:=by
  refine ⟨⟨e0.mod,S.kind,rfl,rfl,Nat.le_refl _,S.inj,fun y hy=>?_,fun y c h=>(by cases h),fun _=>hr.hd,Around.frames_deeper e0.frames,.inr ⟨rfl,rfl⟩,fun b z=>absurd z (noA b),fun b o e=>⟨(e0.bs b o e).1,unk_none (e0.bs b o e).2⟩,e0.bsz,fun b _ _=>noA b,fun b z=>absurd z (noA b),e0.funs,fun b z=>unk_none (e0.frf b z)⟩,
   rfl,e0.bare,Un.kept kp,⟨_,hns,fun i x v h1 h2 _=>?_⟩,fun y c h=>?_,unk_none (e0.hok.fresh (Nat.le_refl _)),fun y c h=>unk_in (cin y c h),fun p hp=>absurd (show p∈([]:List (Addr×Obj)) from hp) (by simp),hok1,?_⟩
  · have hy:L.scope.names.lookup y=some .cell∨L.scope.names.lookup y=some .free:=hy
    rcases hy with hy | hy
    · exact absurd rfl (S.nocell _ (PySem.mem_of_lookup hy))
    · exact S.fr y hy
  · have h1:N[i]?=some x:=h1
    rw [S.N]at h1
    by_cases hi:i < ps.length
    · rw [List.getElem?_append_left hi]at h1
      rw [List.getElem?_append_left (by rw [List.length_map];omega),List.getElem?_map]at h2
      cases e:vs[i]? with
      | none=>rw [e]at h2;cases h2
      | some a=>
       rw [e]at h2;cases h2
       obtain ⟨u,hu,rv⟩:=r.get e
       exact ⟨u,rv,.inl ⟨S.par x (List.mem_of_getElem? h1),zip_look (S.nd.sublist (List.sublist_append_left ..)) h1 hu⟩⟩
    · rw [List.getElem?_append_right (by omega),List.getElem?_map]at h1
      rw [List.getElem?_append_right (by rw [List.length_map];omega),List.length_map,List.getElem?_map,hl]at h2
      cases e:fvs[i - ps.length]? with
      | none=>rw [e]at h2;cases h2
      | some a=>
       rw [e]at h2;cases h2
       obtain ⟨p,o,u,hp,a,b,rv⟩:=hcs.ix e
       rw [hp]at h1;cases h1
       have hm:=List.mem_of_getElem? hp
       refine ⟨u,rv,.inr ⟨.inr (S.frk p hm),p.2,lookup_of_mem_nodup (S.nd.sublist (List.sublist_append_right ..)) hm,o,kp _ _ (e0.hok _ _ a).1,b⟩⟩
  · obtain ⟨o,u,_,b,e⟩:=hcm c (cin y c h)
    exact ⟨some u,o,kp _ _ e,b⟩
  · show _=N.length
    rw [S.N,List.length_append,List.length_append,List.length_map,List.length_map,List.length_map,hl]
    have:=Paired.length hcs
    omega
 refine kla_codeExpr (wpAny_mono (ht [] _ _ _ _ I hq) (fun v s' hq_=>?_) fun e s' z=>False.elim z)
 obtain ⟨x,H',J,rx,q⟩:=hq_
 have ub:Un (frs outer) [] (unk H (cl.map (·.2))) H' s.heap s'.heap:=J.base
 have hc0:∀c∈cl.map (·.2),H' c=none:=fun c h=>by
  obtain ⟨o,u,_,_,e⟩:=hcm c h
  exact ub.free c o e (unk_in h) (by simp)
 refine ⟨x,retr H' H (cl.map (·.2)),J.os,J.bare,⟨fun b o e n hb hx=>ub.keep b o e (unk_none n) hb hx,fun b o e n hb hx=>ub.slot b o e (unk_none n) hb hx,fun b o e n hx=>?_,ub.there,fun b xs e=>?_,fun b o u e=>?_,fun b pp e=>?_⟩,fun b o e=>?_,rx,q hc0⟩
 · by_cases z:b∈cl.map (·.2)
   · rw [retr_in z];exact n
   · rw [retr_out z];exact ub.free b o e (unk_none n) hx
 · by_cases z:b∈cl.map (·.2)
   · rw [retr_in z];exact e
   · rw [retr_out z];exact ub.tups b xs (by rw [unk_out z];exact e)
 · by_cases z:b∈cl.map (·.2)
   · rw [retr_in z];exact e
   · rw [retr_out z];exact ub.frzs b o u (by rw [unk_out z];exact e)
 · by_cases z:b∈cl.map (·.2)
   · rw [retr_in z];exact ⟨#[],by rw [e];simp⟩
   · rw [retr_out z];exact ub.tbls b pp (by rw [unk_out z];exact e)
 · by_cases z:b∈cl.map (·.2)
   · rw [retr_in z]at e
     obtain ⟨ob,u,a,_,e2⟩:=hcm b z
     rw [a]at e;cases e
     exact celO_ok (ub.keep b ob e2 (unk_in z) (nfs b z) (by simp))
   · rw [retr_out z]at e
     refine (J.hok b o e).stay (fun c v _ q=>q) (fun c q=>?_) fun c xs q=>?_
     · rw [retr_out fun z=>?_]
       · exact q
       · rw [hc0 c z]at q;cases q
     · rw [retr_out fun z=>?_]
       · exact q
       · rw [hc0 c z]at q;cases q
structure CallV(P:Program)(w:World)(K:PySem.W.Frag)(mg:Str→Option Value)(base:Heap)(CX:CXT)(k:Nat)(f:Addr)(J:Hp→Prop)(sp:Sp):Prop where
 fnd:PySem.W.keepIn K (.ref f)=true∨∀(H:Hp) (h:Heap),HOk P w H h→J H→FnAt f h
 run:∀(A:Around) (outer:List Env) (s:Shared) (H:Hp) (us:List Value) (vs:List V) (Q:VK) (E:XK),Room k A→Env0 P w K mg base A outer s H→Vals vs us→J H→sp vs H Q E→codeAny (model P w) A (.call (.ref f) ⟨us,[]⟩) (CR CX outer P w H s Q E) s
theorem CallV.ofDef{CX:CXT}{j k:Nat}{x:Str}{ps:List Str}{sp:Sp}{f:Addr}{J:Hp→Prop}(D:Def P w K mg base CX j x ps sp)(hm:mg x=some (.ref f))(hj:j≤k:=by decide):CallV P w K mg base CX k f J sp:=by
 obtain ⟨f',fd,F,hm',hk,hb⟩:=D.ex
 obtain rfl:f'=f:=by rw [hm]at hm';cases hm';rfl
 refine ⟨.inl hk,fun A outer s H us vs Q E hr e0 r _ h=>?_⟩
 have KX:K.In s.heap:=e0.mod.kin.keeps fun b o e=>(e0.bs b o e).1
 have hl:(us++([]:List Value)).length=ps.length:=by rw [List.append_nil,← r.length];exact F.len _ _ _ _ h
 have hbb:=hb s us KX hl
 rw [List.append_nil]at hbb
 exact F.run A outer s H ⟨us,[]⟩ us vs Q E (hr.mono hj) e0 hbb r h
theorem CallV.ofLam{k:Nat}{L:LamT}{cl:List (Str×Addr)}{fvs:List V}{N ps:List Str}{sp:Sp}{f:Addr}{J:Hp→Prop}(S:LamScope N ps L.scope cl)
 (hb:∀(pm ct cd:Value) (us:List Value),us.length=ps.length→bindArgs (kla_fn "<lambda>" L.qual L.args L.body L.scope cl pm cd ct) ⟨us,[]⟩=pure (ps.zip us)) (len:∀vs H Q E,sp vs H Q E→vs.length=ps.length) (hJ:∀H,J H→LamAt L cl H f∧CellsAt H cl fvs)
 (hbody:∀(cd:Addr) (A:Around) (outer:List Env) (s:Shared) (H:Hp) (vs:List V) (Q:VK) (E:XK),Room k (A.deeper (envX L.qual L.scope s.heap.objs.size f (.ref cd) cl))→J H→sp vs H Q E→∃t,PE (cxL P w K mg base N L.qual L.scope f (.ref cd) A outer s (unk H (cl.map (·.2))) cl) L.body t∧t (vs.map some++fvs.map some) (unk H (cl.map (·.2))) fun v H'=>(∀c∈cl.map (·.2),H' c=none)→Q v (retr H' H (cl.map (·.2)))):
 CallV P w K mg base CX0 (k+1) f J sp:=by
 refine ⟨.inr fun H h ok j=>?_,fun A outer s H us vs Q E hr e0 r j h=>?_⟩
 · obtain ⟨⟨pm,cd,ct,a,_⟩,_⟩:=hJ H j
   exact ⟨_,_,_,_,(ok f _ a).1⟩
 · obtain ⟨⟨pm,cd,ct,a,b⟩,c⟩:=hJ H j
   have hl:=len _ _ _ _ h
   exact lam_run S (hb _ _ _ us (by rw [← r.length];exact hl)) hr e0 r hl a b c (hbody cd A outer s H vs Q E (hr.deeper _) j h)
end
noncomputable def tCallV{ι:Type}(fa:ι→Addr)(J:ι→Hp→Prop)(sp:ι→Sp)(E:XK)(tv:TE)(t:TA):TE:=fun σ H Q=>tv σ H fun x H1=>∃b,x= .ref (fa b)∧J b H1∧t σ H1 fun vs H2=>J b H2∧sp b vs H2 Q E
section
variable {ι:Type} {X:Cx} {CX:CXT} {k j:Nat} {fa:ι→Addr} {J:ι→Hp→Prop} {sp:ι→Sp} {E:XK} {x:Str} {p pos:Pos} {e:Expr} {es:List Expr} {tv:TE} {t:TA}
theorem pe_callV(D:∀b,CallV X.prog X.w X.K X.mg X.base CX j (fa b) (J b) (sp b))(hr:Room k X.A)(hx:Passes CX X E)(hv:PE X (.Name x p) tv)(ha:PA X (e::es) t)(hj:j≤k:=by decide)
 (he:starEach (e::es) X.env=(false,eval e X.env)::starEach es X.env:=by rfl) (hpl:(backTo pos (starEach es X.env)).any (·.1)=false:=by rfl):
 PE X (.Call (.Name x p) (e::es) [] pos) (tCallV fa J sp E tv t):=by
 intro pins s σ H Q I h
 refine wpAny_Call_Name_kw (thn (hv pins s σ H _ I h) fun u s1 hq_=>?_)
 obtain ⟨y,H1,I1,ry,b,ey,j1,q1⟩:=hq_
 subst ey
 obtain rfl:u=Value.ref (fa b):=ry
 have go:∀(us:List Value) (s2:Shared) (vs:List V) (H2:Hp),Inv X pins σ H2 s2→Vals vs us→J b H2→sp b vs H2 Q E→wpAny (model X.prog X.w) X.A (call (.ref (fa b)) us) (EP X pins σ Q) X.xe s2:=fun us s2 vs H2 I2 r j2 q2=>by
  refine wpAny_call (codeAny_mono ((D b).run X.A X.stack s2 H2 us vs Q E (hr.mono hj) I2.env0 r j2 q2) fun r s' hq=>?_)
  cases r with
  | error e=>exact hx pins σ H2 s2 e s' I2 hq
  | ok fl=>
   cases fl with
   | ret u=>exact I2.after hq
   | next=>exact False.elim hq
   | brk=>exact False.elim hq
   | cont=>exact False.elim hq
 rcases (D b).fnd with hk | hk
 · refine PySem.W.callWith_K (h₀:=X.base) I.ok.mod.kin hk (thn (ha pos pins s1 σ H1 _ I1 q1) fun us s2 ⟨vs,H2,I2,r,j2,q2⟩=>⟨I2.kIn,go us s2 vs H2 I2 r j2 q2⟩) he hpl
 · refine callWith_F (hk _ _ I1.hok j1) (thn (ha pos pins s1 σ H1 _ I1 q1) fun us s2 ⟨vs,H2,I2,r,j2,q2⟩=>⟨hk _ _ I2.hok j2,go us s2 vs H2 I2 r j2 q2⟩) he hpl
theorem rd_callV{σ:St}{H:Hp}{Q:VK}:tCallV fa J sp E tv t σ H Q=tv σ H fun x H1=>∃b,x= .ref (fa b)∧J b H1∧t σ H1 fun vs H2=>J b H2∧sp b vs H2 Q E:=rfl
end
noncomputable def SR(X:Cx)(pins:List (Addr×Obj))(D:Ends)(f:Flow)(s':Shared):Prop:=SP X pins D f s'∨∃u,f= .ret u∧CE X.outer X.prog X.w X.H₀ X.s₀ D.rt u s'
noncomputable def PSr(X:Cx)(st:Stmt)(t:TS):Prop:=
 ∀(pins:List (Addr×Obj)) (s:Shared) (σ:St) (H:Hp) (D:Ends),Inv X pins σ H s→t D σ H→wpAny (model X.prog X.w) X.A (exec st X.env) (SR X pins D) X.xe s
noncomputable def PSsr(X:Cx)(st:List Stmt)(t:TS):Prop:=
 ∀(pins:List (Addr×Obj)) (s:Shared) (σ:St) (H:Hp) (D:Ends),Inv X pins σ H s→t D σ H→wpAny (model X.prog X.w) X.A (execs st X.env) (SR X pins D) X.xe s
section
variable {X:Cx} {st:Stmt} {rest:List Stmt} {t u:TS} {pos:Pos}
theorem pssr_one(h1:PSr X st t):PSsr X [st] t:=by
 intro pins s σ H D I h
 refine wpAny_execs_cons (thn (h1 pins s σ H D I h) fun f s1 q=>?_)
 cases f with
 | next=>exact wpAny_execs_nil q
 | ret v=>exact q
 | brk=>exact q
 | cont=>exact q
theorem PSsr.nox{sts:List Stmt}(h:PSsr X.nox sts t):PSsr X sts t:=fun pins s σ H D I hw=>
 wpAny_mono (h pins s σ H D (I.wish _) hw) (fun _ _ q=>q.elim (fun z=> .inl z.unwish) fun z=> .inr z) fun _ _ z=>False.elim z
end
noncomputable def tRetLam(tp:Addr)(i:Nat)(x:Str)(c:Addr)(qual:Str)(fo:Addr→Value→Obj):TS:=fun D σ H=>H tp=some (.tbl #[])∧∃v,σ[i]?=some (some v)∧
 ∀f cd ct H',H f=none→N1.SameBut tp H H'→H' f=some (fnO f (fo cd ct))→H' cd=some (codeO cd qual)→CellsAt H' [(x,c)] [v]→D.rt (.ref f) H'
theorem rd_retLam{tp:Addr}{i:Nat}{x:Str}{c:Addr}{qual:Str}{fo:Addr→Value→Obj}{D:Ends}{σ:St}{H:Hp}:tRetLam tp i x c qual fo D σ H=(H tp=some (.tbl #[])∧∃v,σ[i]?=some (some v)∧
 ∀f cd ct H',H f=none→N1.SameBut tp H H'→H' f=some (fnO f (fo cd ct))→H' cd=some (codeO cd qual)→CellsAt H' [(x,c)] [v]→D.rt (.ref f) H'):=rfl
theorem psr_lam{X:Cx}{args:Arguments}{body:Expr}{scope:Scope}{pos rpos:Pos}{cc tp c:Addr}{i:Nat}{x:Str}(hdef:defaultsOf args X.env=([],[]))(hcl:closureFor scope X.env=pure [(x,c)])(hcode:X.env.code= .ref cc)(hc:codeHdIn X.K cc tp=true)(hne:mainGlobals≠tp)
 (hB:X.base.BuiltinsAt X.mg tp) (hN:X.N[i]?=some x) (hk:X.env.scope.names.lookup x=some .cell) (hcx:X.env.cells.lookup x=some c) (hfn:X.fn x=true:=by rfl) (hex:X.ex=[]:=by rfl):
 PSr X (.Return (some (.Lambda args body scope pos)) rpos) (tRetLam tp i x c (X.env.qual++"<lambda>") fun c' ct=>kla_obj "<lambda>" (X.env.qual++"<lambda>") args body scope [(x,c)] ((X.mg "__name__").getD .none) c' ct):=by
 intro pins s σ H D I h
 obtain ⟨hE,v,hv,q⟩:=h
 have C:CodeHd s.heap cc tp:=codeHd_of_K I.kIn hc
 have G:s.heap.Ns mainGlobals X.mg:=I.mod.glob.keeps I.bk
 have B:s.heap.BuiltinsAt X.mg tp:=hB.keeps I.bk
 refine wpAny_Return_some (kla_eval hdef ?_)
 have hP:s.heap.get? tp=some (tabObj #[]):=I.hok tp _ hE
 have ltt:=Heap.lt_size hP
 refine kla_makeFunction hcl I.ok.glob G hcode C hP (by first | trivial | exact .nil | simp [TriplesOk]) rfl hne B fun c' ctv h' tk hx hge hlt hrec htab=>?_
 have ncf:c'≠h'.objs.size:=Nat.ne_of_lt hlt
 have ltc:tp < c':=Nat.lt_of_lt_of_le ltt hge
 have szf:s.heap.objs.size≤h'.objs.size:=Nat.le_trans hge (Nat.le_of_lt hlt)
 have ntf:tp≠h'.objs.size:=Nat.ne_of_lt (Nat.lt_trans ltc hlt)
 have ntc:tp≠c':=Nat.ne_of_lt ltc
 generalize hF:(kla_obj "<lambda>" (X.env.qual++"<lambda>") args body scope [(x,c)] ((X.mg "__name__").getD .none) c' ctv)=fo
 generalize hH2:(upd (upd (upd H tp (.tbl #[rawInt pos.line,rawInt pos.col,.ref c'])) c' (codeO c' (X.env.qual++"<lambda>"))) h'.objs.size (fnO h'.objs.size fo))=H2
 have I2:Inv X pins σ H2 {s with heap:=h'.push fo,toks:=tk}:=by
  rw [← hH2]
  refine I.grown (more:=#[rawInt pos.line,rawInt pos.col,.ref c']) hE (fun b u nb e=>Heap.get?_push_of_some _ (hx b u nb e)) (Heap.get?_push_of_some _ htab) ?_ (fun b nb lb=>?_) fun b u lb e=>?_
  · rw [upd_ne ntf,upd_ne ntc];exact upd_same
  · rw [upd_ne (Nat.ne_of_lt (Nat.lt_of_lt_of_le lb szf)),upd_ne (Nat.ne_of_lt (Nat.lt_of_lt_of_le lb hge)),upd_ne nb]
  · by_cases e1:b=h'.objs.size
    · subst e1
      rw [upd_same]at e;cases e
      exact fnO_ok (Heap.get?_push_size _ (by rw [← hF];rfl))
    · rw [upd_ne e1]at e
      by_cases e2:b=c'
      · subst e2
        rw [upd_same]at e;cases e
        obtain ⟨c2,oc,vs,tq,ec,hoc,r⟩:=hrec
        exact codeO_ok ⟨c2,oc,vs,tq,ec,Heap.get?_push_of_some _ hoc,r⟩
      · rw [upd_ne e2,upd_ne (fun z=>by rw [z]at lb;exact Nat.lt_irrefl _ (Nat.lt_of_lt_of_le ltt lb)),I.hok.fresh lb]at e
        cases e
 obtain ⟨m,hns,hloc⟩:=I2.loc
 obtain ⟨u,ru,lk⟩:=hloc i x v hN hv (.inr (.inl hk))
 obtain ⟨o,ho,hd⟩:∃o,(h'.push fo).get? c=some o∧o.data= .cell (some u):=by
  rcases lk with ⟨z,_⟩ | ⟨_,c2,e,o,a,b⟩
  · have z:X.env.scope.names.lookup x=some .local:=z
    rw [hk]at z;cases z
  · rw [hcx]at e;cases e
    exact ⟨o,a,b⟩
 have fc:H2 c=none:=I2.freeC x c hcx
 have cge:X.s₀.heap.objs.size≤c:=I2.ok.cab x c hfn hcx
 have ub:=I2.base
 rw [hex]at ub
 refine .inr ⟨_,rfl,.ref h'.objs.size,upd H2 c (celO c o),I2.os,I2.bare,⟨fun b ob e n hb hx=>ub.keep b ob e n hb hx,fun b ob e n hb hx=>ub.slot b ob e n hb hx,fun b ob e n hx=>?_,ub.there,fun b xs e=>?_,fun b ob w' e=>?_,fun b pp e=>?_⟩,fun b w' e=>?_,rfl,?_⟩
 · rw [upd_ne (Nat.ne_of_lt (Nat.lt_of_lt_of_le (Heap.lt_size e) cge))];exact ub.free b ob e n hx
 · have:=ub.tups b xs e
   rw [upd_ne (ne_of_none this fc)];exact this
 · have:=ub.frzs b ob w' e
   rw [upd_ne (ne_of_none this fc)];exact this
 · obtain ⟨more,this⟩:=ub.tbls b pp e
   exact ⟨more,by rw [upd_ne (ne_of_none this fc)];exact this⟩
 · by_cases z:b=c
   · subst z
     rw [upd_same]at e;cases e
     exact celO_ok ho
   · rw [upd_ne z]at e
     exact (I2.hok b w' e).stay (fun d ob _ q=>q) (fun d q=>by rw [upd_ne (ne_of_none q fc)];exact q) fun d xs q=>by rw [upd_ne (ne_of_none q fc)];exact q
 · have nfc:h'.objs.size≠c:=fun z=>by rw [← hH2,← z,upd_same]at fc;cases fc
   have ncc:c'≠c:=fun z=>by rw [← hH2,← z,upd_ne ncf,upd_same]at fc;cases fc
   have hc0:H c=none:=I.freeC x c hcx
   refine q h'.objs.size c' ctv _ (I.hok.fresh szf) (fun b ob e nb=>?_) ?_ ?_ (.cons ⟨o,u,upd_same,hd,ru⟩ .nil)
   · have lb:=(I.hok b ob e).lt
     rw [upd_ne (ne_of_none e hc0),← hH2,upd_ne (Nat.ne_of_lt (Nat.lt_of_lt_of_le lb szf)),upd_ne (Nat.ne_of_lt (Nat.lt_of_lt_of_le lb hge)),upd_ne nb];exact e
   · rw [upd_ne nfc,← hH2,upd_same];exact congrArg (fun z=>some (fnO h'.objs.size z)) hF.symm
   · rw [upd_ne ncc,← hH2,upd_ne ncf];exact upd_same
section
variable {P:Program} {w:World} {K:PySem.W.Frag} {mg:Str→Option Value} {base:Heap}
theorem fn_ofR{CX:CXT}{k:Nat}{f:Addr}{name qual:Str}{params:Arguments}{body:List Stmt}{scope:Scope}{dV kV doc pm cdv ct oc:Value}{an od:Option Addr}
 {osl:Array (Option Value)} {N ps:List Str} {sp:Sp} (lk:K.lookup f=some ⟨oc,od,.func (PySem.W.fnOf name qual params body scope dV kV doc pm an cdv ct),osl⟩) (hcd:PySem.W.codeIn K cdv qual=true) (S:FnScope N ps scope)
 (len:∀vs H Q E,sp vs H Q E→vs.length=ps.length)
 (hbody:∀(A:Around) (outer:List Env) (s:Shared) (H:Hp) (vs:List V) (Q:VK) (E:XK),Room k (A.deeper (envOfC qual scope s.heap.objs.size f cdv))→sp vs H Q E→
  ∃t,PSsr (cxOf CX P w K mg base N qual scope f cdv A outer s H E) body t∧t {nx:=fun _ H'=>Q .non H',rt:=Q} (start N vs) H):
 FnOk P w K mg base CX (k+1) f (PySem.W.fnOf name qual params body scope dV kV doc pm an cdv ct) ps sp:=by
 refine ⟨len,fun A outer s H args us vs Q E hr e0 hb r hsp=>?_⟩
 have hl:=len _ _ _ _ hsp
 have KX:K.In s.heap:=e0.mod.kin.keeps fun b o e=>(e0.bs b o e).1
 have lim:s.heap.NoLimit:=e0.mod.nolimit.keeps fun b o e=>(e0.bs b o e).1
 have hkind:∀y∈ps.zip us,scope.names.lookup y.1=some .local∨(scope.names.lookup y.1=some .cell∧((cellsFrom (s.heap.objs.size+1) scope.names []).lookup y.1).isSome=true):=fun ⟨n,v⟩ hy=>
  (S.par n (List.of_mem_zip hy).1).imp id fun q=>⟨q,PySem.W.cellsFrom_some _ _ _ (.inl q)⟩
 refine codeAny_call_function hr.depth (KX _ _ lk) rfl S.co S.gen rfl (PySem.W.codeRec_of KX hcd) (hb _ _ _ _ ?_)
 refine wpAny_newFunctionEnv_cells S.kind hkind fun env he s1 x=>?_
 subst he
 refine ⟨lim.keeps x.toInCall.keep,codeAny_func ?_⟩
 obtain ⟨t,ht,hq⟩:=hbody A outer s H vs Q E (hr.deeper _) hsp
 refine wpAny_mono (ht [] s1 (start N vs) H _ (inv_start S hr.hd e0 hl r x) hq) (fun fl s' hs=>?_) fun e s' hs=>hs
 rcases hs with hs | ⟨u,rfl,ce⟩
 · have fin:∀{σ':St} {H':Hp} {v:V} {u:Value},Inv (cxOf CX P w K mg base N qual scope f cdv A outer s H E) [] σ' H' s'→RelV v u→Q v H'→CE outer P w H s Q u s':=
    fun {σ' H' v u} J rv q=>⟨v,H',J.os,J.bare,J.base,J.hok,rv,q⟩
   cases fl with
   | ret u=>
    obtain ⟨v,σ',H',J,rv,q⟩:=hs
    exact fin J rv q
   | next=>
    obtain ⟨σ',H',J,q⟩:=hs
    exact fin (v:=V.non) (u:=Value.none) J rfl q
   | brk=>
    obtain ⟨_,_,_,q⟩:=hs
    exact False.elim q
   | cont=>
    obtain ⟨_,_,_,q⟩:=hs
    exact False.elim q
 · exact ce
theorem Fun.okR{x qual:Str}{st:Stmt}{f tp:Addr}{fd:FuncData}{N ps:List Str}{k:Nat}{sp:Sp}(F:Fun K x qual st f fd)(M:MkAt K f tp)(S:FnScope N ps (defScope st))(len:∀vs H Q E,sp vs H Q E→vs.length=ps.length)
 (hbody:∀(c:Addr) (A:Around) (outer:List Env) (s:Shared) (H:Hp) (vs:List V) (Q:VK) (E:XK),codeHdIn K c tp=true→Room k (A.deeper (envOfC qual (defScope st) s.heap.objs.size f (.ref c)))→sp vs H Q E→
  ∃t,PSsr (cxOf CX0 P w K mg base N qual (defScope st) f (.ref c) A outer s H E).nox (defBody st) t∧t {nx:=fun _ H'=>Q .non H',rt:=Q} (start N vs) H):FnOk P w K mg base CX0 (k+1) f fd ps sp:=by
 obtain ⟨oc,od,kV,doc,pm,an,cdv,ct,osl,rfl,lk,hcd⟩:=F.ex
 obtain ⟨oc',od',fd',sl',c,lk',e,hc⟩:=M
 rw [lk]at lk'
 cases lk'
 have e:cdv= .ref c:=e
 subst e
 refine fn_ofR lk hcd S len fun A outer s H vs Q E hr hsp=>?_
 obtain ⟨t,h,q⟩:=hbody c A outer s H vs Q E hc hr hsp
 exact ⟨t,h.nox,q⟩
end
noncomputable def retE(s:Stmt):Expr:=match s with
 | .Return (some e) _=>e
 | _=> .Constant .none 0 ⟨0,0,0,0⟩
noncomputable def lamOf(qual:Str)(e:Expr):LamT:=match e with
 | .Lambda a b s _=>⟨qual,a,b,s⟩
 | _=>⟨qual,defArgs (.Pass ⟨0,0,0,0⟩),e,defScope (.Pass ⟨0,0,0,0⟩)⟩
theorem LamScope.mk1{ps:List Str}{sc:Scope}{x:Str}{c:Addr}(kind:sc.kind= .function)(co:sc.isCoroutine=false)(gen:sc.isGenerator=false)(nd:(ps++[x]).Nodup)(par:∀y∈ps,sc.names.lookup y=some .local)(nocell:∀y∈sc.names,y.2≠ .cell)
 (fr:∀y∈sc.names,y.2= .free→y.1=x) (frk:sc.names.lookup x=some .free):LamScope (ps++[x]) ps sc [(x,c)]:=by
 refine ⟨kind,co,gen,nd,rfl,par,nocell,fun y hy=>⟨c,?_⟩,fun p hp=>?_,fun y z d h1 h2=>?_⟩
 · have e:y=x:=fr _ (PySem.mem_of_lookup hy) rfl
   rw [e,List.lookup_cons_self]
 · rw [List.mem_singleton.mp hp];exact frk
 · have e1:=List.mem_singleton.mp (PySem.mem_of_lookup h1)
   have e2:=List.mem_singleton.mp (PySem.mem_of_lookup h2)
   rw [(Prod.mk.inj e1).1,(Prod.mk.inj e2).1]
end L2
namespace N64
open L2 N1 N5 N4 N6 N12 N32 N14 N20 N18 N25 NR N22 N21 N24 N23 N28 N63
inductive W2 where
 | ha
 | fa (ys:List Str) (h:ys.length≤1000)
structure C2 where
 ha:Addr
 fa:Addr
noncomputable def W6(T:RuleT)(s0:T.St)(ts:List Th)(n:Int)(ys:List Str):Nat→Ly:=stL (rm ts) ys (grows T (rm ts) n s0 ys ys.length)
noncomputable def L6(T:RuleT)(s0:T.St)(ts:List Th)(n:Int)(ys:List Str)(i:Nat):List Str:=(gst T (rm ts) n s0 ys i).2
noncomputable def r6(T:RuleT)(s0:T.St)(ts:List Th)(n:Int)(ys:List Str)(i:Nat):N14.Row:=NR.grow T (rm ts) n s0 ys i
section
variable {T:RuleT} {s0:T.St} {ts:List Th} {n:Int} {ys:List Str}
theorem w6_l(h0:T.inv (ts.map (·.1)) n s0 [])(hin:∀y∈ys,y∈ts.map (·.1))(hR:∀y∈ys,rm ts y≤n){i:Nat}(hi:i≤ys.length):lyN (W6 T s0 ts n ys i)=L6 T s0 ts n ys i:=(gl_st (T:=T) (R:=rm ts) (n:=n) (s0:=s0) h0 hin hR i hi).2.1
theorem l6_le(h0:T.inv (ts.map (·.1)) n s0 [])(hin:∀y∈ys,y∈ts.map (·.1))(hR:∀y∈ys,rm ts y≤n){i:Nat}(hi:i≤ys.length):(L6 T s0 ts n ys i).length≤ts.length:=by
 have gi:=gst_inv (T:=T) (R:=rm ts) (n:=n) (s0:=s0) h0 hin hR i hi
 have:=N25.nd_len gi.nd gi.s
 rw [List.length_map]at this
 exact this
end
theorem StockAt.butT{K:PySem.W.Frag}{C:Addr}{H H':Hp}{p l:Addr}{ts:List Th}{zs:Array Value}(s:SameBut l H H')(hl:H l=some (.tbl zs))(h:StockAt K C H p ts):StockAt K C H' p ts:=by
 obtain ⟨dx,d,kvs,h1,h2,h3,h4⟩:=h.ex
 refine ⟨dx,d,kvs,s _ _ h1 (ne_of h1 hl (by intro z;cases z)),s _ _ h2 (ne_of h2 hl (by intro z;cases z)),h3,fun i t e=>?_⟩
 obtain ⟨a,e1,e2⟩:=h4 i t e
 refine ⟨a,e1,?_⟩
 rcases e2 with (e2 | ⟨o,e2⟩) | e2
 · exact .inl (.inl (s _ _ e2 (ne_of e2 hl (by intro z;cases z))))
 · exact .inl (.inr ⟨o,s _ _ e2 (ne_of e2 hl (by intro z;cases z))⟩)
 · exact .inr e2
theorem clo_end{T:RuleT}{H H':Hp}{as M:List Addr}{q p:Addr}{n:Int}{s:T.St}(sm:Same (unk H as) H')(hM:∀m∈M,unk H as m=none)(hg:T.At H' M q p n s)(hc:∀c∈as,H' c=none):Same H (retr H' H as)∧(∀m∈M,H m=none)∧T.At (retr H' H as) M q p n s:=by
 have nm:∀m∈M,m∉as:=fun m hm h=>T.live hg m hm (hc m h)
 refine ⟨fun b o e=>?_,fun m hm=>?_,T.dep (fun m hm o e=>by rw [retr_out (nm m hm)];exact e) hg⟩
 · by_cases z:b∈as
   · rw [retr_in z];exact e
   · rw [retr_out z];exact sm b o (by rw [unk_out z];exact e)
 · have:=hM m hm
   rw [unk_out (nm m hm)]at this;exact this
end N64
namespace N62
open L2 N1 N5 N4 N6 N12 N32 N14 N20 N18 N25 NR N22 N21 N28 N63 N64 N41
inductive W3 where
 | ol | fi | hd
 deriving DecidableEq
structure C3 where
 ol:Addr
 fi:Addr
 hd:Addr
noncomputable def TQ(c:C3):W3→RuleT
 | .ol=>T2 c.ol
 | .fi=>T1 c.fi
 | .hd=>T6 c.hd
noncomputable def zq(c:C3):(w:W3)→(TQ c w).St
 | .ol=>s20
 | .fi=>(⟨0,[],[]⟩:S1)
 | .hd=>s60
theorem invq{c:C3}{ns:List Str}{n:Int}{w:W3}:(TQ c w).inv ns n (zq c w) []:=by
 cases w with
 | ol=>exact li0
 | fi=>exact ⟨KeysIn.nil,KeysIn.nil,by simp,List.Pairwise.nil⟩
 | hd=>exact hi60
theorem cntq{c:C3}{w:W3}:(TQ c w).cnt (zq c w)=0:=by cases w <;> rfl
noncomputable def W3.s:W3→Str
 | .ol=>"oldest"
 | .fi=>"first"
 | .hd=>"hand"
noncomputable def wOf(i:Int):W3:=if i % 3=0 then .fi else if i % 3=1 then .hd else .ol
theorem wOf_at(i:Int):(([.fi,.hd,.ol]:List W3).map W3.s)[(i % 3).toNat]?=some (wOf i).s:=by
 have h:i % 3=0∨i % 3=1∨i % 3=2:=by omega
 unfold wOf
 rcases h with e | e | e <;> rw [e] <;> rfl
noncomputable def Lw(c:C3):(w:W3)→(TQ c w).St→List Str→List Str→List (Key×V)→Prop
 | .ol,s,l,line,_=>LineI s l line
 | .fi,_,l,line,_=>line=l
 | .hd,s,_,line,mk=>H6.L s=line∧∀x∈line,valV mk (Sum.inr x)=some (.bl (valV (H6.k s) (Sum.inr x)).isSome)
section
variable {c:C3} {w:W3} {s:(TQ c w).St} {l line ns:List Str} {mk:List (Key×V)} {n:Int} {z:Str}
theorem lw_perm(h:Lw c w s l line mk)(i:(TQ c w).mid ns n z s l∨(TQ c w).inv ns n s l):line.Perm l:=by
 cases w with
 | ol=>exact LineI.p h
 | fi=>rw [show line=l from h]
 | hd=>
  have hi:HI6 ns s l:=i.elim id id
  have h:H6.L s=line∧_:=h
  rw [← h.1];exact hi.p
theorem lw_nil:Lw c w (zq c w) [] [] mk:=by
 cases w with
 | ol=>exact .nil
 | fi=>exact rfl
 | hd=>exact ⟨rfl,by simp⟩
noncomputable def hitL(w:W3)(line:List Str)(z:Str):List Str:=match w with
 | .ol=>line.erase z++[z]
 | _=>line
theorem lw_hit(h:Lw c w s l line mk)(i:(TQ c w).inv ns n s l)(hz:z∈l):Lw c w ((TQ c w).asked n s z) l (hitL w line z) (putK mk (Sum.inr z) (.bl true)):=by
 cases w with
 | ol=>exact LineI.hit h (show LI ns s l from i) hz
 | fi=>exact h
 | hd=>
  have hi:HI6 ns s l:=i
  have h:H6.L s=line∧_:=h
  have hm:z∈H6.L s:=hi.p.mem_iff.mpr hz
  have e6:(TQ c .hd).asked n s z=(⟨H6.L s,putK (H6.k s) (Sum.inr z) (.bl true)⟩:H6):=ask6_in hm
  rw [e6]
  refine ⟨h.1,fun x hx=>?_⟩
  show valV (putK mk (Sum.inr z) (.bl true)) (Sum.inr x)=some (.bl (valV (putK (H6.k s) (Sum.inr z) (.bl true)) (Sum.inr x)).isSome)
  rw [valV_put,valV_put]
  by_cases e:x=z
  · subst e
    rw [if_pos rfl,if_pos rfl];rfl
  · rw [if_neg (inr_ne' e),if_neg (inr_ne' e)];exact h.2 x hx
theorem lw_mid(h:Lw c w s l line mk)(i:(TQ c w).inv ns n s l)(hz:z∉l):Lw c w ((TQ c w).asked n s z) l line mk:=by
 cases w with
 | ol=>exact LineI.mid h hz
 | fi=>exact h
 | hd=>
  have hi:HI6 ns s l:=i
  have e6:(TQ c .hd).asked n s z=s:=ask6_out fun hm=>hz (hi.p.mem_iff.mp hm)
  rw [e6]
  exact h
theorem lw_go{f:Str}{r:List Str}(h:Lw c w s l (f::r) mk)(i:(TQ c w).mid ns n z s l)(hm:w= .hd→valV mk (Sum.inr f)=some (.bl false)):((TQ c w).pick n s l).2=f∧Lw c w ((TQ c w).gone n ((TQ c w).pick n s l).1 f) (l.erase f) r mk:=by
 cases w with
 | ol=>
  have i:LM ns z s l:=i
  exact ⟨LineI.head h i.i,LineI.drop h⟩
 | fi=>
  have h:f::r=l:=h
  rw [← h]
  refine ⟨rfl,?_⟩
  show r=(f::r).erase f
  rw [List.erase_cons_head]
 | hd=>
  have h:H6.L s=f::r∧_:=h
  obtain ⟨L,k⟩:=s
  have e:L=f::r:=h.1
  subst e
  have hk:¬(valV k (Sum.inr f)).isSome=true:=fun e2=>by
   have h1:=h.2 f (List.mem_cons_self ..)
   rw [hm rfl]at h1
   have h1:some (V.bl false)=some (V.bl (valV k (Sum.inr f)).isSome):=h1
   rw [e2]at h1;cases h1
  have ep:hpk ⟨f::r,k⟩=⟨f::r,k⟩:=hpk_end hk
  have e1:(TQ c .hd).pick n ⟨f::r,k⟩ l=(⟨f::r,k⟩,f):=by
   show (hpk ⟨f::r,k⟩,(hpk ⟨f::r,k⟩).L.headD Str.empty)=_
   rw [ep];rfl
  rw [e1]
  refine ⟨rfl,?_,fun x hx=>h.2 x (List.mem_cons_of_mem _ hx)⟩
  show (f::r).erase f=r
  rw [List.erase_cons_head]
theorem lw_come(h:Lw c w s l line mk)(i:(TQ c w).mid ns n z s l)(hz:z∉l):Lw c w ((TQ c w).came n s z) (l++[z]) (line++[z]) (putK mk (Sum.inr z) (.bl true)):=by
 cases w with
 | ol=>exact LineI.come h (show LM ns z s l from i)
 | fi=>
  have h:line=l:=h
  show line++[z]=l++[z]
  rw [h]
 | hd=>
  have h:H6.L s=line∧_:=h
  refine ⟨?_,fun x hx=>?_⟩
  · show H6.L s++[z]=line++[z]
    rw [h.1]
  · show valV (putK mk (Sum.inr z) (.bl true)) (Sum.inr x)=some (.bl (valV (putK (H6.k s) (Sum.inr z) (.bl true)) (Sum.inr x)).isSome)
    rw [valV_put,valV_put]
    by_cases e:x=z
    · subst e
      rw [if_pos rfl,if_pos rfl];rfl
    · rw [if_neg (inr_ne' e),if_neg (inr_ne' e)]
      rcases List.mem_append.mp hx with hx | hx
      · exact h.2 x hx
      · exact absurd (List.mem_singleton.mp hx) e
end
theorem lw_turn{c:C3}{s:H6}{l:List Str}{f:Str}{r:List Str}{mk:List (Key×V)}(h:Lw c .hd s l (f::r) mk)(nd:(f::r).Nodup)(hm:valV mk (Sum.inr f)=some (.bl true)):hpk s=hpk ⟨r++[f],dropK s.k (Sum.inr f)⟩∧(dropK s.k (Sum.inr f)).length < s.k.length∧Lw c .hd (⟨r++[f],dropK s.k (Sum.inr f)⟩:H6) l (r++[f]) (putK mk (Sum.inr f) (.bl false)):=by
 have h:H6.L s=f::r∧_:=h
 obtain ⟨L,k⟩:=s
 have e:L=f::r:=h.1
 subst e
 have hk:(valV k (Sum.inr f)).isSome=true:=by
  have h1:=h.2 f (List.mem_cons_self ..)
  rw [hm]at h1
  have h1:some (V.bl true)=some (V.bl (valV k (Sum.inr f)).isSome):=h1
  injection h1 with h1
  injection h1 with h1
  exact h1.symm
 have nf:f∉r:=(List.nodup_cons.mp nd).1
 refine ⟨hpk_go hk,drop_len hk,rfl,fun x hx=>?_⟩
 show valV (putK mk (Sum.inr f) (.bl false)) (Sum.inr x)=some (.bl (valV (dropK k (Sum.inr f)) (Sum.inr x)).isSome)
 rw [valV_put]
 by_cases e:x=f
 · subst e
   rw [if_pos rfl,N71.valV_drop_same];rfl
 · rw [if_neg (inr_ne' e),N71.valV_dropK (inr_ne' e)]
   refine h.2 x ?_
   rcases List.mem_append.mp hx with hx | hx
   · exact List.mem_cons_of_mem _ hx
   · exact absurd (List.mem_singleton.mp hx) e
structure BehA(H:Hp)(l:Addr)(qs:List Addr)(A:Nat→List Str)(n:Nat):Prop where
 L:H l=some (.lst (qs.map V.ref))
 N:qs.length=n
 q:∀j p,qs[j]?=some p→H p=some (.lst ((A j).map V.str))
theorem BehA.same{H H':Hp}{l:Addr}{qs:List Addr}{A:Nat→List Str}{n:Nat}(s:Same H H')(h:BehA H l qs A n):BehA H' l qs A n:=⟨s _ _ h.L,h.N,fun j p e=>s _ _ (h.q j p e)⟩
noncomputable def lackN(a b:List Str):List Str:=a.filter fun u=>decide (u∉b)
theorem lack_perm{a a' b b':List Str}(h1:a.Perm a')(h2:b.Perm b'):(lackN a b).Perm (lackN a' b'):=by
 unfold lackN
 have e:(fun u=>decide (u∉b))=fun u=>decide (u∉b'):=by
  funext u
  exact decide_eq_decide.mpr (not_congr h2.mem_iff)
 rw [e]
 exact h1.filter _
noncomputable def pS(b:List Str):V→Bool
 | .str u=>decide (u∉b)
 | _=>false
theorem pS_filter{a b:List Str}:(a.map V.str).filter (pS b)=(lackN a b).map V.str:=by rw [List.filter_map];rfl
theorem lack_len{a b:List Str}:(lackN a b).length≤a.length:=List.length_filter_le _ _
noncomputable def LackR(H:Hp)(r:V)(A:Nat→List Str)(n:Nat):Prop:=(r= .non∧∀i,i < n→A i=[])∨
 ∃(i:Nat) (t l:Addr) (zs:List Str),i < n∧(∀j,j < i→A j=[])∧A i≠[]∧r= .ref t∧H t=some (.tup [.int i,.ref l])∧H l=some (.lst (zs.map V.str))∧zs.Perm (A i)∧sortedS zs=true
theorem LackR.same{H H':Hp}{r:V}{A:Nat→List Str}{n:Nat}(s:Same H H')(h:LackR H r A n):LackR H' r A n:=by
 rcases h with h | ⟨i,t,l,zs,h1,h2,h3,h4,h5,h6,h7⟩
 · exact .inl h
 · exact .inr ⟨i,t,l,zs,h1,h2,h3,h4,s _ _ h5,s _ _ h6,h7⟩
noncomputable def Two2(H:Hp)(r r':V):Prop:=(r= .non∧r'= .non)∨∃(i:Nat) (t t' l l':Addr) (zs:List Str),r= .ref t∧r'= .ref t'∧H t=some (.tup [.int i,.ref l])∧H t'=some (.tup [.int i,.ref l'])∧H l=some (.lst (zs.map V.str))∧H l'=some (.lst (zs.map V.str))
theorem lack_two{H:Hp}{r r':V}{A A':Nat→List Str}{n:Nat}(h:LackR H r A n)(h':LackR H r' A' n)(p:∀i,i < n→(A i).Perm (A' i)):Two2 H r r':=by
 have nil:∀i,i < n→(A i=[]↔A' i=[]):=fun i hi=>⟨fun e=>by have:=p i hi;rw [e]at this;exact List.nil_perm.mp this,fun e=>by have:=p i hi;rw [e]at this;exact List.perm_nil.mp this⟩
 rcases h with ⟨e,h⟩ | ⟨i,t,l,zs,a1,a2,a3,a4,a5,a6,a7,a8⟩
 · rcases h' with ⟨e',_⟩ | ⟨i,t,l,zs,a1,a2,a3,_⟩
   · exact .inl ⟨e,e'⟩
   · exact absurd ((nil i a1).mp (h i a1)) a3
 · rcases h' with ⟨_,h'⟩ | ⟨i',t',l',zs',b1,b2,b3,b4,b5,b6,b7,b8⟩
   · exact absurd ((nil i a1).mpr (h' i a1)) a3
   · have e:i=i':=by
      rcases Nat.lt_trichotomy i i' with c | c | c
      · exact absurd ((nil i a1).mpr (b2 i c)) a3
      · exact c
      · exact absurd ((nil i' b1).mp (a2 i' c)) b3
     subst e
     have ez:zs=zs':=sorted_one _ _ ((a7.trans (p i a1)).trans b7.symm) a8 b8
     subst ez
     exact .inr ⟨i,t,t',l,l',zs,a4,b4,a5,b5,a6,b6⟩
theorem two_like{K:PySem.W.Frag}{H:Hp}{i:Nat}{t t' l l':Addr}{zs:List Str}(h1:H t=some (.tup [.int i,.ref l]))(h2:H t'=some (.tup [.int i,.ref l']))(h3:H l=some (.lst (zs.map V.str)))(h4:H l'=some (.lst (zs.map V.str))):LikeR K 1 H (.ref t) (.ref t'):=by
 refine ⟨t,t',_,_,rfl,rfl,.inr ⟨SqT.of h1,SqT.of h2⟩,rfl,fun j x y e1 e2=>?_⟩
 match j,e1,e2 with
 | 0,e1,e2=>cases e1;cases e2;exact LikeN.flat rfl
 | 1,e1,e2=>cases e1;cases e2;exact strs_like (SqL.of h3) (SqL.of h4)
 | j+2,e1,_=>simp at e1
inductive Mk3 where
 | d (w:W3)
 | lam (f c:Addr) (t:Int)
structure M3 where
 ol:Addr
 fi:Addr
 hd:Addr
 l:LamT
noncomputable def M3.d(m:M3):W3→Addr
 | .ol=>m.ol
 | .fi=>m.fi
 | .hd=>m.hd
noncomputable def Mk3.f(m:M3):Mk3→Addr
 | .d w=>m.d w
 | .lam f _ _=>f
noncomputable def Mk3.J(m:M3):Mk3→Hp→Prop
 | .d _,_=>True
 | .lam f c t,H=>LamAt m.l [("_law_turn",c)] H f∧CellsAt H [("_law_turn",c)] [.int t]
noncomputable def Mk3.w(n:Nat):Mk3→W3
 | .d w=>w
 | .lam _ _ t=>wOf (t+n)
theorem Mk3.J.same{m:M3}{b:Mk3}{H H':Hp}(s:Same H H')(h:b.J m H):b.J m H':=by
 cases b with
 | d w=>trivial
 | lam f c t=>exact ⟨LamAt.same s h.1,CellsAt.same s h.2⟩
noncomputable def sp62_mk(K:PySem.W.Frag)(S:Addr)(c:C3)(b:Mk3):Sp:=fun vs H Q _=>∃(st a:Addr) (n:Int) (ts:List Th) (ys:List Str),vs=[.ref st,.int n,.ref a]∧RowOk K S H st a n ts ys∧∀(q:Addr) (M:List Addr) (H':Hp),Same H H'→(∀m∈M,H m=none)→(TQ c (b.w ys.length)).At H' M q st n (zq c (b.w ys.length))→Q (.ref q) H'
noncomputable def sp62_makerOf(m:M3):Sp:=fun vs H Q _=>∃w:W3,vs=[.str w.s]∧Q (.ref (m.d w)) H
noncomputable def sp62_rule(c:C3):Sp:=fun vs H Q _=>∃(w:W3) (st:Addr) (n:Int),vs=[.str w.s,.ref st,.int n]∧1≤n∧n≤1000000∧∀(q:Addr) (M:List Addr) (H':Hp),Same H H'→(∀m∈M,H m=none)→(TQ c w).At H' M q st n (zq c w)→Q (.ref q) H'
noncomputable def sp62_word(K:PySem.W.Frag):Sp:=fun vs H Q _=>∃(t:Int) (a:Addr) (xs:List V),vs=[.int t,.ref a]∧SqL K H a xs∧∀H',Same H H'→Q (.str (wOf (t+xs.length)).s) H'
noncomputable def sp62_own(tp:Addr)(m:M3):Sp:=fun vs H Q _=>∃t:Int,vs=[.int t]∧H tp=some (.tbl #[])∧∀(f c:Addr) (H':Hp),SameBut tp H H'→Mk3.J m (.lam f c t) H'→Q (.ref f) H'
noncomputable def sp62_by(K:PySem.W.Frag)(S:Addr)(c:C3)(m:M3):Sp:=fun vs H Q _=>∃(b:Mk3) (st a:Addr) (n:Int) (ts:List Th) (ys:List Str),vs=[.ref (b.f m),.ref st,.ref a,.int n]∧b.J m H∧RowOk K S H st a n ts ys∧
 ∀l qs H',H l=none→Same H H'→Told H H' l qs (W6 (TQ c (b.w ys.length)) (zq c (b.w ys.length)) ts n ys) ys.length→Q (.ref l) H'
noncomputable def lk(T:RuleT)(s0:T.St)(ts:List Th)(n1 n2:Int)(ys:List Str)(i:Nat):List Str:=lackN (L6 T s0 ts n1 ys (i+1)) (L6 T s0 ts n2 ys (i+1))
noncomputable def sp62_lack(K:PySem.W.Frag)(S:Addr)(c:C3)(m:M3):Sp:=fun vs H Q _=>∃(b:Mk3) (st a:Addr) (n1 n2:Int) (ts:List Th) (ys:List Str),vs=[.ref st,.ref a,.int n1,.int n2,.ref (b.f m)]∧b.J m H∧RowOk K S H st a n1 ts ys∧n1≤n2∧n2≤1000000∧
 ∀r H',Same H H'→LackR H' r (lk (TQ c (b.w ys.length)) (zq c (b.w ys.length)) ts n1 n2 ys) ys.length→Q r H'
noncomputable def sp62_llack:Sp:=fun vs H Q _=>∃(x y:Addr) (xs es:List Addr) (A B:Nat→List Str) (n:Nat),vs=[.ref x,.ref y]∧BehA H x xs A n∧BehA H y es B n∧n≤200∧(∀i,i < n→(A i).length≤60)∧∀r H',Same H H'→LackR H' r (fun i=>lackN (A i) (B i)) n→Q r H'
noncomputable def sp62_held(K:PySem.W.Frag)(c:C3):Sp:=fun vs H Q _=>∃(w:W3) (a rd:Addr) (n:Int) (nm ys:List Str) (R:Str→Int) (ts:List Th),vs=[.str w.s,.ref a,.ref rd,.int n]∧SqL K H a (ys.map V.str)∧ys.length≤200∧H rd=some (.dK (kvN nm R))∧nm=ts.map (·.1)∧(∀y∈nm,rm ts y=R y)∧(∀y∈nm,0≤R y∧R y≤1000)∧ts.length≤60∧(∀y∈ys,y∈nm)∧(∀y∈ys,R y≤n)∧
 ∀l qs A H',Same H H'→BehA H' l qs A ys.length→(∀i,i < ys.length→(A i).Perm (L6 (TQ c w) (zq c w) ts n ys (i+1)))→Q (.ref l) H'
noncomputable def sp62_good:Sp:=fun vs H Q _=>∃r r',vs=[r,r']∧Two2 H r r'∧∀H',Same H H'→Q (.bl true) H'
noncomputable def sp62_law(tp:Addr)(K:PySem.W.Frag):Sp:=fun vs H Q _=>∃(a:Addr) (ns:List Int),vs=[.ref a]∧SqL K H a (ns.map V.int)∧ns.length≤63∧H tp=some (.tbl #[])∧∀H',Q (.bl true) H'
theorem s_ol{w:W3}:w.s=Str.ofString "oldest"↔w= .ol:=by cases w <;> decide
theorem s_hd{w:W3}:w.s=Str.ofString "hand"↔w= .hd:=by cases w <;> decide
theorem sm_cong{f g:Str→Int}:∀{L:List Str},(∀y∈L,f y=g y)→N41.sm f L=N41.sm g L:=by
 intro L
 induction L with
 | nil=>intro _;rfl
 | cons x r ih=>intro h;rw [N41.sm_cons,N41.sm_cons,h x List.mem_cons_self,ih fun y hy=>h y (List.mem_cons_of_mem _ hy)]
structure Hld(H:Hp)(fo ly md:Addr)(qs:List Addr)(As:List (List Str))(L:Nat→List Str):Prop where
 F:H fo=some (.lst (qs.map V.ref))
 n:qs.length=As.length
 q:∀(j:Nat) (p:Addr) (x:List Str),qs[j]?=some p→As[j]?=some x→H p=some (.lst (x.map V.str))∧x.Perm (L j)∧p≠ly∧p≠md∧p≠fo
section
variable {H H':Hp} {fo ly md d:Addr} {qs:List Addr} {As:List (List Str)} {L:Nat→List Str}
theorem Hld.same(h:Hld H fo ly md qs As L)(s:Same H H'):Hld H' fo ly md qs As L:=⟨s _ _ h.F,h.n,fun j p x e1 e2=>⟨s _ _ (h.q j p x e1 e2).1,(h.q j p x e1 e2).2⟩⟩
theorem Hld.but(h:Hld H fo ly md qs As L)(s:SameBut d H H')(hd:d=ly∨d=md)(hf:fo≠d):Hld H' fo ly md qs As L:=
 ⟨s _ _ h.F hf,h.n,fun j p x e1 e2=>by
  obtain ⟨a,b,c1,c2,c3⟩:=h.q j p x e1 e2
  refine ⟨s _ _ a ?_,b,c1,c2,c3⟩
  rcases hd with rfl | rfl
  · exact c1
  · exact c2⟩
theorem Hld.add{x:Addr}{l:List Str}(h:Hld H fo ly md qs As L)(hx:H x=none)(n1:x≠ly)(n2:x≠md)(p:l.Perm (L As.length)):Hld (upd (upd H x (.lst (l.map V.str))) fo (.lst ((qs++[x]).map V.ref))) fo ly md (qs++[x]) (As++[l]) L:=by
 have nfx:fo≠x:=ne_of_none h.F hx
 refine ⟨upd_same,by rw [List.length_append,List.length_append,h.n];rfl,fun j q y e1 e2=>?_⟩
 by_cases hj:j < qs.length
 · rw [List.getElem?_append_left hj]at e1
   rw [List.getElem?_append_left (by rw [← h.n];exact hj)]at e2
   obtain ⟨a,b,c1,c2,c3⟩:=h.q j q y e1 e2
   refine ⟨?_,b,c1,c2,c3⟩
   rw [upd_ne c3,upd_ne (ne_of_none a hx)];exact a
 · have hl:=(List.getElem?_eq_some_iff.mp e1).1
   rw [List.length_append,List.length_singleton]at hl
   have ej:j=qs.length:=by omega
   subst ej
   rw [List.getElem?_append_right (Nat.le_refl _),Nat.sub_self]at e1
   rw [List.getElem?_append_right (by rw [h.n];exact Nat.le_refl _),h.n,Nat.sub_self]at e2
   cases e1
   cases e2
   refine ⟨?_,by rw [h.n];exact p,n1,n2,nfx.symm⟩
   rw [upd_ne nfx.symm];exact upd_same
end
theorem pop0_go{H:Hp}{p:Addr}{f:Str}{r:List Str}{Q:VK}(h:H p=some (.lst ((f::r).map V.str)))(q:Q (.str f) (upd H p (.lst (r.map V.str)))):rPopAt (.ref p) [.int 0] H Q:=
 ⟨p,_,0,0,.str f,rfl,rfl,h,by decide,by decide,by unfold seqIndex?;rw [List.length_map,List.length_cons];simp,rfl,q⟩
theorem hi_turn{ns l:List Str}{s:H6}{f:Str}{r:List Str}(h:HI6 ns s l)(e:s.L=f::r):HI6 ns (⟨r++[f],dropK s.k (Sum.inr f)⟩:H6) l:=by
 have hp:(r++[f]).Perm s.L:=by rw [e];exact List.perm_append_singleton ..
 exact ⟨N28.KeysIn.drop h.k,hp.trans h.p,hp.nodup_iff.mpr h.nd,fun u hu=>h.s u (hp.mem_iff.mp hu)⟩
end N62
open PySem PySem.W PyProof.Rows
namespace L2
structure Bs(P:Program)(w:World)(K:PySem.W.Frag)(mg:Str→Option Value)(base:Heap):Prop where
 ex:∃h:Heap,K.In h∧h.Ns mainGlobals mg
theorem lc{α:Type}{us:List α}{n:Nat}(h:us.length=n+1):∃u r,us=u::r∧r.length=n:=by
 cases us with
 | nil=>cases h
 | cons u r=>exact ⟨u,r,rfl,Nat.succ.inj h⟩
theorem l0{α:Type}{us:List α}(h:us.length=0):us=[]:=by
 cases us with
 | nil=>rfl
 | cons u r=>cases h
section
variable {P:Program} {w:World} {K:PySem.W.Frag} {mg:Str→Option Value} {base:Heap} {CX:CXT} {k:Nat} {sp:Sp} {ps:List Str} {x qual n p1 p2 p3 p4 p5 p6 p7:Str} {st:Stmt} {f C:Addr} {fd:FuncData}
theorem Fun.d(F:Fun K x qual st f fd)(B:Bs P w K mg base)(a:PySem.W.nsIn K mainGlobals x=some (some (.ref f)))(o:FnOk P w K mg base CX k f fd ps sp)(b:Binds K fd ps []):Def P w K mg base CX k x ps sp:=
 let ⟨_,X,G⟩:=B.ex;⟨f,fd,o,PySem.W.mg_of X G a,F.kp,b⟩
theorem Fun.m(F:Fun K x qual st f fd)(B:Bs P w K mg base)(M:Meth K C x f)(o:FnOk P w K mg base CX k f fd ps sp)(b:Binds K fd ps []):DefM P w K mg base CX k C x ps sp:=
 ⟨f,fd,o,M,b⟩
theorem Fun.i(F:Fun K x qual st f fd)(B:Bs P w K mg base)(M:Mk K C f)(a:PySem.W.nsIn K mainGlobals n=some (some (.ref C)))(o:FnOk P w K mg base CX k f fd ps sp)(b:Binds K fd ps []):DefI P w K mg base CX k n C ps sp:=
 let ⟨_,X,G⟩:=B.ex;⟨f,fd,o,M,PySem.W.mg_of X G a,b⟩
theorem Fun.e1(F:Fun K x qual st f fd)(h:∀(kV doc pm:Value) (an:Option Addr) (cdv ct u:Value),bindArgs (PySem.W.fnOf x qual (defArgs st) (defBody st) (defScope st) .none kV doc pm an cdv ct) ⟨[u],[]⟩=pure [(p1,u)]):Binds K fd [p1] []:=
 F.binds (ps:=[p1]) fun kV doc pm an cdv ct us hl=>by
  obtain ⟨u,us,rfl,h1⟩:=lc hl
  cases l0 h1
  exact h kV doc pm an cdv ct u
theorem Fun.e2(F:Fun K x qual st f fd)(h:∀(kV doc pm:Value) (an:Option Addr) (cdv ct u v:Value),bindArgs (PySem.W.fnOf x qual (defArgs st) (defBody st) (defScope st) .none kV doc pm an cdv ct) ⟨[u,v],[]⟩=pure [(p1,u),(p2,v)]):Binds K fd [p1,p2] []:=
 F.binds (ps:=[p1,p2]) fun kV doc pm an cdv ct us hl=>by
  obtain ⟨u,us,rfl,h1⟩:=lc hl
  obtain ⟨v,us,rfl,h2⟩:=lc h1
  cases l0 h2
  exact h kV doc pm an cdv ct u v
theorem Fun.e3(F:Fun K x qual st f fd)(h:∀(kV doc pm:Value) (an:Option Addr) (cdv ct u v w:Value),bindArgs (PySem.W.fnOf x qual (defArgs st) (defBody st) (defScope st) .none kV doc pm an cdv ct) ⟨[u,v,w],[]⟩=pure [(p1,u),(p2,v),(p3,w)]):Binds K fd [p1,p2,p3] []:=
 F.binds (ps:=[p1,p2,p3]) fun kV doc pm an cdv ct us hl=>by
  obtain ⟨u,us,rfl,h1⟩:=lc hl
  obtain ⟨v,us,rfl,h2⟩:=lc h1
  obtain ⟨w,us,rfl,h3⟩:=lc h2
  cases l0 h3
  exact h kV doc pm an cdv ct u v w
theorem Fun.e4(F:Fun K x qual st f fd)(h:∀(kV doc pm:Value) (an:Option Addr) (cdv ct u v w y:Value),bindArgs (PySem.W.fnOf x qual (defArgs st) (defBody st) (defScope st) .none kV doc pm an cdv ct) ⟨[u,v,w,y],[]⟩=pure [(p1,u),(p2,v),(p3,w),(p4,y)]):Binds K fd [p1,p2,p3,p4] []:=
 F.binds (ps:=[p1,p2,p3,p4]) fun kV doc pm an cdv ct us hl=>by
  obtain ⟨u,us,rfl,h1⟩:=lc hl
  obtain ⟨v,us,rfl,h2⟩:=lc h1
  obtain ⟨w,us,rfl,h3⟩:=lc h2
  obtain ⟨y,us,rfl,h4⟩:=lc h3
  cases l0 h4
  exact h kV doc pm an cdv ct u v w y
theorem Fun.e5(F:Fun K x qual st f fd)(h:∀(kV doc pm:Value) (an:Option Addr) (cdv ct u v w y z:Value),bindArgs (PySem.W.fnOf x qual (defArgs st) (defBody st) (defScope st) .none kV doc pm an cdv ct) ⟨[u,v,w,y,z],[]⟩=pure [(p1,u),(p2,v),(p3,w),(p4,y),(p5,z)]):Binds K fd [p1,p2,p3,p4,p5] []:=
 F.binds (ps:=[p1,p2,p3,p4,p5]) fun kV doc pm an cdv ct us hl=>by
  obtain ⟨u,us,rfl,h1⟩:=lc hl
  obtain ⟨v,us,rfl,h2⟩:=lc h1
  obtain ⟨w,us,rfl,h3⟩:=lc h2
  obtain ⟨y,us,rfl,h4⟩:=lc h3
  obtain ⟨z,us,rfl,h5⟩:=lc h4
  cases l0 h5
  exact h kV doc pm an cdv ct u v w y z
end
theorem st_c{n:Str}{N:List Str}{v:V}{vs:List V}:start (n::N) (v::vs)=some v::start N vs:=by
 simp [start]
theorem st_n{n:Str}{N:List Str}:start (n::N) []=none::start N []:=rfl
theorem st_e:start [] []=[]:=rfl
end L2
namespace K62
open L2 N1 N5 N4 N6 N12 N32 N41 N14 N20 N18 N25 NR N22 N21 N28 N63 N64 N62
local macro_rules | `(tactic| walk_at "rq") => `(tactic| simp only [rd_asg, rd_var, rd_c, rd_op, rd_I0, rd_I, rd_U, rd_name, rd_ifS, rd_test, rd_b, rd_ret, rd_retN, rd_next, rd_break, rd_cont, rd_cb, rd_cons, rd_nil, rd_call, rd_not, rd_or, rd_and, rd_andV, rd_orV, rd_notV, rd_if, rd_un, rd_eq, rd_ne, rd_par, rd_tup, rd_lst, rd_never, rd_drop, rd_gcons, rd_gnil, rd_gsub, rd_chain, rd_rng1, rd_rng2, rd_ilist, rd_itup, rd_for', scal, rd_comp, rd_istr, rd_sl, rd_noPart, rd_part, rd_slS, rd_slL, rd_bm, rd_bm0, tyV_str, rd_join, rd_find, rd_split, rd_all, rd_mulS, rd_jnil, rd_jcons, rd_fstr, rd_fmt, rd_fmtR, rd_dnewK, true_implies, false_implies, Bool.false_and, Bool.true_and, Bool.and_true, Bool.and_false, Bool.false_or, Bool.true_or, Bool.or_true, Bool.or_false, rd_eqQ, rd_neQ, rd_methE, rd_makeE, rd_fld, rd_sfld, rd_din, rd_dnotin, rd_dget, rd_dput, rd_gtup, rd_inS, rd_notinS, hasS_one, blk_K, Int.zero_add, Int.toNat_natCast, upd_upd, List.map_cons, List.map_nil, List.getD_cons_zero, List.getD_cons_succ, cxOf_K, List.length_cons, List.length_nil, List.getElem?_cons_zero, List.getElem?_cons_succ, List.set_cons_zero, List.set_cons_succ, Option.some.injEq, V.int.injEq, V.bl.injEq, V.str.injEq, V.ref.injEq, V.ty.injEq, exists_eq_left', exists_eq_left, exists_and_left, exists_eq, exists_eq', List.cons.injEq, and_true, true_and, decide_eq_true_eq, Bool.not_eq_true', decide_eq_false_iff_not, reduceCtorEq, exists_const, Bool.true_eq_false, Bool.false_eq_true, if_true, if_false, ite_true, ite_false, Bool.not_true, Bool.not_false, decide_true, decide_false, Bool.not_not, false_and, and_false, exists_false, false_or, or_false, true_or, or_true, and_assoc, not_true_eq_false, not_false_eq_true, Int.reduceToNat, Nat.reduceAdd, sp_cell, sp_made, sp_is_name, sp_is_whole, sp_within, sp_checkG, sp_initG, sp_has, sp_thingG, sp_roomG, sp32_room, sp32_thing, sp32_check, N41.sp41_asks, sp_putG, sp_castG, rd_listD, rd_values, rd_sumV, rd_remove, rd_dpop1, sp_nms, sp_sinit, sp_lying, sp_holds, sp_left, rd_ienum, rd_izip, sp_mix, sp12_names, rd_items, rd_iview, sp14_casts, sp14_serves, sp14_after, rd_comp3, rd_compI, rd_comp2, rd_maxL, rd_maxV, rd_neN, rd_setL, rd_dget1, sp20_stream, sp20_names, sp20_rows, sp20_places, sp20_asks, sp20_rooms, sp20_same, rd_callS, rd_sumL, rd_minK, spR_nests, spR_asked, spR_choice, spR_gone, spR_came, spR2_room, spR2_row, spR2_book, spR_room, spR_row, spR_book, rd_fldaug, rd_dget2, rAdd, rd_augN, rd_ipI, rd_isnB, rd_isiO, rd_sortS, sp21_number, sp21_last, sp21_rank, sp22_number, sp22_rank, sp22_init, spI_room, spI_row, spI_bookN, spR_bookN, rd_makeD, rd_makeK, gV31_at, rd_dictOf, rd_methI, rd_neDD, rd_ipM, List.cons_append, List.nil_append, rd_meth2, sp21_rinit, sp21_init, rd_disp1, sp41_names, sp41_mixed, sp41_lroom, sp41_lplaces, sp63_greater, rd_kget, rd_knin, sp28_rinit, sp28_kinit, sp28_hinit, sp62_mk, sp62_makerOf, sp62_rule, sp62_word, sp62_own, sp62_by, sp62_lack, sp62_llack, sp62_held, sp62_good, sp62_law, rd_callV, rd_retLam, rd_eqN, rd_orR, sp41_whole])
local macro_rules | `(tactic| walk_at "rd") => `(tactic| first | (dsimp only [rd_asg, rd_var, rd_c, rd_op, rd_I0, rd_I, rd_U, rd_name, rd_ifS, rd_test, rd_b, rd_ret, rd_retN, rd_next, rd_break, rd_cont, rd_cb, rd_cons, rd_nil, rd_call, rd_not, rd_or, rd_and, rd_andV, rd_orV, rd_notV, rd_if, rd_un, rd_eq, rd_ne, rd_par, rd_tup, rd_lst, rd_never, rd_drop, rd_gcons, rd_gnil, rd_gsub, rd_chain, rd_rng1, rd_rng2, rd_ilist, rd_itup, rd_for', scal, rd_comp, rd_istr, rd_sl, rd_noPart, rd_part, rd_slS, rd_slL, rd_bm, rd_bm0, tyV_str, rd_join, rd_find, rd_split, rd_all, rd_mulS, rd_jnil, rd_jcons, rd_fstr, rd_fmt, rd_fmtR, rd_dnewK, true_implies, false_implies, Bool.false_and, Bool.true_and, Bool.and_true, Bool.and_false, Bool.false_or, Bool.true_or, Bool.or_true, Bool.or_false, rd_eqQ, rd_neQ, rd_methE, rd_makeE, rd_fld, rd_sfld, rd_din, rd_dnotin, rd_dget, rd_dput, rd_gtup, rd_inS, rd_notinS, hasS_one, blk_K, Int.zero_add, Int.toNat_natCast, upd_upd, List.map_cons, List.map_nil, List.getD_cons_zero, List.getD_cons_succ, cxOf_K, List.length_cons, List.length_nil, List.getElem?_cons_zero, List.getElem?_cons_succ, List.set_cons_zero, List.set_cons_succ, Option.some.injEq, V.int.injEq, V.bl.injEq, V.str.injEq, V.ref.injEq, V.ty.injEq, exists_eq_left', exists_eq_left, exists_and_left, exists_eq, exists_eq', List.cons.injEq, and_true, true_and, decide_eq_true_eq, Bool.not_eq_true', decide_eq_false_iff_not, reduceCtorEq, exists_const, Bool.true_eq_false, Bool.false_eq_true, if_true, if_false, ite_true, ite_false, Bool.not_true, Bool.not_false, decide_true, decide_false, Bool.not_not, false_and, and_false, exists_false, false_or, or_false, true_or, or_true, and_assoc, not_true_eq_false, not_false_eq_true, Int.reduceToNat, Nat.reduceAdd, sp_cell, sp_made, sp_is_name, sp_is_whole, sp_within, sp_checkG, sp_initG, sp_has, sp_thingG, sp_roomG, sp32_room, sp32_thing, sp32_check, N41.sp41_asks, sp_putG, sp_castG, rd_listD, rd_values, rd_sumV, rd_remove, rd_dpop1, sp_nms, sp_sinit, sp_lying, sp_holds, sp_left, rd_ienum, rd_izip, sp_mix, sp12_names, rd_items, rd_iview, sp14_casts, sp14_serves, sp14_after, rd_comp3, rd_compI, rd_comp2, rd_maxL, rd_maxV, rd_neN, rd_setL, rd_dget1, sp20_stream, sp20_names, sp20_rows, sp20_places, sp20_asks, sp20_rooms, sp20_same, rd_callS, rd_sumL, rd_minK, spR_nests, spR_asked, spR_choice, spR_gone, spR_came, spR2_room, spR2_row, spR2_book, spR_room, spR_row, spR_book, rd_fldaug, rd_dget2, rAdd, rd_augN, rd_ipI, rd_isnB, rd_isiO, rd_sortS, sp21_number, sp21_last, sp21_rank, sp22_number, sp22_rank, sp22_init, spI_room, spI_row, spI_bookN, spR_bookN, rd_makeD, rd_makeK, gV31_at, rd_dictOf, rd_methI, rd_neDD, rd_ipM, List.cons_append, List.nil_append, rd_meth2, sp21_rinit, sp21_init, rd_disp1, sp41_names, sp41_mixed, sp41_lroom, sp41_lplaces, sp63_greater, rd_kget, rd_knin, sp28_rinit, sp28_kinit, sp28_hinit, sp62_mk, sp62_makerOf, sp62_rule, sp62_word, sp62_own, sp62_by, sp62_lack, sp62_llack, sp62_held, sp62_good, sp62_law, rd_callV, rd_retLam, rd_eqN, rd_orR, sp41_whole]; try walk_at "rq") | walk_at "rq")
local macro_rules | `(tactic| walk_at "hp") => `(tactic| first | with_reducible assumption | exact upd_same | (rw [upd_ne (by first | with_reducible assumption | exact ne_of_none (by with_reducible assumption) (by with_reducible assumption))]; first | with_reducible assumption | exact upd_same))
local macro_rules | `(tactic| walk_at "sq") => `(tactic| (repeat' first | with_reducible assumption | exact SqT.of upd_same | exact SqL.of upd_same | refine' Same.tup (Same.new (by with_reducible assumption)) ?_ | refine' Same.seq (Same.new (by with_reducible assumption)) ?_))
local macro_rules | `(tactic| walk_at "isi") => `(tactic| first | exact isi_ii | exact isi_ib | exact isi_bb | exact isi_is | exact isi_ss | exact isi_si | exact isi_sb | exact isi_bi | exact isi_bs | exact isi_ni | exact isi_ns | exact isi_tupt (by walk_at "hp") | exact isi_lstl (by walk_at "hp") | exact isi_tupl (by walk_at "hp") | exact isi_lstt (by walk_at "hp") | exact isi_tups (by walk_at "hp") | exact isi_lsts (by walk_at "hp") | exact isi_tupi (by walk_at "hp") | exact isi_lsti (by walk_at "hp"))
local macro_rules | `(tactic| walk_at "slen") => `(tactic| first | omega | decide +kernel | (refine le_app ?_ ?_ <;> walk_at "slen"))
local macro_rules | `(tactic| walk_at "side") => `(tactic| first | with_reducible assumption | with_reducible exact cdiv_of (by omega) (by omega) | with_reducible exact cpow_of (by decide) (by decide) (by decide) | with_reducible exact cmul_l (by omega) (by omega) | with_reducible exact cmul_r (by omega) (by omega) | omega | decide | decide +kernel | (have := line_val; omega) | (simp only [len_app, len_one, line_val]; omega) | (rw [line_val]; walk_at "slen"; done))
local macro_rules | `(tactic| walk_at "go1") => `(tactic| first | walk_at "rd" | ((with_reducible refine And.intro ?_ ?_); (focus (walk_at "side"; done))) | ((with_reducible apply isi_go); (focus (walk_at "isi"; done))) | ((with_reducible apply ixT_of); (focus (walk_at "sq"; done)); (focus rfl)) | ((with_reducible apply ixL_of); (focus (walk_at "sq"; done)); (focus rfl)) | ((with_reducible apply len_goT); (focus (walk_at "sq"; done))) | ((with_reducible apply len_goL); (focus (walk_at "sq"; done))) | ((with_reducible apply script_go); (focus (walk_at "sq"; done)); (focus (assumption; done))) | ((with_reducible apply cell_go); (focus (walk_at "sq"; done)); (focus (decide; done)); (focus (assumption; done))) | (intro (_ : List (Addr × PySem.Obj)) (_ : PySem.Value → PySem.Shared → Prop)) | with_reducible refine seq_go fun _ _ => ?_ | (refine leaf_go (by with_reducible assumption) ?_; subst_vars))
local macro_rules | `(tactic| walk_at "go") => `(tactic| repeat walk_at "go1")
noncomputable def top(i:Nat):Stmt:=PySem.Challenge.pw_castoff_k62_the_first_lack.main.body.getD i (.Pass ⟨0,0,0,0⟩)
structure Txt(K:W.Frag)(mg:Str→Option Value)(Z4 Z3 Z7 Z5 Z0 Z1 Z2 xmake_oldest xmake_first xmake_halving xmake_farthest xmake_hand xmake_rows xmake_dues Z6:Addr):Prop where
 Z7e:mg "Stock"=some (.ref Z4)
 Zt:Cls K Z4
 Zc:NoAttr K Z4 "things"
 Z7f:mg "Shelf"=some (.ref Z3)
 Z8:Cls K Z3
 Zr:NoAttr K Z3 "stock"
 Zy:NoAttr K Z3 "places"
 Zh:NoAttr K Z3 "rooms"
 Z5y:mg "Rule"=some (.ref Z7)
 Z7g:Cls K Z7
 Z13:NoAttr K Z7 "stock"
 Z0v:NoAttr K Z7 "places"
 Z6z:mg "Ranked"=some (.ref Z5)
 Z7c:Cls K Z5
 Z0r:NoAttr K Z5 "stock"
 Z0n:NoAttr K Z5 "places"
 Z0d:NoAttr K Z5 "present"
 Z0w:NoAttr K Z5 "last"
 Z7d:mg "Oldest"=some (.ref Z0)
 Zk:Cls K Z0
 Zu:NoAttr K Z0 "stock"
 Zp:NoAttr K Z0 "places"
 Zg:NoAttr K Z0 "present"
 Zs:NoAttr K Z0 "last"
 Z7h:mg "First"=some (.ref Z1)
 Zn:Cls K Z1
 Z00:NoAttr K Z1 "stock"
 Zz:NoAttr K Z1 "places"
 Zl:NoAttr K Z1 "present"
 Z07:NoAttr K Z1 "last"
 Zv:NoAttr K Z1 "put_at"
 Z7i:mg "Hand"=some (.ref Z2)
 Zi:Cls K Z2
 Z08:NoAttr K Z2 "stock"
 Z01:NoAttr K Z2 "places"
 Zd:NoAttr K Z2 "order"
 Zm:NoAttr K Z2 "marked"
 Z5l:mg "make_oldest"=some (.ref xmake_oldest)
 Z5z:mg "make_first"=some (.ref xmake_first)
 Z73:mg "make_halving"=some (.ref xmake_halving)
 Z72:mg "make_farthest"=some (.ref xmake_farthest)
 Z6e:mg "make_hand"=some (.ref xmake_hand)
 Z7a:mg "make_rows"=some (.ref xmake_rows)
 Z7b:mg "make_dues"=some (.ref xmake_dues)
 Z60:mg "MAKERS"=some (.ref Z6)
 Z0e:mg "len"=none
 Ze:mg "isinstance"=none
 Z2u:mg "int"=none
 Z3f:mg "bool"=none
 Z47:mg "str"=none
 Z14:mg "list"=none
 Z3g:mg "tuple"=none
 Z4s:mg "all"=none
 Z11:mg "range"=none
 Z2v:mg "sum"=none
 Z0h:mg "enumerate"=none
 Z4t:mg "zip"=none
 Z4u:mg "max"=none
 Z3h:mg "min"=none
 Z1c:mg "sorted"=none
 Z4v:mg "dict"=none
 Z12:∃t,mg "LETTERS"=some (.str "abcdefghijklmnopqrstuvwxyz" t)
 Z1j:∃t,mg "FIGURES"=some (.str "0123456789" t)
 Z0o:∃t,mg "MOST_SIGNS"=some (.int 8 t)
 Z0g:∃t,mg "MOST_THINGS"=some (.int 60 t)
 Z0t:∃t,mg "MOST_ROOM"=some (.int 1000 t)
 Z02:∃t,mg "MOST_PLACES"=some (.int 1000000 t)
 Z0u:∃t,mg "MOST_ASKS"=some (.int 200 t)
local macro_rules | `(tactic| walk_at "sc") => `(tactic| exact ⟨rfl, rfl, rfl, by decide +kernel, rfl, by decide +kernel, by decide +kernel⟩)
local macro_rules | `(tactic| walk_at "st") => `(tactic| simp only [st_c, st_n, st_e])
section
variable {P:Program} {w:World} {K:W.Frag} {mg:Str→Option Value} {base:Heap} {Z4 Z3 Z7 Z5 Z0 Z1 Z2 xmake_oldest xmake_first xmake_halving xmake_farthest xmake_hand xmake_rows xmake_dues Z6:Addr}
noncomputable abbrev Z3u:Stmt:=top 32
noncomputable abbrev Z3v:Stmt:=top 33
noncomputable abbrev Z3i:Stmt:=top 15
noncomputable abbrev Z2w:Stmt:=top 16
noncomputable abbrev Z1d:Stmt:=top 24
noncomputable abbrev Z1n:Stmt:=top 34
noncomputable abbrev Z2c:Stmt:=inClass (top 35) 0
noncomputable abbrev Z2x:Stmt:=inClass (top 35) 2
noncomputable abbrev Z0x:Stmt:=inClass (top 35) 3
noncomputable abbrev Z15:Stmt:=inClass (top 35) 6
noncomputable abbrev Z2d:Stmt:=top 38
noncomputable abbrev Z2e:Stmt:=inClass (top 25) 0
noncomputable abbrev Z1o:Stmt:=inClass (top 25) 1
noncomputable abbrev Z1p:Stmt:=inClass (top 25) 2
noncomputable abbrev Z0s:Stmt:=inClass (top 25) 3
noncomputable abbrev Z2y:Stmt:=inClass (top 25) 4
noncomputable abbrev Z2f:Stmt:=inClass (top 25) 5
noncomputable abbrev Z2z:Stmt:=top 39
noncomputable abbrev Z4d:Stmt:=top 40
noncomputable abbrev Z1q:Stmt:=top 41
noncomputable abbrev Z0i:Stmt:=inClass (top 44) 0
noncomputable abbrev Z03:Stmt:=inClass (top 45) 0
noncomputable abbrev Z1r:Stmt:=inClass (top 45) 0
noncomputable abbrev Z2g:Stmt:=inClass (top 47) 0
noncomputable abbrev Z30:Stmt:=inClass (top 56) 0
noncomputable abbrev Z0l:Stmt:=inClass (top 45) 2
noncomputable abbrev Z1e:Stmt:=inClass (top 45) 1
noncomputable abbrev Z0y:Stmt:=inClass (top 45) 3
noncomputable abbrev Z04:Stmt:=inClass (top 45) 4
noncomputable abbrev Z16:Stmt:=inClass (top 45) 5
noncomputable abbrev Z1s:Stmt:=inClass (top 44) 4
noncomputable abbrev Z1t:Stmt:=inClass (top 44) 5
noncomputable abbrev Z0p:Stmt:=inClass (top 45) 2
noncomputable abbrev Z1u:Stmt:=inClass (top 45) 1
noncomputable abbrev Z09:Stmt:=inClass (top 47) 2
noncomputable abbrev Z1f:Stmt:=inClass (top 45) 5
noncomputable abbrev Z2h:Stmt:=inClass (top 44) 4
noncomputable abbrev Z2i:Stmt:=inClass (top 47) 1
noncomputable abbrev Z2j:Stmt:=inClass (top 56) 1
noncomputable abbrev Z1v:Stmt:=inClass (top 56) 2
noncomputable abbrev Z31:Stmt:=inClass (top 56) 3
noncomputable abbrev Z32:Stmt:=inClass (top 56) 4
noncomputable abbrev Z33:Stmt:=top 50
noncomputable abbrev Z4e:Stmt:=top 51
noncomputable abbrev Z3w:Stmt:=top 52
noncomputable abbrev Z1w:Stmt:=top 61
noncomputable abbrev Z2k:Stmt:=top 62
noncomputable abbrev Z34:Stmt:=top 65
noncomputable abbrev Z3j:Stmt:=top 69
noncomputable abbrev Z17:Stmt:=top 70
noncomputable abbrev Z35:Stmt:=top 74
noncomputable abbrev Z3x:Stmt:=top 75
noncomputable abbrev Z3y:Stmt:=top 76
noncomputable abbrev Z3z:Stmt:=top 77
noncomputable abbrev Z4f:Stmt:=top 78
noncomputable abbrev Z3k:Stmt:=top 79
noncomputable abbrev Z4g:Stmt:=top 82
noncomputable abbrev Z4h:Stmt:=top 83
noncomputable abbrev Z3l:Stmt:=top 71
noncomputable abbrev Z2l:Stmt:=top 72
noncomputable abbrev Z4i:Stmt:=top 80
noncomputable abbrev Z4j:Stmt:=top 81
noncomputable abbrev Zx:Stmt:=top 84
noncomputable abbrev Z1x:Stmt:=top 85
noncomputable abbrev Z2a:Stmt:=top 86
noncomputable def lam1:LamT:=lamOf (("_law_own_maker"++".<locals>.")++"<lambda>") (retE ((defBody Zx).getD 0 (.Pass ⟨0,0,0,0⟩)))
theorem Z6j{f:Addr}{fd:FuncData}(F:Fun K "made_of" "made_of" Z3u f fd)(T:Txt K mg Z4 Z3 Z7 Z5 Z0 Z1 Z2 xmake_oldest xmake_first xmake_halving xmake_farthest xmake_hand xmake_rows xmake_dues Z6):FnOk P w K mg base CX0 1 f fd ["text","signs"] (sp_made):=by
 have sc:FnScope ["text","signs"] ["text","signs"] (defScope Z3u):=by walk_at "sc"
 refine F.ok sc (fun vs H Q E h=>?_) (fun cdv A outer s H vs Q E hr h=>?_)
 · obtain ⟨_,_,rfl,_⟩:=h;rfl
 obtain ⟨z,w,rfl,hz,q⟩:=h
 refine ⟨_,(@pss_one _ _ _ (@ps_ret _ _ _ _ (pe_callB (call_all rfl) rfl T.Z4s (by first | rfl | decide+kernel) (pa_cons (pe_comp1 "sign" [1] rfl rfl (pi_str (pv 0)) (fun b=>(pe_cmpR op_inS (pv 0) (pv 1) (by with_unfolding_all rfl)))) pa_nil)))),?_⟩
 walk_at "st"
 walk_at "go"
 refine compS_pure (fun c=>V.bl (decide (c∈w.cps.toList))) hz (fun b c H' Q' hc sm q'=>?_) fun D hD=>?_
 · walk_at "go"
   exact q'
 · refine ⟨_,rfl,z.cps.toList.map fun c=>decide (c∈w.cps.toList),?_,?_⟩
   · rw [List.map_map];exact SqL.of upd_same
   · rw [List.all_map];exact q _ (Same.new hD)
theorem Z6k{f:Addr}{fd:FuncData}(F:Fun K "is_name" "is_name" Z3v f fd)(T:Txt K mg Z4 Z3 Z7 Z5 Z0 Z1 Z2 xmake_oldest xmake_first xmake_halving xmake_farthest xmake_hand xmake_rows xmake_dues Z6)(Z40:Def P w K mg base CX0 1 "made_of" ["text","signs"] (sp_made)):FnOk P w K mg base CX0 2 f fd ["thing"] (sp_is_name K):=by
 have sc:FnScope ["thing"] ["thing"] (defScope Z3v):=by walk_at "sc"
 refine F.ok sc (fun vs H Q E h=>?_) (fun cdv A outer s H vs Q E hr h=>?_)
 · obtain ⟨_,rfl,_⟩:=h;rfl
 obtain ⟨x,rfl,hx⟩:=h
 refine ⟨_,(@pss_cons _ _ _ _ _ (ps_if (pt_not (pt_val (pe_callB call_isinst rfl T.Ze (by first | rfl | decide+kernel) (pa_cons (pv 0) (pa_cons (pe_bltn (v:= .ty "str") rfl T.Z47 (by first | rfl | decide+kernel) rfl) pa_nil)))))
  (@pss_one _ _ _ (@ps_ret _ _ _ _ pe_bl))
  pss_nil)
  (@pss_cons _ _ _ _ _ (ps_if (PW.pt (pw_or (pt_cmpR op_lt (pe_callB call_len_str rfl T.Z0e PySem.boot_len (pa_cons (pv 0) pa_nil)) pe_int (nomark _)) (pw_or1 (pt_cmpR op_gt (pe_callB call_len_str rfl T.Z0e PySem.boot_len (pa_cons (pv 0) pa_nil)) (pe_gint rfl T.Z0o) (nomark _)))))
   (@pss_one _ _ _ (@ps_ret _ _ _ _ pe_bl))
   pss_nil)
  (@pss_one _ _ _ (@ps_ret _ _ _ _ (pe_and (pe_cmpR op_inS (@pe_ix _ _ _ _ _ _ _ ix_str (pv 0) pe_int (fun _ _=>rfl)) (pe_gstr rfl T.Z12) (by with_unfolding_all rfl)) (pe_one (pe_callD Z40 hr rfl pass0 (pa_cons (pv 0) (pa_cons (pe_op op_add_str (pe_gstr rfl T.Z12) (pe_gstr rfl T.Z1j)) pa_nil))))))))),?_⟩
 walk_at "st"
 rcases hx with ⟨z,rfl,hz,q⟩ | ⟨hi,q⟩
 · walk_at "go"
   have hl:=str_len (z:=z)
   split
   · rename_i h1
     have e:nameB z.cps.toList=false:=by unfold nameB;rw [decide_eq_false (show ¬1≤z.cps.toList.length by omega)];rfl
     rw [e]at q;exact q _ (Same.refl H)
   · rename_i h1
     refine ⟨hz,?_⟩
     split
     · have e:nameB z.cps.toList=false:=by unfold nameB;rw [decide_eq_false (show ¬z.cps.toList.length≤8 by omega),Bool.and_false];rfl
       rw [e]at q;exact q _ (Same.refl H)
     · rename_i h2
       obtain ⟨c,r,hcr⟩:∃c r,z.cps.toList=c::r:=by
        cases h:z.cps.toList with
        | nil=>rw [h]at hl;simp at hl;omega
        | cons c r=>exact ⟨c,r,rfl⟩
       have hn:nameB z.cps.toList=(decide (c∈letters) && z.cps.toList.all fun c=>decide (c∈letters++figures)):=by
        unfold nameB;rw [decide_eq_true (show 1≤z.cps.toList.length by omega),decide_eq_true (show z.cps.toList.length≤8 by omega)];rw [hcr];rfl
       rw [hn]at q
       walk_at "go"
       refine ixS_of hz (by rw [hcr];exact at_0) ?_
       walk_at "go"
       rw [let_list]
       split
       · rename_i hc
         rw [decide_eq_true hc,Bool.true_and]at q
         walk_at "go"
         rw [app_list,let_list,fig_list]
         exact q
       · rename_i hc
         rw [decide_eq_false hc,Bool.false_and]at q
         exact q _ (Same.refl H)
 · walk_at "go"
   refine ⟨_,hi,?_⟩
   walk_at "go"
   exact q
theorem Z6f{f:Addr}{fd:FuncData}(F:Fun K "is_whole" "is_whole" Z3i f fd)(T:Txt K mg Z4 Z3 Z7 Z5 Z0 Z1 Z2 xmake_oldest xmake_first xmake_halving xmake_farthest xmake_hand xmake_rows xmake_dues Z6):FnOk P w K mg base CX0 1 f fd ["thing"] (sp_is_whole K):=by
 have sc:FnScope ["thing"] ["thing"] (defScope Z3i):=by walk_at "sc"
 refine F.ok sc (fun vs H Q E h=>?_) (fun cdv A outer s H vs Q E hr h=>?_)
 · obtain ⟨_,_,_,rfl,_⟩:=h;rfl
 obtain ⟨x,b,c,rfl,h1,h2,q⟩:=h
 refine ⟨_,(@pss_one _ _ _ (@ps_ret _ _ _ _ (pe_and (pe_callB call_isinst rfl T.Ze (by first | rfl | decide+kernel) (pa_cons (pv 0) (pa_cons (pe_bltn (v:= .ty "int") rfl T.Z2u (by first | rfl | decide+kernel) rfl) pa_nil))) (pe_one (pe_not (pe_callB call_isinst rfl T.Ze (by first | rfl | decide+kernel) (pa_cons (pv 0) (pa_cons (pe_bltn (v:= .ty "bool") rfl T.Z3f (by first | rfl | decide+kernel) rfl) pa_nil)))))))),?_⟩
 walk_at "st"
 walk_at "go"
 refine ⟨_,h1,?_⟩
 cases b
 · walk_at "go"
   exact q
 · walk_at "go"
   refine ⟨_,h2 rfl,?_⟩
   walk_at "go"
   exact q
theorem Z61{f:Addr}{fd:FuncData}(F:Fun K "is_within" "is_within" Z2w f fd)(T:Txt K mg Z4 Z3 Z7 Z5 Z0 Z1 Z2 xmake_oldest xmake_first xmake_halving xmake_farthest xmake_hand xmake_rows xmake_dues Z6)(Z3m:Def P w K mg base CX0 1 "is_whole" ["thing"] (sp_is_whole K)):FnOk P w K mg base CX0 2 f fd ["thing","least","most"] (sp_within K):=by
 have sc:FnScope ["thing","least","most"] ["thing","least","most"] (defScope Z2w):=by walk_at "sc"
 refine F.ok sc (fun vs H Q E h=>?_) (fun cdv A outer s H vs Q E hr h=>?_)
 · obtain ⟨_,_,_,rfl,_⟩:=h;rfl
 obtain ⟨v,lo,hi,rfl,hv,q⟩:=h
 refine ⟨_,(@pss_one _ _ _ (@ps_ret _ _ _ _ (pe_and (pe_callD Z3m hr rfl pass0 (pa_cons (pv 0) pa_nil)) (pe_one (pe_chain op_le op_le (pv 1) (pv 0) (pv 2)))))),?_⟩
 walk_at "st"
 obtain ⟨b,c,h1,h2,h3,h4⟩:=num_isi (K:=K) (H:=H) hv
 walk_at "go"
 refine ⟨b,h1,c,h2,?_⟩
 split
 · rename_i h
   obtain ⟨i,rfl⟩:=h3 h
   simp only [wIn]at q
   walk_at "go"
   split
   · rename_i h'
     rw [decide_eq_true h',Bool.true_and]at q;exact q
   · rename_i h'
     rw [decide_eq_false h',Bool.false_and]at q;exact q
 · rename_i h
   have e:wIn lo hi v=false:=by
    cases v with
    | int i=>exact absurd rfl (h4 (by simpa using h) i)
    | _=>rfl
   rw [e]at q;exact q
theorem Z4w{f:Addr}{fd:FuncData}(F:Fun K "check_places" "check_places" Z1d f fd)(T:Txt K mg Z4 Z3 Z7 Z5 Z0 Z1 Z2 xmake_oldest xmake_first xmake_halving xmake_farthest xmake_hand xmake_rows xmake_dues Z6)(Zo:Def P w K mg base CX0 2 "is_within" ["thing","least","most"] (sp_within K)):FnOk P w K mg base CX0 3 f fd ["places"] (sp32_check):=by
 have sc:FnScope ["places"] ["places"] (defScope Z1d):=by walk_at "sc"
 refine F.ok sc (fun vs H Q E h=>?_) (fun cdv A outer s H vs Q E hr h=>?_)
 · obtain ⟨_,rfl,_⟩:=h;rfl
 obtain ⟨i,rfl,h1,h2,q⟩:=h
 refine ⟨_,(@pss_one _ _ _ (ps_if (pt_not (pt_val (pe_callD Zo hr rfl pass0 (pa_cons (pv 0) (pa_cons pe_int (pa_cons (pe_gint rfl T.Z02) pa_nil))))))
  (@pss_one _ _ _ ps_never)
  pss_nil)),?_⟩
 walk_at "st"
 walk_at "go"
 rw [if_neg (by rw [wIn_ok h1 h2];decide)]
 exact ⟨rfl,q⟩
theorem Z54{f:Addr}{fd:FuncData}(F:Fun K "check_thing" "check_thing" Z1n f fd)(T:Txt K mg Z4 Z3 Z7 Z5 Z0 Z1 Z2 xmake_oldest xmake_first xmake_halving xmake_farthest xmake_hand xmake_rows xmake_dues Z6)(Z41:Def P w K mg base CX0 2 "is_name" ["thing"] (sp_is_name K))(Zo:Def P w K mg base CX0 2 "is_within" ["thing","least","most"] (sp_within K)):FnOk P w K mg base CX0 3 f fd ["name","cost","room","earlier"] (sp_checkG K):=by
 have sc:FnScope ["name","cost","room","earlier"] ["name","cost","room","earlier"] (defScope Z1n):=by walk_at "sc"
 refine F.ok sc (fun vs H Q E h=>?_) (fun cdv A outer s H vs Q E hr h=>?_)
 · obtain ⟨_,_,_,_,_,_,rfl,_⟩:=h;rfl
 obtain ⟨n,co,r,e,kvs,ks,rfl,he,hk,hrow,q⟩:=h
 refine ⟨_,(@pss_cons _ _ _ _ _ (ps_if (pt_not (pt_val (pe_callD Z41 hr rfl pass0 (pa_cons (pv 0) pa_nil))))
  (@pss_one _ _ _ ps_never)
  pss_nil)
  (@pss_cons _ _ _ _ _ (ps_if (pt_cmp (pc_din (hu_of hr) (pv 0) (pv 3)))
   (@pss_one _ _ _ ps_never)
   pss_nil)
  (@pss_cons _ _ _ _ _ (ps_if (pt_not (pt_val (pe_callD Zo hr rfl pass0 (pa_cons (pv 1) (pa_cons pe_int (pa_cons (pe_op op_pow pe_int pe_int) pa_nil))))))
   (@pss_one _ _ _ ps_never)
   pss_nil)
  (@pss_one _ _ _ (ps_if (pt_not (pt_val (pe_callD Zo hr rfl pass0 (pa_cons (pv 2) (pa_cons pe_int (pa_cons (pe_gint rfl T.Z0t) pa_nil))))))
   (@pss_one _ _ _ ps_never)
   pss_nil))))),?_⟩
 walk_at "st"
 obtain ⟨z,c,w,rfl,rfl,rfl,nz,hb,h1,h2,h3,h4⟩:=rowR_none hrow
 have line:=line_val
 have hz8:=name_len hb
 walk_at "go"
 intro H1 sm1
 rw [hb]
 have he1:=sm1 _ _ he
 walk_at "go"
 refine ⟨_,DGet.k (k:=Sum.inr z) he1,?_⟩
 rw [key_mem hk,decide_eq_false nz]
 walk_at "go"
 refine ⟨rfl,?_⟩
 split
 · rename_i h
   exact absurd h (by rw [wIn_ok h1 h2];decide)
 · walk_at "go"
   refine ⟨rfl,?_⟩
   split
   · rename_i h
     exact absurd h (by rw [wIn_ok h3 h4];decide)
   · walk_at "go"
     exact q _ sm1
theorem Z5m{f:Addr}{fd:FuncData}(F:Fun K "__init__" "Stock.__init__" Z2c f fd)(T:Txt K mg Z4 Z3 Z7 Z5 Z0 Z1 Z2 xmake_oldest xmake_first xmake_halving xmake_farthest xmake_hand xmake_rows xmake_dues Z6)(Z1y:Def P w K mg base CX0 3 "check_thing" ["name","cost","room","earlier"] (sp_checkG K)):FnOk P w K mg base CX0 4 f fd ["self","rows"] (sp_initG K Z4):=by
 have sc:FnScope ["self","rows","name","cost","room"] ["self","rows"] (defScope Z2c):=by walk_at "sc"
 refine F.ok sc (fun vs H Q E h=>?_) (fun cdv A outer s H vs Q E hr h=>?_)
 · obtain ⟨_,_,_,_,rfl,_⟩:=h;rfl
 obtain ⟨p,dx,ra,rs,rfl,hp,hrs,hall,er,q⟩:=h
 refine ⟨_,(@pss_cons _ _ _ _ _ (ps_if (pt_cmpR op_gt (pe_callB call_len_seq rfl T.Z0e PySem.boot_len (pa_cons (pv 1) pa_nil)) (pe_gint rfl T.Z0g) (nomark _))
  (@pss_one _ _ _ ps_never)
  pss_nil)
  (@pss_cons _ _ _ _ _ (ps_fld (pv 0) pe_dnewK rfl)
  (@pss_one _ _ _ (ps_for PassesOwn.never rfl (pi_list (pv 1)) (pg_tup rfl (pgs_cons (pg_name (i:=2) sc.nd rfl (Or.inl rfl)) (pgs_cons (pg_name (i:=3) sc.nd rfl (Or.inl rfl)) (pgs_cons (pg_name (i:=4) sc.nd rfl (Or.inl rfl)) pgs_nil))))
   (@pss_cons _ _ _ _ _ (ps_expr (pe_callD Z1y hr rfl pass0 (pa_cons (pv 2) (pa_cons (pv 3) (pa_cons (pv 4) (pa_cons (pe_fld (pv 0) rfl) pa_nil))))))
   (@pss_one _ _ _ (ps_dput (hu_of hr) (pe_fld (pv 0) rfl) (pv 2) (pe_tup (pa_cons (pe_callB call_lenD rfl T.Z0e PySem.boot_len (pa_cons (pe_fld (pv 0) rfl) pa_nil)) (pa_cons (pv 3) (pa_cons (pv 4) pa_nil)))) rfl))))))),?_⟩
 walk_at "st"
 have line:=line_val
 obtain ⟨hl60,hstk⟩:=initR_none er
 walk_at "go"
 rw [List.length_map]
 split
 · rename_i h
   exact absurd h (by omega)
 · rename_i h
   walk_at "go"
   intro d hd
   have npd:p≠d:=ne_of_none hp hd
   walk_at "go"
   refine ⟨Z4,dx,[],by rw [upd_ne npd];exact hp,T.Zt,T.Zc,by decide,?_⟩
   have sb0:SameBut p H (upd (upd H d (.dK [])) p (.ins Z4 dx (flds d))):=fun b o e n=>by rw [upd_ne n,upd_ne (ne_of_none e hd)];exact e
   have hp0:upd (upd H d (.dK [])) p (.ins Z4 dx (flds d)) p=some (.ins Z4 dx (flds d)):=upd_same
   have hd0:upd (upd H d (.dK [])) p (.ins Z4 dx (flds d)) d=some (.dK []):=by rw [upd_ne npd.symm,upd_same]
   unfold flds at sb0 hp0 hd0
   generalize upd (upd H d (HO.dK [])) p (HO.ins Z4 dx (putF (Str.ofString "things") (V.ref d) []))=H0 at sb0 hp0 hd0 ⊢
   walk_at "go"
   refine ⟨⟨_,SqL.but sb0 hp hrs⟩,?_⟩
   refine forL_by (xs:=rs.map fun t=>V.ref t.1) (fun i σ H'=>∃v1 v2 v3,σ=[some (V.ref p),some (V.ref ra),v1,v2,v3]∧SameBut p H H'∧H' p=some (.ins Z4 dx (flds d))∧MidAt K H' d (rs.take i)∧stockR (nmsOf (rs.take i)) (rs.drop i)=none) ⟨none,none,none,rfl,sb0,hp0,⟨[],hd0,rfl,fun j t e=>by simp at e⟩,by rw [List.take_zero,List.drop_zero];exact hstk⟩ (fun i σ H' _ h_=>by obtain ⟨v1,v2,v3,_,sb,_⟩:=h_;exact SqL.but sb hp hrs) ?_ ?_
   · rintro i x σ H' hx ⟨v1,v2,v3,rfl,sb,hp',⟨kvs,hd',hk,hm⟩,hst⟩
     rw [List.getElem?_map]at hx
     cases ht:rs[i]? with
     | none=>rw [ht]at hx;cases hx
     | some t=>
      rw [ht]at hx
      simp only [Option.map_some,Option.some.injEq]at hx
      subst hx
      have hi:i < rs.length:=(List.getElem?_eq_some_iff.mp ht).1
      have r1:=SqT.but sb hp (hall t (List.mem_of_getElem? ht))
      rw [stockR_step ht]at hst
      have hkl:kvs.length=i:=by
       have:=congrArg List.length hk
       simp [nmsOf]at this;omega
      cases hrow:rowR (nmsOf (rs.take i)) t.2.1 t.2.2.1 t.2.2.2 with
      | some e=>rw [hrow]at hst;cases hst
      | none=>
       rw [hrow]at hst
       obtain ⟨z,c,q',e1,e2,e3,nz,hb,_⟩:=rowR_none hrow
       walk_at "go"
       refine ⟨_,r1,rfl,?_⟩
       walk_at "go"
       refine ⟨Z4,dx,flds d,hp',T.Zt,T.Zc,_,flds_things,d,rfl,kvs,hd',_,hk,hrow,fun H1 sm1=>?_⟩
       rw [e1,e2,e3]
       have hp1:=sm1 _ _ hp'
       have hd1:=sm1 _ _ hd'
       walk_at "go"
       refine ⟨Z4,dx,flds d,hp1,T.Zt,T.Zc,_,flds_things,?_⟩
       walk_at "go"
       refine ⟨kvs,hd1,by omega,fun t2 ht2=>?_⟩
       have np2:p≠t2:=ne_of_none hp1 ht2
       have nd2:d≠t2:=ne_of_none hd1 ht2
       have hd2:upd H1 t2 (.tup [.int kvs.length,.int c,.int q']) d=some (.dK kvs):=by rw [upd_ne nd2];exact hd1
       refine ⟨Z4,dx,flds d,by rw [upd_ne np2];exact hp1,T.Zt,T.Zc,_,flds_things,d,rfl,_,DPut.k (k:=Sum.inr z) hd2 (by omega),?_,?_,?_,?_⟩
       · intro b o eb nb
         have h1:=sm1 _ _ (sb b o eb nb)
         rw [upd_ne (ne_of_none eb hd),upd_ne (ne_of_none h1 ht2)]
         exact h1
       · rw [upd_ne npd,upd_ne np2];exact hp1
       · rw [List.take_add_one,ht]
         refine MidAt.snoc hd2 hk (fun j t' e=>?_) e1 e2 e3 nz upd_same
         obtain ⟨a,q1,q2⟩:=hm j t' e
         exact ⟨a,q1,(sm1.trans (Same.new ht2)).tup q2⟩
       · rw [List.take_add_one,ht]
         have e:nmsOf (rs.take kvs.length++(some t).toList)=nmsOf (rs.take kvs.length)++[sOf t.2.1]:=by unfold nmsOf;simp
         rw [e];exact hst
   · rintro σ H' ⟨v1,v2,v3,rfl,sb,hp',⟨kvs,hd',hk,hm⟩,hst⟩
     simp only [List.length_map,List.take_length,List.drop_length]at hk hm hst
     show Q V.non H'
     refine q _ sb ⟨dx,d,kvs,hp',hd',?_,fun i t ht=>?_⟩
     · rw [hk];unfold nmsOf;rw [List.map_map,List.map_map];rfl
     · rw [List.getElem?_map]at ht
       cases hr:rs[i]? with
       | none=>rw [hr]at ht;cases ht
       | some t'=>
        rw [hr]at ht
        simp only [Option.map_some,Option.some.injEq]at ht
        subst ht
        exact hm i t' hr
theorem Z62{f:Addr}{fd:FuncData}(F:Fun K "has" "Stock.has" Z2x f fd)(T:Txt K mg Z4 Z3 Z7 Z5 Z0 Z1 Z2 xmake_oldest xmake_first xmake_halving xmake_farthest xmake_hand xmake_rows xmake_dues Z6):FnOk P w K mg base CX0 1 f fd ["self","name"] (sp_has K Z4):=by
 have sc:FnScope ["self","name"] ["self","name"] (defScope Z2x):=by walk_at "sc"
 refine F.ok sc (fun vs H Q E h=>?_) (fun cdv A outer s H vs Q E hr h=>?_)
 · obtain ⟨_,_,_,rfl,_⟩:=h;rfl
 obtain ⟨p,ts,z,rfl,hs,q⟩:=h
 refine ⟨_,(@pss_one _ _ _ (@ps_ret _ _ _ _ (pe_cmp (pc_din (hu_of hr) (pv 1) (pe_fld (pv 0) rfl))))),?_⟩
 walk_at "st"
 obtain ⟨dx,d,kvs,h1,h2,h3,h4,h5⟩:=StockAt.has hs
 walk_at "go"
 refine ⟨Z4,dx,flds d,h1,T.Zt,T.Zc,_,flds_things,d,rfl,_,DGet.k (k:=Sum.inr z) h2,?_⟩
 rw [h4]
 exact q
theorem Z4b{f:Addr}{fd:FuncData}(F:Fun K "thing_of" "Stock.thing_of" Z0x f fd)(T:Txt K mg Z4 Z3 Z7 Z5 Z0 Z1 Z2 xmake_oldest xmake_first xmake_halving xmake_farthest xmake_hand xmake_rows xmake_dues Z6):FnOk P w K mg base CX0 1 f fd ["self","name"] (sp32_thing K Z4):=by
 have sc:FnScope ["self","name"] ["self","name"] (defScope Z0x):=by walk_at "sc"
 refine F.ok sc (fun vs H Q E h=>?_) (fun cdv A outer s H vs Q E hr h=>?_)
 · obtain ⟨_,_,_,rfl,_⟩:=h;rfl
 obtain ⟨p,ts,z,rfl,hs,nd,hz,q⟩:=h
 refine ⟨_,(@pss_cons _ _ _ _ _ (ps_if (pt_cmp (pc_dnotin (hu_of hr) (pv 1) (pe_fld (pv 0) rfl)))
  (@pss_one _ _ _ ps_never)
  pss_nil)
  (@pss_one _ _ _ (@ps_ret _ _ _ _ (pe_dget (hu_of hr) (pe_fld (pv 0) rfl) (pv 1) (fun _ _=>rfl))))),?_⟩
 walk_at "st"
 obtain ⟨dx,d,kvs,h1,h2,h3,h4,h5⟩:=StockAt.has hs
 have line:=line_val
 walk_at "go"
 refine ⟨Z4,dx,flds d,h1,T.Zt,T.Zc,_,flds_things,d,rfl,_,DGet.k (k:=Sum.inr z) h2,?_⟩
 rw [h4,decide_eq_true hz]
 obtain ⟨i,t,ht,rfl⟩:=mem_nth hz
 obtain ⟨a,e1,e2⟩:=h5 nd i t ht
 walk_at "go"
 refine ⟨Z4,dx,flds d,h1,T.Zt,T.Zc,_,flds_things,?_⟩
 walk_at "go"
 refine ⟨V.ref a,by rw [← e1];exact DGet.k (k:=Sum.inr t.1) h2,?_⟩
 exact q i t ht rfl a e2
theorem Z4k{f:Addr}{fd:FuncData}(F:Fun K "room_of" "Stock.room_of" Z15 f fd)(T:Txt K mg Z4 Z3 Z7 Z5 Z0 Z1 Z2 xmake_oldest xmake_first xmake_halving xmake_farthest xmake_hand xmake_rows xmake_dues Z6)(Z0z:DefM P w K mg base CX0 1 Z4 "thing_of" ["self","name"] (sp32_thing K Z4)):FnOk P w K mg base CX0 2 f fd ["self","name"] (sp32_room K Z4):=by
 have sc:FnScope ["self","name"] ["self","name"] (defScope Z15):=by walk_at "sc"
 refine F.ok sc (fun vs H Q E h=>?_) (fun cdv A outer s H vs Q E hr h=>?_)
 · obtain ⟨_,_,_,rfl,_⟩:=h;rfl
 obtain ⟨p,ts,z,rfl,hs,nd,hz,q⟩:=h
 refine ⟨_,(@pss_one _ _ _ (@ps_ret _ _ _ _ (@pe_ix _ _ _ _ _ _ _ ix_tup (pe_methS Z0z T.Zt hr (passS pass0) (pv 0) (pa_cons (pv 1) pa_nil)) pe_int (fun _ _=>rfl)))),?_⟩
 walk_at "st"
 obtain ⟨dx,d,kvs,h1,h2,h3,h4,h5⟩:=StockAt.has hs
 walk_at "go"
 refine ⟨dx,flds d,h1,by rfl,?_⟩
 walk_at "go"
 refine ⟨ts,hs,nd,hz,fun i t ht e a ha=>?_⟩
 subst e
 refine ixT_of ha rfl ?_
 rw [rm_at nd ht]at q
 exact q
theorem Z5n{f:Addr}{fd:FuncData}(F:Fun K "check_asks" "check_asks" Z2d f fd)(T:Txt K mg Z4 Z3 Z7 Z5 Z0 Z1 Z2 xmake_oldest xmake_first xmake_halving xmake_farthest xmake_hand xmake_rows xmake_dues Z6)(Zj:Def P w K mg base CX0 3 "check_places" ["places"] (sp32_check))(Z36:DefM P w K mg base CX0 1 Z4 "has" ["self","name"] (sp_has K Z4))(Za:DefM P w K mg base CX0 2 Z4 "room_of" ["self","name"] (sp32_room K Z4)):FnOk P w K mg base CX0 4 f fd ["stock","asks","places"] (N41.sp41_asks K Z4):=by
 have sc:FnScope ["stock","asks","places","number","name"] ["stock","asks","places"] (defScope Z2d):=by walk_at "sc"
 refine F.ok sc (fun vs H Q E h=>?_) (fun cdv A outer s H vs Q E hr h=>?_)
 · obtain ⟨_,_,_,_,_,rfl,_⟩:=h;rfl
 obtain ⟨p,a,pl,ts,ys,rfl,hs,nd,hS,hl,hin,hw,h1,h2,q⟩:=h
 refine ⟨_,(@pss_cons _ _ _ _ _ (ps_expr (pe_callD Zj hr rfl pass0 (pa_cons (pv 2) pa_nil)))
  (@pss_cons _ _ _ _ _ (ps_if (pt_cmpR op_gt (pe_callB call_len_seq rfl T.Z0e PySem.boot_len (pa_cons (pv 1) pa_nil)) (pe_gint rfl T.Z0u) (nomark _))
   (@pss_one _ _ _ ps_never)
   pss_nil)
  (@pss_cons _ _ _ _ _ (ps_for PassesOwn.never rfl (pi_enum rfl T.Z0h (pa_cons (pv 1) pa_nil)) (pg_tup rfl (pgs_cons (pg_name (i:=3) sc.nd rfl (Or.inl rfl)) (pgs_cons (pg_name (i:=4) sc.nd rfl (Or.inl rfl)) pgs_nil)))
   (@pss_cons _ _ _ _ _ (ps_if (pt_not (pt_val (pe_methS Z36 T.Zt hr (passS pass0) (pv 0) (pa_cons (pv 4) pa_nil))))
    (@pss_one _ _ _ ps_never)
    pss_nil)
   (@pss_one _ _ _ (ps_if (pt_cmpR op_gt (pe_methS Za T.Zt hr (passS pass0) (pv 0) (pa_cons (pv 4) pa_nil)) (pv 2) (nomark _))
    (@pss_one _ _ _ ps_never)
    pss_nil))))
  (@pss_one _ _ _ (@ps_ret _ _ _ _ pe_bl))))),?_⟩
 walk_at "st"
 have line:=line_val
 walk_at "go"
 rw [List.length_map,if_neg (by omega)]
 walk_at "go"
 refine ⟨⟨_,hS⟩,?_⟩
 rename_i rest hrest
 refine forE_by (xs:=ys.map V.str) (fun i σ H'=>∃v3 v4,σ=[some (V.ref p),some (V.ref a),some (V.int pl),v3,v4]∧Same H H') ⟨none,none,rfl,Same.refl _⟩ (fun i σ H' _ ⟨v3,v4,_,sm⟩=>sm.seq hS) ?_ ?_
 · rintro i x σ H' t hx ⟨v3,v4,rfl,sm⟩ ht
   rw [List.getElem?_map]at hx
   cases hy:ys[i]? with
   | none=>rw [hy]at hx;cases hx
   | some y=>
    rw [hy]at hx
    cases hx
    have hyin:=hin y (List.mem_of_getElem? hy)
    walk_at "go"
    refine ⟨_,SqT.of upd_same,rfl,_,_,rfl,_,_,rfl,rfl,?_⟩
    have sm2:=sm.trans (Same.new (o:= .tup [.int i,.str y]) ht)
    generalize upd H' t (.tup [.int i,.str y])=H2 at sm2 ⊢
    have hs2:=StockAt.same sm2 hs
    obtain ⟨dx,d,kvs,g1,g2,_⟩:=StockAt.has hs2
    walk_at "go"
    refine ⟨dx,flds d,g1,by rfl,ts,hs2,?_⟩
    rw [if_neg (fun h=>h hyin)]
    walk_at "go"
    refine ⟨dx,flds d,g1,by rfl,ts,hs2,nd,hyin,?_⟩
    rw [if_neg (by have:=hw y (List.mem_of_getElem? hy);omega)]
    exact sm2
 · rintro σ H' ⟨v3,v4,rfl,sm⟩
   walk_at "go"
   exact q _ sm
theorem Z5o{f:Addr}{fd:FuncData}(F:Fun K "__init__" "Shelf.__init__" Z2e f fd)(T:Txt K mg Z4 Z3 Z7 Z5 Z0 Z1 Z2 xmake_oldest xmake_first xmake_halving xmake_farthest xmake_hand xmake_rows xmake_dues Z6)(Zj:Def P w K mg base CX0 3 "check_places" ["places"] (sp32_check)):FnOk P w K mg base CX0 4 f fd ["self","stock","places"] (sp_sinit Z3):=by
 have sc:FnScope ["self","stock","places"] ["self","stock","places"] (defScope Z2e):=by walk_at "sc"
 refine F.ok sc (fun vs H Q E h=>?_) (fun cdv A outer s H vs Q E hr h=>?_)
 · obtain ⟨_,_,_,_,rfl,_⟩:=h;rfl
 obtain ⟨s,dx,p,n,rfl,hs,h1,h2,q⟩:=h
 refine ⟨_,(@pss_cons _ _ _ _ _ (ps_expr (pe_callD Zj hr rfl pass0 (pa_cons (pv 2) pa_nil)))
  (@pss_cons _ _ _ _ _ (ps_fld (pv 0) (pv 1) rfl)
  (@pss_cons _ _ _ _ _ (ps_fld (pv 0) (pv 2) rfl)
  (@pss_one _ _ _ (ps_fld (pv 0) pe_dnewK rfl))))),?_⟩
 walk_at "st"
 walk_at "go"
 refine ⟨Z3,dx,[],hs,T.Z8,T.Zr,by decide,?_⟩
 walk_at "go"
 refine ⟨Z3,dx,_,upd_same,T.Z8,T.Zy,by simp [putF],?_⟩
 walk_at "go"
 intro d hd
 have nd:d≠s:=fun e=>by rw [e,upd_same]at hd;cases hd
 have hd0:H d=none:=by rw [upd_ne nd]at hd;exact hd
 refine ⟨Z3,dx,_,by rw [upd_ne nd.symm,upd_same],T.Z8,T.Zh,by have:=length_putF "places" (V.int n) (putF "stock" (V.ref p) []);have:=length_putF "stock" (V.ref p) [];simp at *;omega,?_⟩
 refine q _ d (fun b o e nb=>?_) hd0 ⟨⟨dx,upd_same⟩,by rw [upd_ne nd,upd_same];rfl,List.nodup_nil⟩
 rw [upd_ne nb,upd_ne (ne_of_none e hd0),upd_ne nb]
 exact e
theorem Z55{f:Addr}{fd:FuncData}(F:Fun K "lying" "Shelf.lying" Z1o f fd)(T:Txt K mg Z4 Z3 Z7 Z5 Z0 Z1 Z2 xmake_oldest xmake_first xmake_halving xmake_farthest xmake_hand xmake_rows xmake_dues Z6):FnOk P w K mg base CX0 1 f fd ["self"] (sp_lying Z3):=by
 have sc:FnScope ["self"] ["self"] (defScope Z1o):=by walk_at "sc"
 refine F.ok sc (fun vs H Q E h=>?_) (fun cdv A outer s H vs Q E hr h=>?_)
 · obtain ⟨_,_,_,_,_,rfl,_⟩:=h;rfl
 obtain ⟨s,p,d,n,ls,rfl,hs,q⟩:=h
 refine ⟨_,(@pss_one _ _ _ (@ps_ret _ _ _ _ (pe_callTy (call_listD rfl) rfl T.Z14 (by first | rfl | decide+kernel) (pa_cons (pe_fld (pv 0) rfl) pa_nil)))),?_⟩
 walk_at "st"
 obtain ⟨⟨dx,ho⟩,hd,_⟩:=hs
 walk_at "go"
 refine ⟨Z3,dx,_,ho,T.Z8,T.Zh,_,sfl_rooms,?_⟩
 walk_at "go"
 refine ⟨_,hd,fun l hl=>?_⟩
 rw [lyK_names]
 exact q l hl
theorem Z56{f:Addr}{fd:FuncData}(F:Fun K "holds" "Shelf.holds" Z1p f fd)(T:Txt K mg Z4 Z3 Z7 Z5 Z0 Z1 Z2 xmake_oldest xmake_first xmake_halving xmake_farthest xmake_hand xmake_rows xmake_dues Z6):FnOk P w K mg base CX0 1 f fd ["self","name"] (sp_holds Z3):=by
 have sc:FnScope ["self","name"] ["self","name"] (defScope Z1p):=by walk_at "sc"
 refine F.ok sc (fun vs H Q E h=>?_) (fun cdv A outer s H vs Q E hr h=>?_)
 · obtain ⟨_,_,_,_,_,_,rfl,_⟩:=h;rfl
 obtain ⟨s,p,d,n,ls,z,rfl,hs,q⟩:=h
 refine ⟨_,(@pss_one _ _ _ (@ps_ret _ _ _ _ (pe_cmp (pc_din (hu_of hr) (pv 1) (pe_fld (pv 0) rfl))))),?_⟩
 walk_at "st"
 obtain ⟨⟨dx,ho⟩,hd,_⟩:=hs
 walk_at "go"
 refine ⟨Z3,dx,_,ho,T.Z8,T.Zh,_,sfl_rooms,d,rfl,_,DGet.k (k:=Sum.inr z) hd,?_⟩
 rw [lyK_mem]
 exact q
theorem Z42{f:Addr}{fd:FuncData}(F:Fun K "room_left" "Shelf.room_left" Z0s f fd)(T:Txt K mg Z4 Z3 Z7 Z5 Z0 Z1 Z2 xmake_oldest xmake_first xmake_halving xmake_farthest xmake_hand xmake_rows xmake_dues Z6):FnOk P w K mg base CX0 1 f fd ["self"] (sp_left Z3):=by
 have sc:FnScope ["self"] ["self"] (defScope Z0s):=by walk_at "sc"
 refine F.ok sc (fun vs H Q E h=>?_) (fun cdv A outer s H vs Q E hr h=>?_)
 · obtain ⟨_,_,_,_,_,rfl,_⟩:=h;rfl
 obtain ⟨s,p,d,n,ls,rfl,hs,q⟩:=h
 refine ⟨_,(@pss_one _ _ _ (@ps_ret _ _ _ _ (pe_op op_sub (pe_fld (pv 0) rfl) (pe_callB (call_sumV rfl) rfl T.Z2v (by first | rfl | decide+kernel) (pa_cons (pe_bm0 PySem.F.plainAttrs_dict PySem.F.slot_dict_values PySem.F.type_dict_values mt_values (pe_fld (pv 0) rfl)) pa_nil))))),?_⟩
 walk_at "st"
 obtain ⟨⟨dx,ho⟩,hd,_⟩:=hs
 walk_at "go"
 refine ⟨Z3,dx,_,ho,T.Z8,T.Zy,_,sfl_places,Z3,dx,_,ho,T.Z8,T.Zh,_,sfl_rooms,?_⟩
 refine ⟨.inr (.inr (.inl ⟨rfl,.inl ⟨_,hd⟩⟩)),d,rfl,_,hd,fun v hv=>⟨d,upd_same,_,(Same.new hv) _ _ hd,_,lyK_vals,n,rfl,q _ (Same.new hv)⟩⟩
theorem Z63{f:Addr}{fd:FuncData}(F:Fun K "put" "Shelf.put" Z2y f fd)(T:Txt K mg Z4 Z3 Z7 Z5 Z0 Z1 Z2 xmake_oldest xmake_first xmake_halving xmake_farthest xmake_hand xmake_rows xmake_dues Z6)(Za:DefM P w K mg base CX0 2 Z4 "room_of" ["self","name"] (sp32_room K Z4))(Z9:DefM P w K mg base CX0 1 Z3 "holds" ["self","name"] (sp_holds Z3))(Zb:DefM P w K mg base CX0 1 Z3 "room_left" ["self"] (sp_left Z3)):FnOk P w K mg base CX0 4 f fd ["self","name"] (sp_putG K Z4 Z3):=by
 have sc:FnScope ["self","name","room"] ["self","name"] (defScope Z2y):=by walk_at "sc"
 refine F.ok sc (fun vs H Q E h=>?_) (fun cdv A outer s H vs Q E hr h=>?_)
 · obtain ⟨_,_,_,_,_,_,_,_,rfl,_⟩:=h;rfl
 obtain ⟨s,p,d,n,ls,ts,z,r,rfl,hs,hx,nd,hl,hz,hr',hin,hle,q⟩:=h
 refine ⟨_,(@pss_cons _ _ _ _ _ (ps_set (i:=2) sc.nd rfl (Or.inl rfl) (pe_methS Za T.Zt hr (passS pass0) (pe_fld (pv 0) rfl) (pa_cons (pv 1) pa_nil)))
  (@pss_cons _ _ _ _ _ (ps_if (pt_val (pe_methS Z9 T.Z8 hr (passS pass0) (pv 0) (pa_cons (pv 1) pa_nil)))
   (@pss_one _ _ _ ps_never)
   pss_nil)
  (@pss_cons _ _ _ _ _ (ps_if (pt_cmpR op_gt (pv 2) (pe_methS0 Zb T.Z8 hr (passS pass0) (pv 0)) (nomark _))
   (@pss_one _ _ _ ps_never)
   pss_nil)
  (@pss_one _ _ _ (ps_dput (hu_of hr) (pe_fld (pv 0) rfl) (pv 1) (pv 2) rfl))))),?_⟩
 walk_at "st"
 have line:=line_val
 have hsA:=hs
 obtain ⟨⟨dx,ho⟩,hd,hnd⟩:=hs
 obtain ⟨dy,e,kvs,h1,h2,h3,h4,h5⟩:=StockAt.has hx.at
 walk_at "go"
 refine ⟨Z3,dx,_,ho,T.Z8,T.Zr,_,sfl_stock,?_⟩
 walk_at "go"
 refine ⟨dy,flds e,h1,by rfl,ts,hx.at,nd,hz,?_⟩
 rw [rm_of nd hz hr']
 walk_at "go"
 refine ⟨dx,_,ho,by rfl,?_⟩
 walk_at "go"
 refine ⟨_,_,_,_,hsA,?_⟩
 rw [if_neg (by simpa using hin)]
 walk_at "go"
 refine ⟨dx,_,ho,by rfl,_,_,_,_,hsA,fun H1 sm1=>?_⟩
 rw [if_neg (by omega)]
 walk_at "go"
 refine ⟨Z3,dx,_,sm1 _ _ ho,T.Z8,T.Zh,_,sfl_rooms,?_⟩
 have hll:(lyK ls).length < sizeLine:=by unfold lyK;rw [List.length_map];omega
 refine ⟨d,rfl,_,DPut.k (k:=Sum.inr z) (sm1 _ _ hd) hll,?_⟩
 refine q _ (fun b o e n=>?_) (hsA.put sm1 hin)
 rw [upd_ne n];exact sm1 _ _ e
theorem Z5p{f:Addr}{fd:FuncData}(F:Fun K "cast" "Shelf.cast" Z2f f fd)(T:Txt K mg Z4 Z3 Z7 Z5 Z0 Z1 Z2 xmake_oldest xmake_first xmake_halving xmake_farthest xmake_hand xmake_rows xmake_dues Z6)(Z9:DefM P w K mg base CX0 1 Z3 "holds" ["self","name"] (sp_holds Z3)):FnOk P w K mg base CX0 2 f fd ["self","name"] (sp_castG Z3):=by
 have sc:FnScope ["self","name"] ["self","name"] (defScope Z2f):=by walk_at "sc"
 refine F.ok sc (fun vs H Q E h=>?_) (fun cdv A outer s H vs Q E hr h=>?_)
 · obtain ⟨_,_,_,_,_,_,rfl,_⟩:=h;rfl
 obtain ⟨s,p,d,n,ls,z,rfl,hs,hin,q⟩:=h
 refine ⟨_,(@pss_cons _ _ _ _ _ (ps_if (pt_not (pt_val (pe_methS Z9 T.Z8 hr (passS pass0) (pv 0) (pa_cons (pv 1) pa_nil))))
  (@pss_one _ _ _ ps_never)
  pss_nil)
  (@pss_one _ _ _ (ps_expr (pe_dpop1 (pe_fld (pv 0) rfl) (pv 1) ⟨rfl,rfl,rfl,rfl⟩)))),?_⟩
 walk_at "st"
 have line:=line_val
 have hsA:=hs
 obtain ⟨⟨dx,ho⟩,hd,hnd⟩:=hs
 walk_at "go"
 refine ⟨dx,_,ho,by rfl,_,_,_,_,hsA,?_⟩
 rw [if_neg (fun h=>h hin)]
 walk_at "go"
 have hv:=lyK_mem (ls:=ls) (z:=z)
 rw [decide_eq_true hin]at hv
 obtain ⟨v,hv⟩:=Option.isSome_iff_exists.mp hv
 refine ⟨Z3,dx,_,ho,T.Z8,T.Zh,_,sfl_rooms,d,rfl,.inl ⟨_,.inl hd⟩,_,hd,Sum.inr z,rfl,v,hv,?_⟩
 exact q _ (fun b o e n=>by rw [upd_ne n];exact e) hsA.cast
theorem Z64{f:Addr}{fd:FuncData}(F:Fun K "casts_off" "casts_off" Z2z f fd)(T:Txt K mg Z4 Z3 Z7 Z5 Z0 Z1 Z2 xmake_oldest xmake_first xmake_halving xmake_farthest xmake_hand xmake_rows xmake_dues Z6)(Z9:DefM P w K mg base CX0 1 Z3 "holds" ["self","name"] (sp_holds Z3))(Z0a:DefM P w K mg base CX0 2 Z3 "cast" ["self","name"] (sp_castG Z3)):FnOk P w K mg base CX0 3 f fd ["shelf","name","gone"] (sp14_casts K Z3):=by
 have sc:FnScope ["shelf","name","gone","other"] ["shelf","name","gone"] (defScope Z2z):=by walk_at "sc"
 refine F.ok sc (fun vs H Q E h=>?_) (fun cdv A outer s H vs Q E hr h=>?_)
 · obtain ⟨_,_,_,_,_,_,_,_,rfl,_⟩:=h;rfl
 obtain ⟨q',p,d,g,n,ls,z,gone,rfl,hs,hg,hok,q⟩:=h
 refine ⟨_,(@pss_cons _ _ _ _ _ (ps_for PassesOwn.never rfl (pi_list (pv 2)) (pg_name (i:=3) sc.nd rfl (Or.inl rfl))
  (@pss_cons _ _ _ _ _ (ps_if (PW.pt (pw_or (pt_cmpR op_eq (pv 3) (pv 1) (nomark _)) (pw_or1 (pt_not (pt_val (pe_methS Z9 T.Z8 hr (passS pass0) (pv 0) (pa_cons (pv 3) pa_nil)))))))
   (@pss_one _ _ _ (@ps_ret _ _ _ _ pe_bl))
   pss_nil)
  (@pss_one _ _ _ (ps_expr (pe_methS Z0a T.Z8 hr (passS pass0) (pv 0) (pa_cons (pv 3) pa_nil))))))
  (@pss_one _ _ _ (@ps_ret _ _ _ _ pe_bl))),?_⟩
 walk_at "st"
 have line:=line_val
 have hd0:=hs.d
 walk_at "go"
 refine ⟨⟨_,hg⟩,?_⟩
 refine forL_by (xs:=gone.map V.str) (fun i σ H'=>∃(v3:Option V),σ=[some (V.ref q'),some (V.str z),some (V.ref g),v3]∧SameBut d H H'∧ShelfAt Z3 H' q' p d n (lyDs ls (gone.take i))) ⟨none,rfl,.of (Same.refl H),hs⟩ (fun i σ H' _ h_=>by obtain ⟨v3,_,sb,_⟩:=h_;exact SqL.butD sb hd0 hg) ?_ ?_
 · rintro i v σ H' hv ⟨v3,rfl,sb,hs'⟩
   rw [List.getElem?_map]at hv
   cases ho:gone[i]? with
   | none=>rw [ho]at hv;cases hv
   | some o=>
    rw [ho]at hv
    cases hv
    obtain ⟨h1,h2⟩:=okG_take hok ho
    rw [lyDs_succ ho]
    obtain ⟨⟨dx,ho'⟩,hd',hnd'⟩:=id hs'
    walk_at "go"
    rw [if_neg h1]
    refine ⟨dx,_,ho',by rfl,_,_,_,_,hs',?_⟩
    rw [if_neg (fun h=>h h2)]
    rename_i rest hrest
    subst hrest
    walk_at "go"
    refine ⟨dx,_,ho',by rfl,?_⟩
    refine ⟨_,_,_,_,hs',h2,fun H2 sb2 hs2=>⟨sb.trans sb2,hs2⟩⟩
 · rintro σ H' ⟨v3,rfl,sb,hs'⟩
   rw [List.length_map,List.take_length]at hs'
   walk_at "go"
   exact q H' sb hs'
theorem Z6r{f:Addr}{fd:FuncData}(F:Fun K "serves" "serves" Z4d f fd)(T:Txt K mg Z4 Z3 Z7 Z5 Z0 Z1 Z2 xmake_oldest xmake_first xmake_halving xmake_farthest xmake_hand xmake_rows xmake_dues Z6)(Z9:DefM P w K mg base CX0 1 Z3 "holds" ["self","name"] (sp_holds Z3))(Z37:Def P w K mg base CX0 3 "casts_off" ["shelf","name","gone"] (sp14_casts K Z3))(Za:DefM P w K mg base CX0 2 Z4 "room_of" ["self","name"] (sp32_room K Z4))(Zb:DefM P w K mg base CX0 1 Z3 "room_left" ["self"] (sp_left Z3))(Z0j:DefM P w K mg base CX0 4 Z3 "put" ["self","name"] (sp_putG K Z4 Z3)):FnOk P w K mg base CX0 5 f fd ["shelf","name","row"] (sp14_serves K Z4 Z3):=by
 have sc:FnScope ["shelf","name","row","there"] ["shelf","name","row"] (defScope Z4d):=by walk_at "sc"
 refine F.ok sc (fun vs H Q E h=>?_) (fun cdv A outer s H vs Q E hr h=>?_)
 · obtain ⟨_,_,_,_,_,_,_,_,_,_,rfl,_⟩:=h;rfl
 obtain ⟨q',p,d,r,g,n,ls,ts,z,row,rfl,hs,hx,nd,hz,hl,hr',hg,hok,q⟩:=h
 refine ⟨_,(@pss_cons _ _ _ _ _ (ps_set (i:=3) sc.nd rfl (Or.inl rfl) (pe_methS Z9 T.Z8 hr (passS pass0) (pv 0) (pa_cons (pv 1) pa_nil)))
  (@pss_cons _ _ _ _ _ (ps_if (PW.pt (pw_or (pt_cmpR op_ne (@pe_ix _ _ _ _ _ _ _ ix_tup (pv 2) pe_int (fun _ _=>rfl)) (pv 1) (nomark _)) (pw_or1 (pt_cmpR op_ne (@pe_ix _ _ _ _ _ _ _ ix_tup (pv 2) pe_int (fun _ _=>rfl)) (pv 3) (nomark _)))))
   (@pss_one _ _ _ (@ps_ret _ _ _ _ pe_bl))
   pss_nil)
  (@pss_cons _ _ _ _ _ (ps_if (pt_not (pt_val (pe_callD Z37 hr rfl pass0 (pa_cons (pv 0) (pa_cons (pv 1) (pa_cons (@pe_ix _ _ _ _ _ _ _ ix_tup (pv 2) pe_int (fun _ _=>rfl)) pa_nil))))))
   (@pss_one _ _ _ (@ps_ret _ _ _ _ pe_bl))
   pss_nil)
  (@pss_cons _ _ _ _ _ (ps_if (pt_val (pv 3))
   (@pss_one _ _ _ (@ps_ret _ _ _ _ pe_bl))
   pss_nil)
  (@pss_cons _ _ _ _ _ (ps_if (pt_cmpR op_gt (pe_methS Za T.Zt hr (passS pass0) (pe_fld (pv 0) rfl) (pa_cons (pv 1) pa_nil)) (pe_methS0 Zb T.Z8 hr (passS pass0) (pv 0)) (nomark _))
   (@pss_one _ _ _ (@ps_ret _ _ _ _ pe_bl))
   pss_nil)
  (@pss_cons _ _ _ _ _ (ps_expr (pe_methS Z0j T.Z8 hr (passS pass0) (pv 0) (pa_cons (pv 1) pa_nil)))
  (@pss_one _ _ _ (@ps_ret _ _ _ _ pe_bl)))))))),?_⟩
 walk_at "st"
 have line:=line_val
 obtain ⟨⟨dx,ho⟩,hd,hnd⟩:=id hs
 obtain ⟨e1,e2,e3,e4⟩:=hok
 obtain ⟨r0,r1,r2⟩:=row
 simp only at e1 e2 e3 e4 hr' hg q
 subst e1
 walk_at "go"
 refine ⟨dx,_,ho,by rfl,_,_,_,_,hs,?_⟩
 walk_at "go"
 refine ⟨_,_,_,_,hs,_,hg,e3,fun H1 sb1 hs1=>?_⟩
 rename_i rest hrest
 subst hrest
 obtain ⟨⟨dx1,ho1⟩,hd1,hnd1⟩:=id hs1
 walk_at "go"
 by_cases hin:r0∈lyN ls
 · rw [if_pos hin]
   refine q H1 sb1 ?_
   unfold stepL
   rw [if_pos hin]
   exact hs1
 rw [if_neg hin]
 rename_i rest hrest
 subst hrest
 have hx1:=hx.butD sb1 hd
 obtain ⟨dy,e,kvs,h1,h2,h3,h4,h5⟩:=StockAt.has hx1.at
 walk_at "go"
 refine ⟨Z3,dx1,_,ho1,T.Z8,T.Zr,_,sfl_stock,_,rfl,dy,flds e,h1,by rfl,_,rfl,ts,hx1.at,nd,hz,dx1,_,ho1,by rfl,_,_,_,_,hs1,fun H2 sm2=>?_⟩
 have hroom:=e4 hin
 rw [if_neg (by omega)]
 rename_i rest hrest
 subst hrest
 have hs2:=hs1.same sm2
 have hx2:=hx1.same sm2
 have hle:=lyDs_le ls r2
 obtain ⟨⟨dx2,ho2⟩,hd2,hnd2⟩:=id hs2
 walk_at "go"
 refine ⟨dx2,_,ho2,by rfl,_,_,_,_,hs2,ts,hx2,nd,by omega,hz,rm ts r0,fun t ht e=>?_,fun h=>hin (lyDs_mem.mp h).1,hroom,fun H3 sb3 hs3=>?_⟩
 · obtain ⟨i,hi⟩:=List.getElem?_of_mem ht
   rw [← e,rm_at nd hi]
 rename_i rest hrest
 subst hrest
 walk_at "go"
 refine q H3 ((sb1.trans (.of sm2)).trans sb3) ?_
 unfold stepL
 rw [if_neg hin]
 exact hs3
theorem Z57{f:Addr}{fd:FuncData}(F:Fun K "lying_after" "lying_after" Z1q f fd)(T:Txt K mg Z4 Z3 Z7 Z5 Z0 Z1 Z2 xmake_oldest xmake_first xmake_halving xmake_farthest xmake_hand xmake_rows xmake_dues Z6)(Zq:Def P w K mg base CX0 4 "check_asks" ["stock","asks","places"] (N41.sp41_asks K Z4))(Z0b:DefI P w K mg base CX0 4 "Shelf" Z3 ["self","stock","places"] (sp_sinit Z3))(Z4l:Def P w K mg base CX0 5 "serves" ["shelf","name","row"] (sp14_serves K Z4 Z3))(Z05:DefM P w K mg base CX0 1 Z3 "lying" ["self"] (sp_lying Z3)):FnOk P w K mg base CX0 7 f fd ["stock","asks","places","book"] (sp14_after K Z4):=by
 have sc:FnScope ["stock","asks","places","book","shelf","told","name","row"] ["stock","asks","places","book"] (defScope Z1q):=by walk_at "sc"
 refine F.ok sc (fun vs H Q E h=>?_) (fun cdv A outer s H vs Q E hr h=>?_)
 · obtain ⟨_,_,_,_,_,_,_,_,_,rfl,_⟩:=h;rfl
 obtain ⟨p,a,b,n,ts,ys,as,gs,rs,rfl,hst,nd,ha,hlen,hin,hrm,hn1,hn2,hb,hlaw,q⟩:=h
 refine ⟨_,(@pss_cons _ _ _ _ _ (ps_expr (pe_callD Zq hr rfl pass0 (pa_cons (pv 0) (pa_cons (pv 1) (pa_cons (pv 2) pa_nil)))))
  (@pss_cons _ _ _ _ _ (ps_set (i:=4) sc.nd rfl (Or.inl rfl) (pe_makeS Z0b hr rfl (passS pass0) (pa_cons (pv 0) (pa_cons (pv 2) pa_nil))))
  (@pss_cons _ _ _ _ _ (ps_set (i:=5) sc.nd rfl (Or.inl rfl) (@pe_lst _ _ _ _ pa_nil))
  (@pss_cons _ _ _ _ _ (ps_for PassesOwn.never rfl (pi_zip rfl T.Z4t (pa_cons (pv 1) (pa_cons (pv 3) pa_nil))) (pg_tup rfl (pgs_cons (pg_name (i:=6) sc.nd rfl (Or.inl rfl)) (pgs_cons (pg_name (i:=7) sc.nd rfl (Or.inl rfl)) pgs_nil)))
   (@pss_cons _ _ _ _ _ (ps_if (pt_not (pt_val (pe_callD Z4l hr rfl pass0 (pa_cons (pv 4) (pa_cons (pv 6) (pa_cons (pv 7) pa_nil))))))
    (@pss_one _ _ _ ps_never)
    pss_nil)
   (@pss_one _ _ _ (ps_expr (pe_bm PySem.F.plainAttrs_list PySem.F.slot_list_append PySem.F.type_list_append mt_append (pv 5) (pa_cons (pe_methS0 Z05 T.Z8 hr (passS pass0) (pv 4)) pa_nil))))))
  (@pss_cons _ _ _ _ _ (ps_if (pt_cmpR op_ne (pe_callB call_len_seq rfl T.Z0e PySem.boot_len (pa_cons (pv 1) pa_nil)) (pe_callB call_len_seq rfl T.Z0e PySem.boot_len (pa_cons (pv 3) pa_nil)) (nomark _))
   (@pss_one _ _ _ ps_never)
   pss_nil)
  (@pss_one _ _ _ (@ps_ret _ _ _ _ (pv 5)))))))),?_⟩
 walk_at "st"
 have line:=line_val
 walk_at "go"
 refine ⟨ts,hst,nd,ys,ha,hlen,hin,hrm,hn1,hn2,fun H1 sm1=>?_⟩
 rename_i rest hrest
 subst hrest
 walk_at "go"
 intro x dx hx hdx hne
 refine ⟨dx,upd_same,hn1,hn2,fun H2 d sb hdn hs2=>?_⟩
 have sm2:=sm1.trans (new_same hx hdx sb)
 have hd0:=same_none sm1 (new_none hdn)
 clear hdn sb hdx hne
 rename_i rest hrest
 subst hrest
 walk_at "go"
 intro l hl
 rename_i rest hrest
 subst hrest
 have sm3:Same H (upd H2 l (.lst [])):=upd_but sm2 (same_none sm2 hl)
 have hs3:=hs2.same (Same.new (o:= .lst []) hl)
 have hx3:=(StockX.of hst hd0).same sm3
 have htold:Told H (upd H2 l (.lst [])) l [] (stL (rm ts) ys rs) 0:=⟨upd_same,rfl,by simp,by simp⟩
 have hl0:=same_none sm2 hl
 walk_at "go"
 rename_i rest hrest
 refine ⟨⟨_,sm3.seq ha⟩,⟨_,(hb.same sm3).l⟩,?_⟩
 clear hl hs2 sm2 hx sm1
 have hlen2:(ys.map V.str).length=(as.map V.ref).length:=by rw [List.length_map,List.length_map,hlaw.len,hb.n]
 refine forZ_by hlen2 (fun i σ H'=>∃(v6 v7:Option V) (qs:List Addr),σ=[some (V.ref p),some (V.ref a),some (V.int n),some (V.ref b),some (V.ref x),some (V.ref l),v6,v7]∧Same H H'∧ShelfAt Z3 H' x p d n (stL (rm ts) ys rs i)∧StockX K Z4 H' p ts d∧Told H H' l qs (stL (rm ts) ys rs) i) ⟨none,none,[],rfl,sm3,hs3,hx3,htold⟩ (fun i σ H' _ ⟨_,_,_,_,sm,_⟩=>⟨sm.seq ha,(hb.same sm).l⟩) ?_ ?_
 · clear hs3 hx3 htold sm3 hrest
   rintro i u y σ H' t hu hy ⟨v6,v7,qs,rfl,sm,hs',hx',ht'⟩ htn
   rw [List.getElem?_map]at hu hy
   cases hz:ys[i]? with
   | none=>rw [hz]at hu;cases hu
   | some z=>
   rw [hz]at hu
   cases hu
   cases hr:as[i]? with
   | none=>rw [hr]at hy;cases hy
   | some r=>
   rw [hr]at hy
   cases hy
   have hi:i < as.length:=(List.getElem?_eq_some_iff.mp hr).1
   have hi2:i < rs.length:=by rw [← hb.n];exact hi
   have hi3:i < gs.length:=by rw [hb.m];exact hi2
   have hrow:=List.getElem?_eq_getElem hi2
   have hg:=List.getElem?_eq_getElem hi3
   generalize rs[i]=row at hrow
   generalize gs[i]=g at hg
   obtain ⟨hT,hG⟩:=hb.t i r g row hr hg hrow
   have hok:=hlaw.row hz hrow
   have hstep:=stL_succ (R:=rm ts) hz hrow
   have hle:=stL_le (rm ts) ys rs i
   have hi4:i < ys.length:=(List.getElem?_eq_some_iff.mp hz).1
   have hzin:=hin z (List.mem_of_getElem? hz)
   walk_at "go"
   refine ⟨_,SqT.of upd_same,rfl,_,_,rfl,_,_,rfl,rfl,?_⟩
   have smt:Same H' (upd H' t (.tup [V.str z,V.ref r])):=Same.new htn
   have sm4:=sm.trans smt
   have hs4:=hs'.same smt
   have hx4:=hx'.same smt
   have ht4:=ht'.same smt
   generalize upd H' t (.tup [V.str z,V.ref r])=H4 at smt sm4 hs4 hx4 ht4 ⊢
   clear smt ht' hx' hs' sm htn
   have hT4:=sm4.tup hT
   have hG4:=sm4.seq hG
   walk_at "go"
   refine ⟨_,_,g,_,_,hs4,ts,hx4,nd,hzin,by omega,row,hT4,hG4,hok,fun H5 sb5 hs5=>?_⟩
   rename_i rest hrest
   subst hrest
   have hd4:=hs4.d
   have sm5:=but_same sm4 hd0 sb5
   have hx5:=hx4.butD sb5 hd4
   rw [← hstep]at hs5
   obtain ⟨⟨dx5,ho5⟩,hd5,hnd5⟩:=id hs5
   have hld:l≠d:=fun e=>by have:=ht4.L;rw [e,hd4]at this;cases this
   have hl5:=sb5 _ _ ht4.L hld
   walk_at "go"
   refine ⟨.inl ⟨rfl,_,SqL.of hl5⟩,dx5,_,ho5,by rfl,_,_,_,_,hs5,fun y hy=>?_⟩
   have hly:l≠y:=fun e=>by rw [e,hy]at hl5;cases hl5
   have smy:Same H5 (upd H5 y (.lst ((lyN (stL (rm ts) ys rs (i+1))).map V.str))):=Same.new hy
   have hq4:=ht4.N
   refine ⟨_,_,_,rfl,rfl,smy _ _ hl5,by rw [List.length_map];omega,?_⟩
   have key:=ht4.step sm4 hd4 sb5 sm5 hy
   rw [List.map_append]at key
   exact ⟨upd_but (sm5.trans smy) hl0,(hs5.same smy).butL (fun b o e nb=>by rw [upd_ne nb];exact e) (smy _ _ hl5),(hx5.same smy).butL (fun b o e nb=>by rw [upd_ne nb];exact e) (smy _ _ hl5),_,key⟩
 · clear hs3 hx3 htold sm3
   rintro σ H' ⟨v6,v7,qs,rfl,sm,hs',hx',ht'⟩
   subst hrest
   rw [List.length_map]at ht' hs'
   walk_at "go"
   refine ⟨_,.inl (sm.seq ha),_,.inl (hb.same sm).l,?_⟩
   rw [if_neg (by rw [hlen2];exact fun h=>h rfl)]
   rename_i rest hrest
   subst hrest
   walk_at "go"
   exact q l qs H' hl0 sm ht'
theorem Z65{f:Addr}{fd:FuncData}(F:Fun K "__init__" "Rule.__init__" Z0i f fd)(T:Txt K mg Z4 Z3 Z7 Z5 Z0 Z1 Z2 xmake_oldest xmake_first xmake_halving xmake_farthest xmake_hand xmake_rows xmake_dues Z6)(Zj:Def P w K mg base CX0 3 "check_places" ["places"] (sp32_check)):FnOk P w K mg base CX0 4 f fd ["self","stock","places"] (sp28_rinit K):=by
 have sc:FnScope ["self","stock","places"] ["self","stock","places"] (defScope Z0i):=by walk_at "sc"
 refine F.ok sc (fun vs H Q E h=>?_) (fun cdv A outer s H vs Q E hr h=>?_)
 · obtain ⟨_,_,_,_,_,rfl,_⟩:=h;rfl
 obtain ⟨X,q',dx,p,n,rfl,hq,hcl,hns,hnp,h1,h2,q⟩:=h
 refine ⟨_,(@pss_cons _ _ _ _ _ (ps_expr (pe_callD Zj hr rfl pass0 (pa_cons (pv 2) pa_nil)))
  (@pss_cons _ _ _ _ _ (ps_fld (pv 0) (pv 1) rfl)
  (@pss_one _ _ _ (ps_fld (pv 0) (pv 2) rfl)))),?_⟩
 walk_at "st"
 walk_at "go"
 refine ⟨X,dx,[],hq,hcl,hns,by decide,?_⟩
 walk_at "go"
 refine ⟨X,dx,_,upd_same,hcl,hnp,by simp [putF],?_⟩
 walk_at "go"
 exact q _ (fun b o e nb=>by rw [upd_ne nb];exact e) upd_same
theorem Z58{f:Addr}{fd:FuncData}(F:Fun K "__init__" "Ranked.__init__" Z03 f fd)(T:Txt K mg Z4 Z3 Z7 Z5 Z0 Z1 Z2 xmake_oldest xmake_first xmake_halving xmake_farthest xmake_hand xmake_rows xmake_dues Z6)(Zw:DefB P w K mg base CX0 4 "Rule" Z7 ["self","stock","places"] (sp28_rinit K)):FnOk P w K mg base CX0 5 f fd ["self","stock","places"] (sp28_kinit K):=by
 have sc:FnScope ["self","stock","places"] ["self","stock","places"] (defScope Z03):=by walk_at "sc"
 refine F.ok sc (fun vs H Q E h=>?_) (fun cdv A outer s H vs Q E hr h=>?_)
 · obtain ⟨_,_,_,_,_,rfl,_⟩:=h;rfl
 obtain ⟨X,q',dx,p,n,rfl,hq,hcl,⟨hns,hnp⟩,hpr,hla5,h1,h2,q⟩:=h
 refine ⟨_,(@pss_cons _ _ _ _ _ (ps_expr (pe_initC Zw hr (passS pass0) (pe_glob (v:= .ref Z7) rfl T.Z5y rfl) (pa_cons (pv 0) (pa_cons (pv 1) (pa_cons (pv 2) pa_nil)))))
  (@pss_cons _ _ _ _ _ (ps_fld (pv 0) pe_int rfl)
  (@pss_one _ _ _ (ps_fld (pv 0) pe_dnewK rfl)))),?_⟩
 walk_at "st"
 have line:=line_val
 walk_at "go"
 refine ⟨X,dx,hq,hcl,hns,hnp,h1,h2,fun H1 sb1 hq1=>?_⟩
 rename_i rest hrest
 subst hrest
 walk_at "go"
 refine ⟨X,dx,_,hq1,hcl,hpr,by rw [show (rf0 p n).length=2 from rfl];decide,?_⟩
 have sb2:SameBut q' H1 (upd H1 q' (.ins X dx (putF "present" (V.int 0) (rf0 p n)))):=fun b o e nb=>by rw [upd_ne nb];exact e
 have hq2:upd H1 q' (.ins X dx (putF "present" (V.int 0) (rf0 p n))) q'=some (.ins X dx (putF "present" (V.int 0) (rf0 p n))):=upd_same
 generalize upd H1 q' (.ins X dx (putF "present" (V.int 0) (rf0 p n)))=H2 at sb2 hq2 ⊢
 rename_i rest hrest
 subst hrest
 walk_at "go"
 intro la hla
 have n1:la≠q':=fun e=>by rw [e,hq2]at hla;cases hla
 refine ⟨X,dx,_,by rw [upd_ne n1.symm];exact hq2,hcl,hla5,by rw [show (putF "present" (V.int 0) (rf0 p n)).length=3 from rfl];decide,?_⟩
 have sb12:=sb1.trans sb2
 have hla0:H la=none:=by
  cases e2:H la with
  | none=>rfl
  | some o=>rw [sb12 _ _ e2 n1]at hla;cases hla
 walk_at "go"
 exact q _ la (fun b o e nb=>by rw [upd_ne nb,upd_ne (fun e2=>by rw [e2,hla0]at e;cases e)];exact sb12 _ _ e nb) hla0 n1 upd_same (by rw [upd_ne n1,upd_same])
theorem Z59{f:Addr}{fd:FuncData}(F:Fun K "__init__" "Ranked.__init__" Z1r f fd)(T:Txt K mg Z4 Z3 Z7 Z5 Z0 Z1 Z2 xmake_oldest xmake_first xmake_halving xmake_farthest xmake_hand xmake_rows xmake_dues Z6)(Zw:DefB P w K mg base CX0 4 "Rule" Z7 ["self","stock","places"] (sp28_rinit K)):FnOk P w K mg base CX0 5 f fd ["self","stock","places"] (sp28_kinit K):=by
 have sc:FnScope ["self","stock","places"] ["self","stock","places"] (defScope Z1r):=by walk_at "sc"
 refine F.ok sc (fun vs H Q E h=>?_) (fun cdv A outer s H vs Q E hr h=>?_)
 · obtain ⟨_,_,_,_,_,rfl,_⟩:=h;rfl
 obtain ⟨X,q',dx,p,n,rfl,hq,hcl,⟨hns,hnp⟩,hpr,hla5,h1,h2,q⟩:=h
 refine ⟨_,(@pss_cons _ _ _ _ _ (ps_expr (pe_initC Zw hr (passS pass0) (pe_glob (v:= .ref Z7) rfl T.Z5y rfl) (pa_cons (pv 0) (pa_cons (pv 1) (pa_cons (pv 2) pa_nil)))))
  (@pss_cons _ _ _ _ _ (ps_fld (pv 0) pe_int rfl)
  (@pss_one _ _ _ (ps_fld (pv 0) pe_dnewK rfl)))),?_⟩
 walk_at "st"
 have line:=line_val
 walk_at "go"
 refine ⟨X,dx,hq,hcl,hns,hnp,h1,h2,fun H1 sb1 hq1=>?_⟩
 rename_i rest hrest
 subst hrest
 walk_at "go"
 refine ⟨X,dx,_,hq1,hcl,hpr,by rw [show (rf0 p n).length=2 from rfl];decide,?_⟩
 have sb2:SameBut q' H1 (upd H1 q' (.ins X dx (putF "present" (V.int 0) (rf0 p n)))):=fun b o e nb=>by rw [upd_ne nb];exact e
 have hq2:upd H1 q' (.ins X dx (putF "present" (V.int 0) (rf0 p n))) q'=some (.ins X dx (putF "present" (V.int 0) (rf0 p n))):=upd_same
 generalize upd H1 q' (.ins X dx (putF "present" (V.int 0) (rf0 p n)))=H2 at sb2 hq2 ⊢
 rename_i rest hrest
 subst hrest
 walk_at "go"
 intro la hla
 have n1:la≠q':=fun e=>by rw [e,hq2]at hla;cases hla
 refine ⟨X,dx,_,by rw [upd_ne n1.symm];exact hq2,hcl,hla5,by rw [show (putF "present" (V.int 0) (rf0 p n)).length=3 from rfl];decide,?_⟩
 have sb12:=sb1.trans sb2
 have hla0:H la=none:=by
  cases e2:H la with
  | none=>rfl
  | some o=>rw [sb12 _ _ e2 n1]at hla;cases hla
 walk_at "go"
 exact q _ la (fun b o e nb=>by rw [upd_ne nb,upd_ne (fun e2=>by rw [e2,hla0]at e;cases e)];exact sb12 _ _ e nb) hla0 n1 upd_same (by rw [upd_ne n1,upd_same])
theorem Z5q{f:Addr}{fd:FuncData}(F:Fun K "__init__" "First.__init__" Z2g f fd)(T:Txt K mg Z4 Z3 Z7 Z5 Z0 Z1 Z2 xmake_oldest xmake_first xmake_halving xmake_farthest xmake_hand xmake_rows xmake_dues Z6)(Z1z:DefB P w K mg base CX0 5 "Ranked" Z5 ["self","stock","places"] (sp28_kinit K)):FnOk P w K mg base CX0 6 f fd ["self","stock","places"] (sp22_init Z1):=by
 have sc:FnScope ["self","stock","places"] ["self","stock","places"] (defScope Z2g):=by walk_at "sc"
 refine F.ok sc (fun vs H Q E h=>?_) (fun cdv A outer s H vs Q E hr h=>?_)
 · obtain ⟨_,_,_,_,rfl,_⟩:=h;rfl
 obtain ⟨q',dx,p,n,rfl,hq,h1,h2,q⟩:=h
 refine ⟨_,(@pss_cons _ _ _ _ _ (ps_expr (pe_initC Z1z hr (passS pass0) (pe_glob (v:= .ref Z5) rfl T.Z6z rfl) (pa_cons (pv 0) (pa_cons (pv 1) (pa_cons (pv 2) pa_nil)))))
  (@pss_one _ _ _ (ps_fld (pv 0) pe_dnewK rfl))),?_⟩
 walk_at "st"
 have line:=line_val
 walk_at "go"
 refine ⟨Z1,dx,hq,T.Zn,T.Z00,T.Zz,T.Zl,T.Z07,h1,h2,fun H1 la sb1 hla n1 hq1' hl1=>?_⟩
 have hq1:H1 q'=some (.ins Z1 dx (putF "last" (V.ref la) (putF "present" (V.int 0) (rf0 p n)))):=hq1'
 clear hq1'
 rename_i rest hrest
 subst hrest
 walk_at "go"
 intro pa hpa
 have n2:pa≠q':=fun e=>by rw [e,hq1]at hpa;cases hpa
 have n3:la≠pa:=fun e=>by rw [← e,hl1]at hpa;cases hpa
 refine ⟨Z1,dx,_,by rw [upd_ne n2.symm];exact hq1,T.Zn,T.Zv,by rw [show (putF "last" (V.ref la) (putF "present" (V.int 0) (rf0 p n))).length=4 from rfl];decide,?_⟩
 have hpa0:H pa=none:=by
  cases e2:H pa with
  | none=>rfl
  | some o=>rw [sb1 _ _ e2 n2]at hpa;cases hpa
 walk_at "go"
 exact q _ la pa (fun b o e nb=>by rw [upd_ne nb,upd_ne (fun e2=>by rw [e2,hpa0]at e;cases e)];exact sb1 _ _ e nb) hla hpa0 ⟨la,pa,rfl,n3,⟨dx,upd_same⟩,by rw [upd_ne n1,upd_ne n3];exact hl1,by rw [upd_ne n2,upd_same]⟩
theorem Z66{f:Addr}{fd:FuncData}(F:Fun K "__init__" "Hand.__init__" Z30 f fd)(T:Txt K mg Z4 Z3 Z7 Z5 Z0 Z1 Z2 xmake_oldest xmake_first xmake_halving xmake_farthest xmake_hand xmake_rows xmake_dues Z6)(Zw:DefB P w K mg base CX0 4 "Rule" Z7 ["self","stock","places"] (sp28_rinit K)):FnOk P w K mg base CX0 6 f fd ["self","stock","places"] (sp28_hinit Z2):=by
 have sc:FnScope ["self","stock","places"] ["self","stock","places"] (defScope Z30):=by walk_at "sc"
 refine F.ok sc (fun vs H Q E h=>?_) (fun cdv A outer s H vs Q E hr h=>?_)
 · obtain ⟨_,_,_,_,rfl,_⟩:=h;rfl
 obtain ⟨q',dx,p,n,rfl,hq,h1,h2,q⟩:=h
 refine ⟨_,(@pss_cons _ _ _ _ _ (ps_expr (pe_initC Zw hr (passS pass0) (pe_glob (v:= .ref Z7) rfl T.Z5y rfl) (pa_cons (pv 0) (pa_cons (pv 1) (pa_cons (pv 2) pa_nil)))))
  (@pss_cons _ _ _ _ _ (ps_fld (pv 0) (@pe_lst _ _ _ _ pa_nil) rfl)
  (@pss_one _ _ _ (ps_fld (pv 0) pe_dnewK rfl)))),?_⟩
 walk_at "st"
 have line:=line_val
 walk_at "go"
 refine ⟨Z2,dx,hq,T.Zi,T.Z08,T.Z01,h1,h2,fun H1 sb1 hq1'=>?_⟩
 have hq1:H1 q'=some (.ins Z2 dx (putF "places" (V.int n) (putF "stock" (V.ref p) []))):=hq1'
 clear hq1'
 have back:∀b,b≠q'→H1 b=none→H b=none:=fun b nb e=>by
  cases e2:H b with
  | none=>rfl
  | some o=>rw [sb1 _ _ e2 nb]at e;cases e
 rename_i rest hrest
 subst hrest
 walk_at "go"
 intro od hod
 have n1:od≠q':=fun e=>by rw [e,hq1]at hod;cases hod
 have fl1:(putF "places" (V.int n) (putF "stock" (V.ref p) [])).length≤2:=by
  have e1:=length_putF "places" (V.int n) (putF "stock" (V.ref p) [])
  have e2:=length_putF "stock" (V.ref p) []
  simp at *;omega
 refine ⟨Z2,dx,_,by rw [upd_ne n1.symm];exact hq1,T.Zi,T.Zd,by omega,?_⟩
 rename_i rest hrest
 subst hrest
 walk_at "go"
 intro md hmd
 have n2:md≠q':=fun e=>by rw [e,upd_same]at hmd;cases hmd
 have n3:md≠od:=fun e=>by rw [upd_ne n2,e,upd_same]at hmd;cases hmd
 have hmd1:H1 md=none:=by rw [upd_ne n2,upd_ne n3]at hmd;exact hmd
 have fl2:(putF "order" (V.ref od) (putF "places" (V.int n) (putF "stock" (V.ref p) []))).length≤3:=by
  have e1:=length_putF "order" (V.ref od) (putF "places" (V.int n) (putF "stock" (V.ref p) []))
  omega
 refine ⟨Z2,dx,_,by rw [upd_ne n2.symm,upd_same],T.Zi,T.Zm,by omega,?_⟩
 walk_at "go"
 refine q _ od md (fun b o e nb=>?_) (back od n1 hod) (back md n2 hmd1) ⟨od,md,rfl,⟨dx,upd_same⟩,?_,?_⟩
 · have e1:=sb1 _ _ e nb
   rw [upd_ne nb,upd_ne (ne_of_none e1 hmd1),upd_ne nb,upd_ne (ne_of_none e1 hod)]
   exact e1
 · rw [upd_ne n1,upd_ne n3.symm,upd_ne n1,upd_same];rfl
 · rw [upd_ne n2,upd_same];rfl
theorem Z3n{f:Addr}{fd:FuncData}(F:Fun K "number_ask" "Ranked.number_ask" Z0l f fd)(T:Txt K mg Z4 Z3 Z7 Z5 Z0 Z1 Z2 xmake_oldest xmake_first xmake_halving xmake_farthest xmake_hand xmake_rows xmake_dues Z6):FnOk P w K mg base CX0 1 f fd ["self","name"] (sp21_number Z0):=by
 have sc:FnScope ["self","name"] ["self","name"] (defScope Z0l):=by walk_at "sc"
 refine F.ok sc (fun vs H Q E h=>?_) (fun cdv A outer s H vs Q E hr h=>?_)
 · obtain ⟨_,_,_,_,_,_,rfl,_⟩:=h;rfl
 obtain ⟨q',p,n,M,s,z,rfl,hh,hl,q⟩:=h
 refine ⟨_,(@pss_cons _ _ _ _ _ (ps_fldaug (pv 0) pe_int in_add)
  (@pss_one _ _ _ (ps_dput (hu_of hr) (pe_fld (pv 0) rfl) (pv 1) (pe_fld (pv 0) rfl) rfl))),?_⟩
 walk_at "st"
 have line:=line_val
 obtain ⟨la,hM,⟨dx,ho⟩,hla⟩:=hh
 have hM2:M=[q',la]∧True:=⟨hM,trivial⟩
 clear hM
 have nq1:q'≠la:=fun e=>by rw [e,hla]at ho;cases ho
 walk_at "go"
 refine ⟨Z0,dx,_,ho,T.Zk,T.Zg,_,rf2_present,s.k,rfl,dx,_,ho,by rw [rf2_len];decide,?_⟩
 have ho1:upd H q' (.ins Z0 dx (rf2 p n (s.k+1) la)) q'=some (.ins Z0 dx (rf2 p n (s.k+1) la)):=upd_same
 have hla1:upd H q' (.ins Z0 dx (rf2 p n (s.k+1) la)) la=some (.dK s.la):=by rw [upd_ne nq1.symm];exact hla
 have kp1:Kp M H (upd H q' (.ins Z0 dx (rf2 p n (s.k+1) la))):=(Kp.of (Same.refl H)).upd (by rw [hM2.1];simp)
 rename_i rest hrest
 show rest _ (upd H q' (.ins Z0 dx (rf2 p n (s.k+1) la)))
 generalize upd H q' (.ins Z0 dx (rf2 p n (s.k+1) la))=H1 at ho1 hla1 kp1 ⊢
 have hlp:=length_putK s.la (Sum.inr z:Key) (V.int (s.k+1))
 subst hrest
 walk_at "go"
 exact ⟨Z0,dx,_,ho1,T.Zk,T.Zg,_,rf2_present,Z0,dx,_,ho1,T.Zk,T.Zs,_,rf2_last,la,rfl,_,DPut.k (k:=Sum.inr z) hla1 (by omega),q _ (kp1.upd (by rw [hM2.1];simp)) ⟨la,hM2.1,⟨dx,by rw [upd_ne nq1];exact ho1⟩,upd_same⟩⟩
theorem Z4x{f:Addr}{fd:FuncData}(F:Fun K "asked" "Ranked.asked" Z1e f fd)(T:Txt K mg Z4 Z3 Z7 Z5 Z0 Z1 Z2 xmake_oldest xmake_first xmake_halving xmake_farthest xmake_hand xmake_rows xmake_dues Z6)(Z0m:DefM P w K mg base CX0 1 Z0 "number_ask" ["self","name"] (sp21_number Z0)):FnOk P w K mg base CX0 3 f fd ["self","name"] (spR_asked (T2 Z0)):=by
 have sc:FnScope ["self","name"] ["self","name"] (defScope Z1e):=by walk_at "sc"
 refine F.ok sc (fun vs H Q E h=>?_) (fun cdv A outer s H vs Q E hr h=>?_)
 · obtain ⟨_,_,_,_,_,_,_,_,rfl,_⟩:=h;rfl
 obtain ⟨q',p,n,M,s,l,ns,z,rfl,hh,hi,hz,hns,q⟩:=h
 refine ⟨_,(@pss_one _ _ _ (ps_expr (pe_methS Z0m T.Zk hr (passS pass0) (pv 0) (pa_cons (pv 1) pa_nil)))),?_⟩
 walk_at "st"
 have line:=line_val
 have hh':OAt Z0 H M q' p n s:=hh
 obtain ⟨la,hM,⟨dx,ho⟩,hla⟩:=id hh'
 have hlen:=hi.a.len
 walk_at "go"
 exact ⟨dx,_,ho,by rfl,p,n,M,s,hh',by omega,fun H1 kp1 h1=>q H1 kp1 h1⟩
theorem Z4c{f:Addr}{fd:FuncData}(F:Fun K "last_of" "Ranked.last_of" Z0y f fd)(T:Txt K mg Z4 Z3 Z7 Z5 Z0 Z1 Z2 xmake_oldest xmake_first xmake_halving xmake_farthest xmake_hand xmake_rows xmake_dues Z6):FnOk P w K mg base CX0 1 f fd ["self","name"] (sp21_last Z0):=by
 have sc:FnScope ["self","name"] ["self","name"] (defScope Z0y):=by walk_at "sc"
 refine F.ok sc (fun vs H Q E h=>?_) (fun cdv A outer s H vs Q E hr h=>?_)
 · obtain ⟨_,_,_,_,_,_,_,rfl,_⟩:=h;rfl
 obtain ⟨q',p,n,M,s,z,i,rfl,hh,hv,q⟩:=h
 refine ⟨_,(@pss_one _ _ _ (@ps_ret _ _ _ _ (pe_dget2 (hu_of hr) (pe_fld (pv 0) rfl) (pv 1) pe_int ⟨rfl,rfl,rfl,rfl⟩))),?_⟩
 walk_at "st"
 have line:=line_val
 obtain ⟨la,hM,⟨dx,ho⟩,hla⟩:=hh
 clear hM
 walk_at "go"
 exact ⟨Z0,dx,_,ho,T.Zk,T.Zs,_,rf2_last,la,rfl,.inl ⟨_,.inl hla⟩,some (.int i),by rw [← hv];exact DGet.k (k:=Sum.inr z) hla,q⟩
theorem Z5a{f:Addr}{fd:FuncData}(F:Fun K "rank" "Ranked.rank" Z04 f fd)(T:Txt K mg Z4 Z3 Z7 Z5 Z0 Z1 Z2 xmake_oldest xmake_first xmake_halving xmake_farthest xmake_hand xmake_rows xmake_dues Z6)(Z10:DefM P w K mg base CX0 1 Z0 "last_of" ["self","name"] (sp21_last Z0)):FnOk P w K mg base CX0 2 f fd ["self","name"] (sp21_rank Z0):=by
 have sc:FnScope ["self","name"] ["self","name"] (defScope Z04):=by walk_at "sc"
 refine F.ok sc (fun vs H Q E h=>?_) (fun cdv A outer s H vs Q E hr h=>?_)
 · obtain ⟨_,_,_,_,_,_,_,rfl,_⟩:=h;rfl
 obtain ⟨q',p,n,M,s,z,i,rfl,hh,hv,q⟩:=h
 refine ⟨_,(@pss_one _ _ _ (@ps_ret _ _ _ _ (pe_tup (pa_cons (pe_methS Z10 T.Zk hr (passS pass0) (pv 0) (pa_cons (pv 1) pa_nil)) pa_nil)))),?_⟩
 walk_at "st"
 have line:=line_val
 obtain ⟨la,hM,⟨dx,ho⟩,hla⟩:=id hh
 clear hM
 walk_at "go"
 exact ⟨dx,_,ho,by rfl,p,n,M,s,hh,i,hv,by omega,fun t ht=>q t ht⟩
theorem Z4m{f:Addr}{fd:FuncData}(F:Fun K "choice" "Ranked.choice" Z16 f fd)(T:Txt K mg Z4 Z3 Z7 Z5 Z0 Z1 Z2 xmake_oldest xmake_first xmake_halving xmake_farthest xmake_hand xmake_rows xmake_dues Z6)(Z20:DefV P w K mg base 2 Z0 "rank" ["self","name"] (sp21_rank Z0)):FnOk P w K mg base CX0 4 f fd ["self","lying"] (spR_choice (T2 Z0) K):=by
 have sc:FnScope ["self","lying"] ["self","lying"] (defScope Z16):=by walk_at "sc"
 refine F.ok sc (fun vs H Q E h=>?_) (fun cdv A outer s H vs Q E hr h=>?_)
 · obtain ⟨_,_,_,_,_,_,_,_,_,rfl,_⟩:=h;rfl
 obtain ⟨q',p,a,n,M,s,l,ns,z,rfl,hh,hm,hl,ha,ham,hns,hll,hcn,q⟩:=h
 refine ⟨_,(@pss_one _ _ _ (@ps_ret _ _ _ _ (pe_minK Z20 T.Zk hr rfl T.Z3h (by first | rfl | decide+kernel) (pa_cons (pv 1) pa_nil) (pv 0) rfl))),?_⟩
 walk_at "st"
 have line:=line_val
 have hh':OAt Z0 H M q' p n s:=hh
 obtain ⟨la,hM,⟨dx,ho⟩,hla⟩:=id hh'
 clear hM
 have hm':LM ns z s l:=hm
 have q2:∀H',Kp M H H'→OAt Z0 H' M q' p n s→Q (.str (lmin (lv s) l)) H':=q
 clear q hm
 walk_at "go"
 refine ⟨dx,_,ho,by rfl,l.map V.str,SqL.of ha,by simpa using hl,fun i=>[lv s (l.getD i Str.empty)],fun i v hv H1 sm1=>?_,fun v H1 sm1 hv=>?_⟩
 · rw [List.getElem?_map]at hv
   cases hz:l[i]? with
   | none=>rw [hz]at hv;cases hv
   | some u=>
   rw [hz]at hv
   cases hv
   obtain ⟨j,hj,_⟩:=hm'.i.v u (List.mem_of_getElem? hz)
   refine ⟨p,n,M,s,u,rfl,(T2 Z0).dep (fun m _ o=>sm1 m o) hh',j,hj,fun t ht=>⟨Same.new ht,?_⟩⟩
   rw [upd_same]
   show _=some (HO.tup [V.int (lv s (l.getD i Str.empty))])
   rw [List.getD_eq_getElem?_getD,hz]
   show _=some (HO.tup [V.int (lv s u)])
   rw [lv_at hj]
 · rw [bt_one,List.length_map,List.getElem?_map]at hv
   have hb:=best_lt (fun i=>lv s (l.getD i Str.empty)) (l.length - 1)
   have hl0:0 < l.length:=List.length_pos_iff.mpr hl
   have hlt:argBest (fun i j=>decide (lv s (l.getD i Str.empty) < lv s (l.getD j Str.empty))) (l.length - 1) < l.length:=by omega
   have e:v=V.str (lmin (lv s) l):=by
    unfold lmin
    rw [List.getD_eq_getElem?_getD,List.getElem?_eq_getElem hlt]
    rw [List.getElem?_eq_getElem hlt]at hv
    exact (Option.some.inj hv).symm
   rw [e]
   exact q2 _ (Kp.of sm1) ((T2 Z0).dep (fun m _ o=>sm1 m o) hh')
theorem Z5b{f:Addr}{fd:FuncData}(F:Fun K "gone" "Rule.gone" Z1s f fd)(T:Txt K mg Z4 Z3 Z7 Z5 Z0 Z1 Z2 xmake_oldest xmake_first xmake_halving xmake_farthest xmake_hand xmake_rows xmake_dues Z6):FnOk P w K mg base CX0 3 f fd ["self","name"] (spR_gone (T2 Z0)):=by
 have sc:FnScope ["self","name"] ["self","name"] (defScope Z1s):=by walk_at "sc"
 refine F.ok sc (fun vs H Q E h=>?_) (fun cdv A outer s H vs Q E hr h=>?_)
 · obtain ⟨_,_,_,_,_,_,_,_,rfl,_⟩:=h;rfl
 obtain ⟨q',p,n,M,s,l,ns,z,rfl,hh,hm,hl,hns,q⟩:=h
 refine ⟨_,(@pss_one _ _ _ ps_pass),?_⟩
 walk_at "st"
 walk_at "go"
 exact q _ (Kp.of (Same.refl _)) hh
theorem Z5c{f:Addr}{fd:FuncData}(F:Fun K "came" "Rule.came" Z1t f fd)(T:Txt K mg Z4 Z3 Z7 Z5 Z0 Z1 Z2 xmake_oldest xmake_first xmake_halving xmake_farthest xmake_hand xmake_rows xmake_dues Z6):FnOk P w K mg base CX0 1 f fd ["self","name"] (spR_came (T2 Z0)):=by
 have sc:FnScope ["self","name"] ["self","name"] (defScope Z1t):=by walk_at "sc"
 refine F.ok sc (fun vs H Q E h=>?_) (fun cdv A outer s H vs Q E hr h=>?_)
 · obtain ⟨_,_,_,_,_,_,_,_,rfl,_⟩:=h;rfl
 obtain ⟨q',p,n,M,s,l,ns,z,rfl,hh,hm,hz,hzl,hns,q⟩:=h
 refine ⟨_,(@pss_one _ _ _ ps_pass),?_⟩
 walk_at "st"
 walk_at "go"
 exact q _ (Kp.of (Same.refl _)) hh
theorem Z3t{f:Addr}{fd:FuncData}(F:Fun K "number_ask" "Ranked.number_ask" Z0p f fd)(T:Txt K mg Z4 Z3 Z7 Z5 Z0 Z1 Z2 xmake_oldest xmake_first xmake_halving xmake_farthest xmake_hand xmake_rows xmake_dues Z6):FnOk P w K mg base CX0 1 f fd ["self","name"] (sp22_number Z1):=by
 have sc:FnScope ["self","name"] ["self","name"] (defScope Z0p):=by walk_at "sc"
 refine F.ok sc (fun vs H Q E h=>?_) (fun cdv A outer s H vs Q E hr h=>?_)
 · obtain ⟨_,_,_,_,_,_,rfl,_⟩:=h;rfl
 obtain ⟨q',p,n,M,s,z,rfl,hh,hl,q⟩:=h
 refine ⟨_,(@pss_cons _ _ _ _ _ (ps_fldaug (pv 0) pe_int in_add)
  (@pss_one _ _ _ (ps_dput (hu_of hr) (pe_fld (pv 0) rfl) (pv 1) (pe_fld (pv 0) rfl) rfl))),?_⟩
 walk_at "st"
 have line:=line_val
 obtain ⟨la,pa,hM,d,⟨dx,ho⟩,hla,hpa⟩:=hh
 have hM2:M=[q',la,pa]∧True:=⟨hM,trivial⟩
 clear hM
 have nq1:q'≠la:=fun e=>by rw [e,hla]at ho;cases ho
 have nq2:q'≠pa:=fun e=>by rw [e,hpa]at ho;cases ho
 walk_at "go"
 refine ⟨Z1,dx,_,ho,T.Zn,T.Zl,_,rf1_present,s.k,rfl,dx,_,ho,by rw [rf1_len];decide,?_⟩
 have ho1:upd H q' (.ins Z1 dx (rf1 p n (s.k+1) la pa)) q'=some (.ins Z1 dx (rf1 p n (s.k+1) la pa)):=upd_same
 have hla1:upd H q' (.ins Z1 dx (rf1 p n (s.k+1) la pa)) la=some (.dK s.la):=by rw [upd_ne nq1.symm];exact hla
 have hpa1:upd H q' (.ins Z1 dx (rf1 p n (s.k+1) la pa)) pa=some (.dK s.pu):=by rw [upd_ne nq2.symm];exact hpa
 have kp1:Kp M H (upd H q' (.ins Z1 dx (rf1 p n (s.k+1) la pa))):=(Kp.of (Same.refl H)).upd (by rw [hM2.1];simp)
 rename_i rest hrest
 show rest _ (upd H q' (.ins Z1 dx (rf1 p n (s.k+1) la pa)))
 generalize upd H q' (.ins Z1 dx (rf1 p n (s.k+1) la pa))=H1 at ho1 hla1 hpa1 kp1 ⊢
 have hlp:=length_putK s.la (Sum.inr z:Key) (V.int (s.k+1))
 subst hrest
 walk_at "go"
 exact ⟨Z1,dx,_,ho1,T.Zn,T.Zl,_,rf1_present,Z1,dx,_,ho1,T.Zn,T.Z07,_,rf1_last,la,rfl,_,DPut.k (k:=Sum.inr z) hla1 (by omega),q _ (kp1.upd (by rw [hM2.1];simp)) ⟨la,pa,hM2.1,d,⟨dx,by rw [upd_ne nq1];exact ho1⟩,upd_same,by rw [upd_ne d.symm];exact hpa1⟩⟩
theorem Z5d{f:Addr}{fd:FuncData}(F:Fun K "asked" "Ranked.asked" Z1u f fd)(T:Txt K mg Z4 Z3 Z7 Z5 Z0 Z1 Z2 xmake_oldest xmake_first xmake_halving xmake_farthest xmake_hand xmake_rows xmake_dues Z6)(Z0q:DefM P w K mg base CX0 1 Z1 "number_ask" ["self","name"] (sp22_number Z1)):FnOk P w K mg base CX0 3 f fd ["self","name"] (spR_asked (T1 Z1)):=by
 have sc:FnScope ["self","name"] ["self","name"] (defScope Z1u):=by walk_at "sc"
 refine F.ok sc (fun vs H Q E h=>?_) (fun cdv A outer s H vs Q E hr h=>?_)
 · obtain ⟨_,_,_,_,_,_,_,_,rfl,_⟩:=h;rfl
 obtain ⟨q',p,n,M,s,l,ns,z,rfl,hh,hi,hz,hns,q⟩:=h
 refine ⟨_,(@pss_one _ _ _ (ps_expr (pe_methS Z0q T.Zn hr (passS pass0) (pv 0) (pa_cons (pv 1) pa_nil)))),?_⟩
 walk_at "st"
 have line:=line_val
 have hh':FAt Z1 H M q' p n s:=hh
 obtain ⟨la,pa,hM,d,⟨dx,ho⟩,hla,hpa⟩:=id hh'
 have hlen:=hi.a.len
 walk_at "go"
 exact ⟨dx,_,ho,by rfl,p,n,M,s,hh',by omega,fun H1 kp1 h1=>q H1 kp1 h1⟩
theorem Z5r{f:Addr}{fd:FuncData}(F:Fun K "rank" "First.rank" Z09 f fd)(T:Txt K mg Z4 Z3 Z7 Z5 Z0 Z1 Z2 xmake_oldest xmake_first xmake_halving xmake_farthest xmake_hand xmake_rows xmake_dues Z6):FnOk P w K mg base CX0 1 f fd ["self","name"] (sp22_rank Z1):=by
 have sc:FnScope ["self","name"] ["self","name"] (defScope Z09):=by walk_at "sc"
 refine F.ok sc (fun vs H Q E h=>?_) (fun cdv A outer s H vs Q E hr h=>?_)
 · obtain ⟨_,_,_,_,_,_,_,rfl,_⟩:=h;rfl
 obtain ⟨q',p,n,M,s,z,i,rfl,hh,hv,q⟩:=h
 refine ⟨_,(@pss_one _ _ _ (@ps_ret _ _ _ _ (pe_tup (pa_cons (pe_dget2 (hu_of hr) (pe_fld (pv 0) rfl) (pv 1) pe_int ⟨rfl,rfl,rfl,rfl⟩) pa_nil)))),?_⟩
 walk_at "st"
 have line:=line_val
 obtain ⟨la,pa,hM,d,⟨dx,ho⟩,hla,hpa⟩:=hh
 clear hM
 walk_at "go"
 exact ⟨Z1,dx,_,ho,T.Zn,T.Zv,_,rf1_put,pa,rfl,.inl ⟨_,.inl hpa⟩,some (.int i),by rw [← hv];exact DGet.k (k:=Sum.inr z) hpa,by omega,fun t ht=>q t ht⟩
theorem Z4y{f:Addr}{fd:FuncData}(F:Fun K "choice" "Ranked.choice" Z1f f fd)(T:Txt K mg Z4 Z3 Z7 Z5 Z0 Z1 Z2 xmake_oldest xmake_first xmake_halving xmake_farthest xmake_hand xmake_rows xmake_dues Z6)(Z2m:DefV P w K mg base 1 Z1 "rank" ["self","name"] (sp22_rank Z1)):FnOk P w K mg base CX0 4 f fd ["self","lying"] (spR_choice (T1 Z1) K):=by
 have sc:FnScope ["self","lying"] ["self","lying"] (defScope Z1f):=by walk_at "sc"
 refine F.ok sc (fun vs H Q E h=>?_) (fun cdv A outer s H vs Q E hr h=>?_)
 · obtain ⟨_,_,_,_,_,_,_,_,_,rfl,_⟩:=h;rfl
 obtain ⟨q',p,a,n,M,s,l,ns,z,rfl,hh,hm,hl,ha,ham,hns,hll,hcn,q⟩:=h
 refine ⟨_,(@pss_one _ _ _ (@ps_ret _ _ _ _ (pe_minK Z2m T.Zn hr rfl T.Z3h (by first | rfl | decide+kernel) (pa_cons (pv 1) pa_nil) (pv 0) rfl))),?_⟩
 walk_at "st"
 have line:=line_val
 have hh':FAt Z1 H M q' p n s:=hh
 obtain ⟨la,pa,hM,d,⟨dx,ho⟩,hla,hpa⟩:=id hh'
 clear hM
 have hm':FI ns s l (s.k - 1):=hm
 have q2:∀H',Kp M H H'→FAt Z1 H' M q' p n s→Q (.str (l.headD Str.empty)) H':=q
 clear q hm
 walk_at "go"
 refine ⟨dx,_,ho,by rfl,l.map V.str,SqL.of ha,by simpa using hl,fun i=>[N22.pv s (l.getD i Str.empty)],fun i v hv H1 sm1=>?_,fun v H1 sm1 hv=>?_⟩
 · rw [List.getElem?_map]at hv
   cases hz:l[i]? with
   | none=>rw [hz]at hv;cases hv
   | some u=>
   rw [hz]at hv
   cases hv
   obtain ⟨j,hj,_⟩:=hm'.v u (List.mem_of_getElem? hz)
   refine ⟨p,n,M,s,u,rfl,(T1 Z1).dep (fun m _ o=>sm1 m o) hh',j,hj,fun t ht=>⟨Same.new ht,?_⟩⟩
   rw [upd_same]
   show _=some (HO.tup [V.int (N22.pv s (l.getD i Str.empty))])
   rw [List.getD_eq_getElem?_getD,hz]
   show _=some (HO.tup [V.int (N22.pv s u)])
   rw [pv_at hj]
 · have hb:argBest (btK fun i=>[N22.pv s (l.getD i Str.empty)]) ((l.map V.str).length - 1)=0:=by
    rw [List.length_map]
    refine best_head (v:=fun i=>N22.pv s (l.getD i Str.empty)) (fun i _=>rfl) (fun i hi=>?_)
    have hl0:0 < l.length:=List.length_pos_iff.mpr hl
    by_cases e:i=0
    · rw [e];exact Int.le_refl _
    · have:=(List.pairwise_iff_getElem.mp hm'.o) 0 i hl0 (by omega) (by omega)
      rw [List.getD_eq_getElem?_getD,List.getD_eq_getElem?_getD,List.getElem?_eq_getElem hl0,List.getElem?_eq_getElem (show i < l.length by omega)]
      exact Int.le_of_lt this
   rw [hb]at hv
   cases l with
   | nil=>exact absurd rfl hl
   | cons x r=>
    cases hv
    exact q2 _ (Kp.of sm1) ((T1 Z1).dep (fun m _ o=>sm1 m o) hh')
theorem Z5s{f:Addr}{fd:FuncData}(F:Fun K "gone" "Rule.gone" Z2h f fd)(T:Txt K mg Z4 Z3 Z7 Z5 Z0 Z1 Z2 xmake_oldest xmake_first xmake_halving xmake_farthest xmake_hand xmake_rows xmake_dues Z6):FnOk P w K mg base CX0 3 f fd ["self","name"] (spR_gone (T1 Z1)):=by
 have sc:FnScope ["self","name"] ["self","name"] (defScope Z2h):=by walk_at "sc"
 refine F.ok sc (fun vs H Q E h=>?_) (fun cdv A outer s H vs Q E hr h=>?_)
 · obtain ⟨_,_,_,_,_,_,_,_,rfl,_⟩:=h;rfl
 obtain ⟨q',p,n,M,s,l,ns,z,rfl,hh,hm,hl,hns,q⟩:=h
 refine ⟨_,(@pss_one _ _ _ ps_pass),?_⟩
 walk_at "st"
 walk_at "go"
 exact q _ (Kp.of (Same.refl _)) hh
theorem Z5t{f:Addr}{fd:FuncData}(F:Fun K "came" "First.came" Z2i f fd)(T:Txt K mg Z4 Z3 Z7 Z5 Z0 Z1 Z2 xmake_oldest xmake_first xmake_halving xmake_farthest xmake_hand xmake_rows xmake_dues Z6):FnOk P w K mg base CX0 1 f fd ["self","name"] (spR_came (T1 Z1)):=by
 have sc:FnScope ["self","name"] ["self","name"] (defScope Z2i):=by walk_at "sc"
 refine F.ok sc (fun vs H Q E h=>?_) (fun cdv A outer s H vs Q E hr h=>?_)
 · obtain ⟨_,_,_,_,_,_,_,_,rfl,_⟩:=h;rfl
 obtain ⟨q',p,n,M,s,l,ns,z,rfl,hh,hm,hz,hzl,hns,q⟩:=h
 refine ⟨_,(@pss_one _ _ _ (ps_dput (hu_of hr) (pe_fld (pv 0) rfl) (pv 1) (pe_fld (pv 0) rfl) rfl)),?_⟩
 walk_at "st"
 have line:=line_val
 have hh':FAt Z1 H M q' p n s:=hh
 obtain ⟨la,pa,hM,d,⟨dx,ho⟩,hla,hpa⟩:=id hh'
 have hM2:M=[q',la,pa]∧True:=⟨hM,trivial⟩
 clear hM
 have hlen:=hm.b.len
 have nq2:q'≠pa:=fun e=>by rw [e,hpa]at ho;cases ho
 have q2:∀H',Kp M H H'→FAt Z1 H' M q' p n (f1came s z)→Q .non H':=q
 clear q
 have hlp:=length_putK s.pu (Sum.inr z:Key) (V.int s.k)
 walk_at "go"
 refine ⟨Z1,dx,_,ho,T.Zn,T.Zl,_,rf1_present,Z1,dx,_,ho,T.Zn,T.Zv,_,rf1_put,pa,rfl,_,DPut.k (k:=Sum.inr z) hpa (by omega),q2 _ ((Kp.of (Same.refl H)).upd (by rw [hM2.1];simp)) ⟨la,pa,hM2.1,d,⟨dx,by rw [upd_ne nq2];exact ho⟩,by rw [upd_ne d];exact hla,upd_same⟩⟩
theorem Z5u{f:Addr}{fd:FuncData}(F:Fun K "asked" "Hand.asked" Z2j f fd)(T:Txt K mg Z4 Z3 Z7 Z5 Z0 Z1 Z2 xmake_oldest xmake_first xmake_halving xmake_farthest xmake_hand xmake_rows xmake_dues Z6):FnOk P w K mg base CX0 3 f fd ["self","name"] (spR_asked (T6 Z2)):=by
 have sc:FnScope ["self","name"] ["self","name"] (defScope Z2j):=by walk_at "sc"
 refine F.ok sc (fun vs H Q E h=>?_) (fun cdv A outer s H vs Q E hr h=>?_)
 · obtain ⟨_,_,_,_,_,_,_,_,rfl,_⟩:=h;rfl
 obtain ⟨q',p,n,M,s,l,ns,z,rfl,hh,hi,hz,hns,q⟩:=h
 refine ⟨_,(@pss_one _ _ _ (ps_if (pt_cmpR op_in_seq (pv 1) (pe_fld (pv 0) rfl) (by with_unfolding_all rfl))
  (@pss_one _ _ _ (ps_dput (hu_of hr) (pe_fld (pv 0) rfl) (pv 1) pe_bl rfl))
  pss_nil)),?_⟩
 walk_at "st"
 have line:=line_val
 obtain ⟨s,rfl⟩:∃s':H6,s=s':=⟨s,rfl⟩
 have hh':HkAt Z2 H M q' p n s:=hh
 obtain ⟨od,md,hM,⟨dx,ho⟩,hl,hk⟩:=id hh'
 have nqo:q'≠od:=ne_of ho hl (by intro z;cases z)
 have nqm:q'≠md:=ne_of ho hk (by intro z;cases z)
 have nom:od≠md:=ne_of hl hk (by intro z;cases z)
 subst hM
 have hi':HI6 ns s l:=hi
 have hlen:=hi'.k.len
 have q2:∀H',Kp [q',od,md] H H'→HkAt Z2 H' [q',od,md] q' p n (ask6 s z)→Q .non H':=q
 clear q
 walk_at "go"
 refine ⟨Z2,dx,_,ho,T.Zi,T.Zd,_,hfl_order,in_go (SqL.of hl) ⟨_,rfl,?_⟩⟩
 by_cases hz:z∈s.L
 · rw [if_pos (decide_eq_true hz)]
   have hlp:=length_putK s.k (Sum.inr z:Key) (V.bl true)
   refine ⟨Z2,dx,_,ho,T.Zi,T.Zm,_,hfl_marked,md,rfl,_,DPut.k (k:=Sum.inr z) hk (by omega),?_⟩
   exact q2 _ ((Kp.of (Same.refl _)).upd (by simp)) (by rw [ask6_in hz];exact ⟨od,md,rfl,⟨dx,by rw [upd_ne nqm];exact ho⟩,by rw [upd_ne nom];exact hl,upd_same⟩)
 · rw [if_neg (by simp [hz])]
   exact q2 H (.of (Same.refl _)) (by rw [ask6_out hz];exact hh')
theorem Z5e{f:Addr}{fd:FuncData}(F:Fun K "choice" "Hand.choice" Z1v f fd)(T:Txt K mg Z4 Z3 Z7 Z5 Z0 Z1 Z2 xmake_oldest xmake_first xmake_halving xmake_farthest xmake_hand xmake_rows xmake_dues Z6):FnOk P w K mg base CX0 4 f fd ["self","lying"] (spR_choice (T6 Z2) K):=by
 have sc:FnScope ["self","lying","front"] ["self","lying"] (defScope Z1v):=by walk_at "sc"
 refine F.ok sc (fun vs H Q E h=>?_) (fun cdv A outer s H vs Q E hr h=>?_)
 · obtain ⟨_,_,_,_,_,_,_,_,_,rfl,_⟩:=h;rfl
 obtain ⟨q',p,a,n,M,s,l,ns,z,rfl,hh,hm,hl0,ha,ham,hns,hll,hcn,q⟩:=h
 refine ⟨_,(@pss_cons _ _ _ _ _ (ps_while PassesOwn.never (pt_cmp (pc_din (hu_of hr) (@pe_ix _ _ _ _ _ _ _ ix_list (pe_fld (pv 0) rfl) pe_int (fun _ _=>rfl)) (pe_fld (pv 0) rfl)))
  (@pss_cons _ _ _ _ _ (ps_set (i:=2) sc.nd rfl (Or.inl rfl) (pe_bm PySem.F.plainAttrs_list PySem.F.slot_list_pop PySem.F.type_list_pop mt_popAt (pe_fld (pv 0) rfl) (pa_cons pe_int pa_nil)))
  (@pss_cons _ _ _ _ _ (ps_expr (pe_dpop1 (pe_fld (pv 0) rfl) (pv 2) ⟨rfl,rfl,rfl,rfl⟩))
  (@pss_one _ _ _ (ps_expr (pe_bm PySem.F.plainAttrs_list PySem.F.slot_list_append PySem.F.type_list_append mt_append (pe_fld (pv 0) rfl) (pa_cons (pv 2) pa_nil)))))))
  (@pss_one _ _ _ (@ps_ret _ _ _ _ (@pe_ix _ _ _ _ _ _ _ ix_list (pe_fld (pv 0) rfl) pe_int (fun _ _=>rfl))))),?_⟩
 walk_at "st"
 have line:=line_val
 obtain ⟨s,rfl⟩:∃s':H6,s=s':=⟨s,rfl⟩
 have hh':HkAt Z2 H M q' p n s:=hh
 obtain ⟨od,md,hM,⟨dx,ho⟩,hl,hk⟩:=id hh'
 have nqo:q'≠od:=ne_of ho hl (by intro z;cases z)
 have nqm:q'≠md:=ne_of ho hk (by intro z;cases z)
 have nom:od≠md:=ne_of hl hk (by intro z;cases z)
 subst hM
 have hi':HI6 ns s l:=hm
 have q2:∀H',Kp [q',od,md] H H'→HkAt Z2 H' [q',od,md] q' p n (hpk s)→Q (.str ((hpk s).L.headD Str.empty)) H':=q
 clear q hm
 walk_at "go"
 rename_i rest hrest
 refine while_d (m0:=s.k.length) (fun m σ H5=>∃(s':H6) (v2:Option V),σ=[some (V.ref q'),some (V.ref a),v2]∧Kp [q',od,md] H H5∧H5 q'=some (.ins Z2 dx (hfl p od md n))∧H5 od=some (.lst (s'.L.map V.str))∧H5 md=some (.dK s'.k)∧HI6 ns s' l∧hpk s'=hpk s∧m=s'.k.length) ⟨s,none,rfl,Kp.of (Same.refl _),ho,hl,hk,hi',rfl,rfl⟩ ?_
 clear ho hl hk
 rintro m' σ H5 ⟨⟨L',k'⟩,v2,rfl,kp5,ho,hl,hk,hi5,hf5,rfl⟩
 have hpl:=hi5.p.length_eq
 cases L' with
 | nil=>exact absurd (List.length_eq_zero_iff.mp (by simpa using hpl.symm)) hl0
 | cons f r=>
 simp only at ho hl hk hpl
 walk_at "go"
 refine ⟨Z2,dx,_,ho,T.Zi,T.Zd,_,hfl_order,ixL_of (SqL.of hl) (v:=V.str f) (atI_nat (j:=0) rfl) ?_⟩
 refine ⟨Z2,dx,_,ho,T.Zi,T.Zm,_,hfl_marked,md,rfl,_,DGet.k (k:=Sum.inr f) hk,?_⟩
 by_cases hfd:(valV k' (Sum.inr f)).isSome=true
 · rw [if_pos hfd]
   clear hrest
   refine ⟨_,fun σ' H7 h=>h,?_⟩
   walk_at "go"
   refine ⟨Z2,dx,_,ho,T.Zi,T.Zd,_,hfl_order,.inl ⟨rfl,_,SqL.of hl⟩,pop0_go hl ?_⟩
   have kp6:Kp [q',od,md] H (upd H5 od (.lst (r.map V.str))):=kp5.upd (by simp)
   have ho6:upd H5 od (.lst (r.map V.str)) q'=_:=(upd_ne nqo).trans ho
   have hl6:upd H5 od (.lst (r.map V.str)) od=some (.lst (r.map V.str)):=upd_same
   have hk6:upd H5 od (.lst (r.map V.str)) md=_:=(upd_ne nom.symm).trans hk
   rename_i rest2 hrest2
   show rest2 _ (upd H5 od (.lst (r.map V.str)))
   generalize upd H5 od (.lst (r.map V.str))=H6 at ho6 hl6 hk6 kp6 ⊢
   clear ho hl hk kp5
   subst hrest2
   walk_at "go"
   obtain ⟨v,hv⟩:∃v,valV k' (Sum.inr f)=some v:=Option.isSome_iff_exists.mp hfd
   refine ⟨Z2,dx,_,ho6,T.Zi,T.Zm,_,hfl_marked,md,rfl,.inl ⟨_,.inl hk6⟩,k',hk6,Sum.inr f,rfl,v,hv,?_⟩
   have kp7:Kp [q',od,md] H (upd H6 md (.dK (dropK k' (Sum.inr f)))):=kp6.upd (by simp)
   have ho7:upd H6 md (.dK (dropK k' (Sum.inr f))) q'=_:=(upd_ne nqm).trans ho6
   have hl7:upd H6 md (.dK (dropK k' (Sum.inr f))) od=_:=(upd_ne nom).trans hl6
   have hk7:upd H6 md (.dK (dropK k' (Sum.inr f))) md=some (.dK (dropK k' (Sum.inr f))):=upd_same
   generalize upd H6 md (.dK (dropK k' (Sum.inr f)))=H7 at ho7 hl7 hk7 kp7 ⊢
   clear hk6 ho6 hl6 hv kp6
   have hdl:=drop_len hfd
   have hpg:=(hpk_go (r:=r) hfd).symm.trans hf5
   clear hf5
   rename_i rest2 hrest2
   subst hrest2
   walk_at "go"
   rw [List.length_cons]at hpl
   have hp:(r++[f]).Perm (f::r):=List.perm_append_singleton ..
   refine ⟨Z2,dx,_,ho7,T.Zi,T.Zd,_,hfl_order,.inl ⟨rfl,_,SqL.of hl7⟩,od,_,_,rfl,rfl,hl7,by rw [List.length_map];omega,(dropK k' (Sum.inr f)).length,hdl,kp7.upd (by simp),by rw [upd_ne nqo];exact ho7,⟨r++[f],dropK k' (Sum.inr f)⟩,by rw [upd_same,List.map_append];rfl,by rw [upd_ne nom.symm];exact hk7,⟨KeysIn.drop hi5.k,hp.trans hi5.p,hp.nodup_iff.mpr hi5.nd,fun u hu=>hi5.s u (hp.mem_iff.mp hu)⟩,hpg,rfl⟩
 · rw [if_neg hfd]
   have hpe:hpk s=⟨f::r,k'⟩∧True:=⟨hf5.symm.trans (hpk_end hfd),trivial⟩
   clear hf5
   subst hrest
   walk_at "go"
   rw [hpe.1]at q2
   exact ⟨Z2,dx,_,ho,T.Zi,T.Zd,_,hfl_order,ixL_of (SqL.of hl) (v:=V.str f) (atI_nat (j:=0) rfl) (q2 H5 kp5 ⟨od,md,rfl,⟨dx,ho⟩,hl,hk⟩)⟩
theorem Z67{f:Addr}{fd:FuncData}(F:Fun K "gone" "Hand.gone" Z31 f fd)(T:Txt K mg Z4 Z3 Z7 Z5 Z0 Z1 Z2 xmake_oldest xmake_first xmake_halving xmake_farthest xmake_hand xmake_rows xmake_dues Z6):FnOk P w K mg base CX0 3 f fd ["self","name"] (spR_gone (T6 Z2)):=by
 have sc:FnScope ["self","name"] ["self","name"] (defScope Z31):=by walk_at "sc"
 refine F.ok sc (fun vs H Q E h=>?_) (fun cdv A outer s H vs Q E hr h=>?_)
 · obtain ⟨_,_,_,_,_,_,_,_,rfl,_⟩:=h;rfl
 obtain ⟨q',p,n,M,s,l,ns,z,rfl,hh,hm,hl0,hns,q⟩:=h
 refine ⟨_,(@pss_one _ _ _ (ps_expr (pe_bm PySem.F.plainAttrs_list PySem.F.slot_list_remove PySem.F.type_list_remove mt_remove (pe_fld (pv 0) rfl) (pa_cons (pv 1) pa_nil)))),?_⟩
 walk_at "st"
 have hi':HI6 ns s l:=hm
 have hi2:HI6 ns (hpk s) l:=hrot_inv _ _ hi'
 have hpm:(hpk s).L.headD Str.empty∈(hpk s).L:=hi2.p.mem_iff.mpr ((RuleT.i_pick (T6 Z2) (ns:=ns) (n:=n) (z:=z) hm hl0).1)
 have q2:∀H',Kp M H H'→HkAt Z2 H' M q' p n ⟨(hpk s).L.erase ((hpk s).L.headD Str.empty),(hpk s).k⟩→Q .non H':=q
 have hh0:HkAt Z2 H M q' p n (hpk s):=hh
 show _
 rw [show ((T6 Z2).pick n s l).2=(hpk s).L.headD Str.empty from rfl]
 clear q hh hm
 generalize (hpk s).L.headD Str.empty=y at hpm q2 ⊢
 generalize hpk s=s at hh0 hpm q2 hi2
 have hh:=hh0
 have line:=line_val
 obtain ⟨s,rfl⟩:∃s':H6,s=s':=⟨s,rfl⟩
 have hh':HkAt Z2 H M q' p n s:=hh
 obtain ⟨od,md,hM,⟨dx,ho⟩,hl,hk⟩:=id hh'
 have nqo:q'≠od:=ne_of ho hl (by intro z;cases z)
 have nqm:q'≠md:=ne_of ho hk (by intro z;cases z)
 have nom:od≠md:=ne_of hl hk (by intro z;cases z)
 subst hM
 walk_at "go"
 exact ⟨Z2,dx,_,ho,T.Zi,T.Zd,_,hfl_order,.inl ⟨rfl,_,SqL.of hl⟩,od,rfl,s.L,hl,hpm,q2 _ ((Kp.of (Same.refl _)).upd (by simp)) ⟨od,md,rfl,⟨dx,by rw [upd_ne nqo];exact ho⟩,upd_same,by rw [upd_ne nom.symm];exact hk⟩⟩
theorem Z68{f:Addr}{fd:FuncData}(F:Fun K "came" "Hand.came" Z32 f fd)(T:Txt K mg Z4 Z3 Z7 Z5 Z0 Z1 Z2 xmake_oldest xmake_first xmake_halving xmake_farthest xmake_hand xmake_rows xmake_dues Z6):FnOk P w K mg base CX0 1 f fd ["self","name"] (spR_came (T6 Z2)):=by
 have sc:FnScope ["self","name"] ["self","name"] (defScope Z32):=by walk_at "sc"
 refine F.ok sc (fun vs H Q E h=>?_) (fun cdv A outer s H vs Q E hr h=>?_)
 · obtain ⟨_,_,_,_,_,_,_,_,rfl,_⟩:=h;rfl
 obtain ⟨q',p,n,M,s,l,ns,z,rfl,hh,hm,hz,hzl,hns,q⟩:=h
 refine ⟨_,(@pss_cons _ _ _ _ _ (ps_expr (pe_bm PySem.F.plainAttrs_list PySem.F.slot_list_append PySem.F.type_list_append mt_append (pe_fld (pv 0) rfl) (pa_cons (pv 1) pa_nil)))
  (@pss_one _ _ _ (ps_dput (hu_of hr) (pe_fld (pv 0) rfl) (pv 1) pe_bl rfl))),?_⟩
 walk_at "st"
 have line:=line_val
 obtain ⟨s,rfl⟩:∃s':H6,s=s':=⟨s,rfl⟩
 have hh':HkAt Z2 H M q' p n s:=hh
 obtain ⟨od,md,hM,⟨dx,ho⟩,hl,hk⟩:=id hh'
 have nqo:q'≠od:=ne_of ho hl (by intro z;cases z)
 have nqm:q'≠md:=ne_of ho hk (by intro z;cases z)
 have nom:od≠md:=ne_of hl hk (by intro z;cases z)
 subst hM
 have hi':HI6 ns s l:=hm
 have hlen:=hi'.k.len
 have hll:=N25.nd_len hi'.nd hi'.s
 have q2:∀H',Kp [q',od,md] H H'→HkAt Z2 H' [q',od,md] q' p n ⟨s.L++[z],putK s.k (Sum.inr z) (.bl true)⟩→Q .non H':=q
 clear q
 walk_at "go"
 refine ⟨Z2,dx,_,ho,T.Zi,T.Zd,_,hfl_order,.inl ⟨rfl,_,SqL.of hl⟩,od,_,_,rfl,rfl,hl,by rw [List.length_map];omega,?_⟩
 rw [show s.L.map V.str++[V.str z]=(s.L++[z]).map V.str by rw [List.map_append];rfl]
 have kp1:Kp [q',od,md] H (upd H od (.lst ((s.L++[z]).map V.str))):=(Kp.of (Same.refl H)).upd (by simp)
 have ho1:upd H od (.lst ((s.L++[z]).map V.str)) q'=_:=(upd_ne nqo).trans ho
 have hl1:upd H od (.lst ((s.L++[z]).map V.str)) od=some (.lst ((s.L++[z]).map V.str)):=upd_same
 have hk1:upd H od (.lst ((s.L++[z]).map V.str)) md=_:=(upd_ne nom.symm).trans hk
 generalize upd H od (.lst ((s.L++[z]).map V.str))=H1 at kp1 ho1 hl1 hk1 ⊢
 have hlp:=length_putK s.k (Sum.inr z:Key) (V.bl true)
 rename_i rest hrest
 subst hrest
 walk_at "go"
 refine ⟨Z2,dx,_,ho1,T.Zi,T.Zm,_,hfl_marked,md,rfl,_,DPut.k (k:=Sum.inr z) hk1 (by omega),?_⟩
 exact q2 _ (kp1.upd (by simp)) ⟨od,md,rfl,⟨dx,by rw [upd_ne nqm];exact ho1⟩,by rw [upd_ne nom];exact hl1,upd_same⟩
theorem Z69{f:Addr}{fd:FuncData}(F:Fun K "make_room" "make_room" Z33 f fd)(T:Txt K mg Z4 Z3 Z7 Z5 Z0 Z1 Z2 xmake_oldest xmake_first xmake_halving xmake_farthest xmake_hand xmake_rows xmake_dues Z6)(Zb:DefM P w K mg base CX0 1 Z3 "room_left" ["self"] (sp_left Z3))(Z05:DefM P w K mg base CX0 1 Z3 "lying" ["self"] (sp_lying Z3))(Z18:DefM P w K mg base CX0 4 Z0 "choice" ["self","lying"] (spR_choice (T2 Z0) K))(Z1g:DefM P w K mg base CX0 4 Z1 "choice" ["self","lying"] (spR_choice (T1 Z1) K))(Z21:DefM P w K mg base CX0 4 Z2 "choice" ["self","lying"] (spR_choice (T6 Z2) K))(Z0a:DefM P w K mg base CX0 2 Z3 "cast" ["self","name"] (sp_castG Z3))(Z22:DefM P w K mg base CX0 3 Z0 "gone" ["self","name"] (spR_gone (T2 Z0)))(Z2n:DefM P w K mg base CX0 3 Z1 "gone" ["self","name"] (spR_gone (T1 Z1)))(Z38:DefM P w K mg base CX0 3 Z2 "gone" ["self","name"] (spR_gone (T6 Z2))):FnOk P w K mg base CX0 5 f fd ["rule","shelf","room"] (spI_room (TQ (C3.mk Z0 Z1 Z2)) K Z4 Z3):=by
 have sc:FnScope ["rule","shelf","room","went","name"] ["rule","shelf","room"] (defScope Z33):=by walk_at "sc"
 refine F.ok sc (fun vs H Q E h=>?_) (fun cdv A outer s H vs Q E hr h=>?_)
 · obtain ⟨_,_,_,_,_,_,_,_,_,_,_,_,_,rfl,_⟩:=h;rfl
 obtain ⟨w8,H0,q',p,sh,d,M,n,need,ts,ls,s,z,rfl,hr',hm,hn,hll,htl,hcn,q⟩:=h
 refine ⟨_,(@pss_cons _ _ _ _ _ (ps_set (i:=3) sc.nd rfl (Or.inl rfl) (@pe_lst _ _ _ _ pa_nil))
  (@pss_cons _ _ _ _ _ (ps_while PassesOwn.never (pt_cmpR op_lt (pe_methS0 Zb T.Z8 hr (passS pass0) (pv 1)) (pv 2) (nomark _))
   (@pss_cons _ _ _ _ _ (ps_set (i:=4) sc.nd rfl (Or.inl rfl) (pe_methI (C:=fun w=>(TQ (C3.mk Z0 Z1 Z2) w).C) (sp:=fun w=>spR_choice (TQ (C3.mk Z0 Z1 Z2) w) K) (fun w=>by cases w;exact Z18;exact Z1g;exact Z21) (fun w=>by cases w;exact T.Zk;exact T.Zn;exact T.Zi) hr (passS pass0) (pv 0) (pa_cons (pe_methS0 Z05 T.Z8 hr (passS pass0) (pv 1)) pa_nil)))
   (@pss_cons _ _ _ _ _ (ps_expr (pe_methS Z0a T.Z8 hr (passS pass0) (pv 1) (pa_cons (pv 4) pa_nil)))
   (@pss_cons _ _ _ _ _ (ps_expr (pe_methI (C:=fun w=>(TQ (C3.mk Z0 Z1 Z2) w).C) (sp:=fun w=>spR_gone (TQ (C3.mk Z0 Z1 Z2) w)) (fun w=>by cases w;exact Z22;exact Z2n;exact Z38) (fun w=>by cases w;exact T.Zk;exact T.Zn;exact T.Zi) hr (passS pass0) (pv 0) (pa_cons (pv 4) pa_nil)))
   (@pss_one _ _ _ (ps_expr (pe_bm PySem.F.plainAttrs_list PySem.F.slot_list_append PySem.F.type_list_append mt_append (pv 3) (pa_cons (pv 4) pa_nil))))))))
  (@pss_one _ _ _ (@ps_ret _ _ _ _ (pv 3))))),?_⟩
 walk_at "st"
 have line:=line_val
 walk_at "go"
 intro w hw
 have kp0:Kp (d::M) H (upd H w (.lst [])):=Kp.of (Same.new hw)
 have hr0:=hr'.same (Same.new (o:= .lst []) hw)
 have hww:upd H w (.lst []) w=some (.lst []):=upd_same
 have nw:=hr'.free hw
 have nw0:H0 w=none:=same_none hr'.sm hw
 have nwm:w∉M:=fun h=>nw (List.mem_cons_of_mem _ h)
 have nwd:w≠d:=fun h=>nw (by rw [h];simp)
 generalize upd H w (.lst [])=H1 at kp0 hr0 hww ⊢
 rename_i rest hrest
 subst hrest
 walk_at "go"
 rename_i rest hrest
 refine while_d (m0:=ls.length) (fun m σ H5=>∃(ls':Ly) (s':((TQ (C3.mk Z0 Z1 Z2) w8)).St) (wl:List Str) (v4:Option V),σ=[some (V.ref q'),some (V.ref sh),some (V.int need),some (V.ref w),v4]∧Kp (d::M) H H5∧H5 w=some (.lst (wl.map V.str))∧RunG (TQ (C3.mk Z0 Z1 Z2) w8) K Z4 Z3 H0 H5 q' p sh d M n ts ls' s'∧((TQ (C3.mk Z0 Z1 Z2) w8)).mid (ts.map (·.1)) n z s' (lyN ls')∧gf (TQ (C3.mk Z0 Z1 Z2) w8) (rm ts) n need s (lyN ls) []=gf (TQ (C3.mk Z0 Z1 Z2) w8) (rm ts) n need s' (lyN ls') wl∧wl.length+ls'.length≤60∧((TQ (C3.mk Z0 Z1 Z2) w8)).cnt s'≤300∧m=ls'.length) ⟨ls,s,[],none,rfl,kp0,hww,hr0,hm,rfl,by simpa using hll,hcn,rfl⟩ ?_
 clear hr' hr0 hww kp0 hm
 rintro m' σ H5 ⟨ls',s',wl,v4,rfl,kp5,hw5,hr5,hm5,hf5,hl5,hcn5,rfl⟩
 have hleft:=hr5.left
 obtain ⟨⟨dx,ho⟩,hd,hnd⟩:=id hr5.shf
 walk_at "go"
 refine ⟨dx,_,ho,by rfl,_,_,_,_,hr5.shf,fun H6 sm6=>?_⟩
 have hr6:=hr5.same sm6
 have hw6:=sm6 _ _ hw5
 have kp6:=kp5.trans (Kp.of sm6)
 by_cases hlt:need≤n - N41.sm (rm ts) (lyN ls')
 · rw [if_neg (by rw [hleft];omega)]
   have e1:gf (TQ (C3.mk Z0 Z1 Z2) w8) (rm ts) n need s (lyN ls) []=(s',lyN ls',wl)∧True:=⟨hf5.trans (gf_end hlt),trivial⟩
   clear hf5
   subst hrest
   walk_at "go"
   exact q w ls' H6 kp6 hw (by rw [e1.1];exact hw6) (by rw [e1.1]) (by rw [e1.1];exact hr6)
 · rw [if_pos (by rw [hleft];omega)]
   clear hrest
   refine ⟨_,fun σ' H7 h=>h,?_⟩
   have hLne:lyN ls'≠[]:=fun e=>hlt (by rw [e,N41.sm_nil];omega)
   obtain ⟨⟨dx6,ho6⟩,hd6,hnd6⟩:=id hr6.shf
   obtain ⟨dq,fs,hoq,o1,o2,o3,hec,o4⟩:=RuleT.obj _ hr6.h
   clear hleft ho hd hnd hr5 hw5 kp5 sm6
   walk_at "go"
   refine ⟨w8,dq,_,hoq,hec,dx6,_,ho6,by rfl,_,_,_,_,hr6.shf,fun l hl=>?_⟩
   have sml:Same H6 (upd H6 l (.lst ((lyN ls').map V.str))):=Same.new hl
   have hl7:upd H6 l (.lst ((lyN ls').map V.str)) l=some (.lst ((lyN ls').map V.str)):=upd_same
   have nl:=hr6.free hl
   have hr7:=hr6.same sml
   have hw7:=sml _ _ hw6
   have kp7:=kp6.trans (Kp.of sml)
   generalize upd H6 l (.lst ((lyN ls').map V.str))=H7 at hr7 hw7 kp7 hl7 ⊢
   clear hr6 hw6 kp6 hoq ho6 hd6 hnd6 sml hl hec
   obtain ⟨hf,hm8⟩:=RuleT.i_pick _ hm5 hLne
   have hcn6:=Nat.le_trans (Nat.le_trans (RuleT.c_gone (TQ (C3.mk Z0 Z1 Z2) w8) n (RuleT.pick _ n s' (lyN ls')).1 (RuleT.pick _ n s' (lyN ls')).2) (RuleT.c_pick (TQ (C3.mk Z0 Z1 Z2) w8) n s' (lyN ls'))) hcn5
   have hlen:(lyN ls').length≤60:=by unfold lyN;rw [List.length_map];omega
   refine ⟨p,n,M,s',hr7.h,lyN ls',ts.map (·.1),z,hm5,hLne,hl7,fun h=>nl (List.mem_cons_of_mem _ h),by rw [List.length_map];exact htl,hlen,hcn5,fun H8 kp8 hh8=>?_⟩
   have hr8:=hr7.rule kp8 hh8
   have hw8:=kp8 _ _ nwm hw7
   have kp08:=kp7.trans (kp_cons (d:=d) kp8)
   have hfin':gf (TQ (C3.mk Z0 Z1 Z2) w8) (rm ts) n need s (lyN ls) []=gf (TQ (C3.mk Z0 Z1 Z2) w8) (rm ts) n need (RuleT.gone _ n (RuleT.pick _ n s' (lyN ls')).1 (RuleT.pick _ n s' (lyN ls')).2) ((lyN ls').erase (RuleT.pick _ n s' (lyN ls')).2) (wl++[(RuleT.pick _ n s' (lyN ls')).2])∧True:=⟨hf5.trans (gf_go hlt hf),trivial⟩
   clear hf5 hr7 hw7 kp7 kp8 hh8 hl7
   obtain ⟨⟨dx8,ho8⟩,hd8,hnd8⟩:=id hr8.shf
   rename_i rest2 hrest2
   subst hrest2
   walk_at "go"
   refine ⟨dx8,_,ho8,by rfl,_,_,_,_,hr8.shf,hf,fun H9 sb9 hs9=>?_⟩
   have hr9:=hr8.shelf sb9 hs9 hr8.ok.drop
   have hw9:=sb9 _ _ hw8 nwd
   obtain ⟨dq9,fs9,hoq9,o5,o6,o7,o8,heg,o9⟩:=RuleT.obj _ hr9.h
   have hnames:=lyD_names (z:=(RuleT.pick _ n s' (lyN ls')).2) hr8.ok.nd
   rename_i rest2 hrest2
   subst hrest2
   walk_at "go"
   refine ⟨w8,dq9,_,hoq9,heg,p,n,M,s',lyN ls',rfl,hr9.h,ts.map (·.1),z,hm5,hLne,by rw [List.length_map];exact htl,fun H10 kp10 hh10=>?_⟩
   have hr10:=hr9.rule kp10 hh10
   have hw10:=kp10 _ _ nwm hw9
   have kp010:Kp (d::M) H H10:=(kp08.trans (kp_of_but sb9 (by simp))).trans (kp_cons kp10)
   clear hr8 hs9 hh10 sb9 kp10 hw8 hw9 kp08 hd8 hnd8 ho8 hoq9 hr9 heg
   have hel:=List.length_erase_of_mem hf
   have hlp:0 < (lyN ls').length:=List.length_pos_of_mem hf
   have hll5:(lyN ls').length=ls'.length∧True:=⟨by unfold lyN;rw [List.length_map],trivial⟩
   have hll6:(lyD ls' (RuleT.pick _ n s' (lyN ls')).2).length+1≤ls'.length:=by
    have e:(lyN (lyD ls' (RuleT.pick _ n s' (lyN ls')).2)).length=(lyD ls' (RuleT.pick _ n s' (lyN ls')).2).length:=by unfold lyN;rw [List.length_map]
    rw [hnames]at e
    omega
   rw [← hnames]at hm8 hfin'
   rename_i rest2 hrest2
   subst hrest2
   walk_at "go"
   generalize hfe:(RuleT.pick _ n s' (lyN ls')).2=f at hf hm8 hfin' hnames hel hr10 hll6 hcn6 ⊢
   have hwl:(wl++[f]).length=wl.length+1:=by rw [List.length_append];rfl
   refine ⟨.inl ⟨rfl,_,SqL.of hw10⟩,w,_,_,rfl,rfl,hw10,by rw [List.length_map];omega,(lyD ls' f).length,by omega,kp_new kp010 hw,lyD ls' f,_,wl++[f],by rw [upd_same,List.map_append];rfl,hr10.lst (fun b o e nb=>by rw [upd_ne nb];exact e) hw10 nwm nw0,hm8,hfin'.1,by omega,hcn6,rfl⟩
theorem Z6s{f:Addr}{fd:FuncData}(F:Fun K "row_of" "row_of" Z4e f fd)(T:Txt K mg Z4 Z3 Z7 Z5 Z0 Z1 Z2 xmake_oldest xmake_first xmake_halving xmake_farthest xmake_hand xmake_rows xmake_dues Z6)(Z1h:DefM P w K mg base CX0 3 Z0 "asked" ["self","name"] (spR_asked (T2 Z0)))(Z23:DefM P w K mg base CX0 3 Z1 "asked" ["self","name"] (spR_asked (T1 Z1)))(Z2o:DefM P w K mg base CX0 3 Z2 "asked" ["self","name"] (spR_asked (T6 Z2)))(Z9:DefM P w K mg base CX0 1 Z3 "holds" ["self","name"] (sp_holds Z3))(Za:DefM P w K mg base CX0 2 Z4 "room_of" ["self","name"] (sp32_room K Z4))(Z39:Def P w K mg base CX0 5 "make_room" ["rule","shelf","room"] (spI_room (TQ (C3.mk Z0 Z1 Z2)) K Z4 Z3))(Z0j:DefM P w K mg base CX0 4 Z3 "put" ["self","name"] (sp_putG K Z4 Z3))(Z24:DefM P w K mg base CX0 1 Z0 "came" ["self","name"] (spR_came (T2 Z0)))(Z2p:DefM P w K mg base CX0 1 Z1 "came" ["self","name"] (spR_came (T1 Z1)))(Z3a:DefM P w K mg base CX0 1 Z2 "came" ["self","name"] (spR_came (T6 Z2))):FnOk P w K mg base CX0 6 f fd ["rule","shelf","name"] (spI_row (TQ (C3.mk Z0 Z1 Z2)) K Z4 Z3):=by
 have sc:FnScope ["rule","shelf","name","went"] ["rule","shelf","name"] (defScope Z4e):=by walk_at "sc"
 refine F.ok sc (fun vs H Q E h=>?_) (fun cdv A outer s H vs Q E hr h=>?_)
 · obtain ⟨_,_,_,_,_,_,_,_,_,_,_,_,rfl,_⟩:=h;rfl
 obtain ⟨w8,H0,q',p,sh,d,M,n,ts,ls,s,z,rfl,hr',hi,nd,htl,hz,hzn,hcn,q⟩:=h
 refine ⟨_,(@pss_cons _ _ _ _ _ (ps_expr (pe_methI (C:=fun w=>(TQ (C3.mk Z0 Z1 Z2) w).C) (sp:=fun w=>spR_asked (TQ (C3.mk Z0 Z1 Z2) w)) (fun w=>by cases w;exact Z1h;exact Z23;exact Z2o) (fun w=>by cases w;exact T.Zk;exact T.Zn;exact T.Zi) hr (passS pass0) (pv 0) (pa_cons (pv 2) pa_nil)))
  (@pss_cons _ _ _ _ _ (ps_if (pt_val (pe_methS Z9 T.Z8 hr (passS pass0) (pv 1) (pa_cons (pv 2) pa_nil)))
   (@pss_one _ _ _ (@ps_ret _ _ _ _ (pe_tup (pa_cons (pv 2) (pa_cons pe_bl (pa_cons (@pe_lst _ _ _ _ pa_nil) pa_nil))))))
   pss_nil)
  (@pss_cons _ _ _ _ _ (ps_set (i:=3) sc.nd rfl (Or.inl rfl) (pe_callD Z39 hr rfl pass0 (pa_cons (pv 0) (pa_cons (pv 1) (pa_cons (pe_methS Za T.Zt hr (passS pass0) (pe_fld (pv 1) rfl) (pa_cons (pv 2) pa_nil)) pa_nil)))))
  (@pss_cons _ _ _ _ _ (ps_expr (pe_methS Z0j T.Z8 hr (passS pass0) (pv 1) (pa_cons (pv 2) pa_nil)))
  (@pss_cons _ _ _ _ _ (ps_expr (pe_methI (C:=fun w=>(TQ (C3.mk Z0 Z1 Z2) w).C) (sp:=fun w=>spR_came (TQ (C3.mk Z0 Z1 Z2) w)) (fun w=>by cases w;exact Z24;exact Z2p;exact Z3a) (fun w=>by cases w;exact T.Zk;exact T.Zn;exact T.Zi) hr (passS pass0) (pv 0) (pa_cons (pv 2) pa_nil)))
  (@pss_one _ _ _ (@ps_ret _ _ _ _ (pe_tup (pa_cons (pv 2) (pa_cons pe_bl (pa_cons (pv 3) pa_nil))))))))))),?_⟩
 walk_at "st"
 have line:=line_val
 obtain ⟨dq,fs,hoq,o1,o2,hea,o3⟩:=RuleT.obj _ hr'.h
 walk_at "go"
 refine ⟨w8,dq,_,hoq,hea,p,n,M,s,hr'.h,lyN ls,ts.map (·.1),hi,hz,by rw [List.length_map];exact htl,fun H1 kp1 hh1=>?_⟩
 have hr1:=hr'.rule kp1 hh1
 obtain ⟨⟨dx,ho⟩,hd,hnd⟩:=id hr1.shf
 have fresh:∀b,H1 b=none→H b=none:=fun b e=>kp_none kp1 (fun hm=>hr1.free e (List.mem_cons_of_mem _ hm)) e
 have hlsl:(lyN ls).length≤60:=by
  have:=N25.nd_len hr1.ok.nd hr1.ok.s
  rw [List.length_map]at this
  omega
 clear hoq hea
 rename_i rest hrest
 subst hrest
 walk_at "go"
 refine ⟨dx,_,ho,by rfl,_,_,_,_,hr1.shf,?_⟩
 by_cases hzL:z∈lyN ls
 · have e:gask (TQ (C3.mk Z0 Z1 Z2) w8) (rm ts) n (s,lyN ls) z=((RuleT.asked _ n s z,lyN ls),(z,true,[])):=by unfold gask;rw [if_pos hzL]
   rw [if_pos hzL]
   rw [e]at q
   refine ⟨by omega,fun g hg=>⟨by omega,fun t ht=>?_⟩⟩
   have s1:Same H1 (upd H1 g (.lst [])):=Same.new hg
   have k1:upd H1 g (.lst []) g=some (.lst (([]:List Str).map V.str)):=upd_same
   generalize upd H1 g (.lst [])=H2 at s1 k1 ht ⊢
   have s2:Same H2 (upd H2 t (.tup [V.str z,V.bl true,V.ref g])):=Same.new ht
   exact q t g ls _ (kp_cons (kp1.trans (Kp.of (s1.trans s2)))) (fresh t (same_none s1 ht)) (fresh g hg) upd_same (s2 _ _ k1) rfl (hr1.same (s1.trans s2))
 rw [if_neg hzL]
 have eh:gask (TQ (C3.mk Z0 Z1 Z2) w8) (rm ts) n (s,lyN ls) z=((RuleT.came _ n (gf (TQ (C3.mk Z0 Z1 Z2) w8) (rm ts) n (rm ts z) (RuleT.asked _ n s z) (lyN ls) []).1 z,(gf (TQ (C3.mk Z0 Z1 Z2) w8) (rm ts) n (rm ts z) (RuleT.asked _ n s z) (lyN ls) []).2.1++[z]),(z,false,(gf (TQ (C3.mk Z0 Z1 Z2) w8) (rm ts) n (rm ts z) (RuleT.asked _ n s z) (lyN ls) []).2.2)):=by unfold gask;rw [if_neg hzL]
 rw [eh]at q
 clear eh
 have hm1:=RuleT.i_mid _ hi hz hzL
 obtain ⟨hI,hne,hsub,hnd2,hwl⟩:=gf_pos (R:=rm ts) (n:=n) (need:=rm ts z) _ _ _ [] rfl hm1 hzn
 obtain ⟨dy,e,kvs,h1,h2,h3,h4,h5⟩:=StockAt.has hr1.x.at
 rename_i rest hrest
 subst hrest
 walk_at "go"
 refine ⟨Z3,dx,_,ho,T.Z8,T.Zr,_,sfl_stock,_,rfl,dy,flds e,h1,by rfl,_,rfl,ts,hr1.x.at,nd,hz,w8,H0,p,d,M,n,ts,ls,_,hr1,z,hm1,hzn,by unfold lyN at hlsl;rw [List.length_map]at hlsl;exact hlsl,htl,Nat.le_trans (RuleT.c_ask (TQ (C3.mk Z0 Z1 Z2) w8) n s z) (by omega),fun g ls2 H2 kp2 hg hg2 hln2 hr2=>?_⟩
 obtain ⟨⟨dx2,ho2⟩,hd2,hnd2'⟩:=id hr2.shf
 have kp02:Kp (d::M) H H2:=(kp_cons kp1).trans kp2
 have ngo:=hr1.free hg
 have ngd:g≠d:=fun h=>ngo (by rw [h];simp)
 have ngm:g∉M:=fun h=>ngo (List.mem_cons_of_mem _ h)
 have hnl:z∉lyN ls2:=fun h=>hzL (hsub z (by rw [← hln2];exact h))
 have hlen2:ls2.length≤60:=by
  have e1:(lyN ls2).length=ls2.length:=by unfold lyN;rw [List.length_map]
  rw [hln2]at e1
  omega
 have hleft2:=hr2.left
 rw [hln2]at hleft2
 generalize gf (TQ (C3.mk Z0 Z1 Z2) w8) (rm ts) n (rm ts z) (RuleT.asked _ n s z) (lyN ls) []=F at hr2 hg2 q hne hI hleft2 hln2
 obtain ⟨s2,l2,w2⟩:=F
 simp only at hr2 hg2 q hne hI hleft2 hln2
 clear hr1 hh1 kp1 h1 h2 h3 h4 h5 ho hd hnd hsub hnd2 hwl
 rename_i rest hrest
 subst hrest
 walk_at "go"
 refine ⟨dx2,_,ho2,by rfl,_,_,_,_,hr2.shf,ts,hr2.x,nd,by omega,hz,rm ts z,fun t ht e=>?_,hnl,by omega,fun H3 sb3 hs3=>?_⟩
 · obtain ⟨i,hi'⟩:=List.getElem?_of_mem ht
   rw [← e,rm_at nd hi']
 have hr3:=hr2.shelf sb3 hs3 (hr2.ok.put hnl hz)
 obtain ⟨dq3,fs3,hoq3,o4,o5,o6,o7,o8,hec,o9⟩:=RuleT.obj _ hr3.h
 have hg3:=sb3 _ _ hg2 ngd
 have hl3:lyN (ls2++[(z,rm ts z)])=l2++[z]∧True:=⟨by unfold lyN at hln2 ⊢;rw [List.map_append,hln2];rfl,trivial⟩
 rw [hln2]at hnl
 rename_i rest hrest
 subst hrest
 walk_at "go"
 refine ⟨w8,dq3,_,hoq3,hec,p,n,M,s2,hr3.h,l2,ts.map (·.1),hI,hz,hnl,by rw [List.length_map];exact htl,fun H4 kp4 hh4=>?_⟩
 have hr4:=hr3.rule kp4 hh4
 have hg4:=kp4 _ _ ngm hg3
 have kp04:Kp (d::M) H H4:=(kp02.trans (kp_of_but sb3 (by simp))).trans (kp_cons kp4)
 rename_i rest hrest
 subst hrest
 walk_at "go"
 intro t ht
 exact q t g _ _ (kp04.trans (Kp.of (Same.new ht))) (kp_none kp04 (hr4.free ht) ht) (fresh g hg) upd_same (Same.new ht _ _ hg4) hl3.1 (hr4.same (Same.new ht))
theorem Z6l{f:Addr}{fd:FuncData}(F:Fun K "book_of" "book_of" Z3w f fd)(T:Txt K mg Z4 Z3 Z7 Z5 Z0 Z1 Z2 xmake_oldest xmake_first xmake_halving xmake_farthest xmake_hand xmake_rows xmake_dues Z6)(Zq:Def P w K mg base CX0 4 "check_asks" ["stock","asks","places"] (N41.sp41_asks K Z4))(Z0b:DefI P w K mg base CX0 4 "Shelf" Z3 ["self","stock","places"] (sp_sinit Z3))(Z4n:Def P w K mg base CX0 6 "row_of" ["rule","shelf","name"] (spI_row (TQ (C3.mk Z0 Z1 Z2)) K Z4 Z3)):FnOk P w K mg base CX0 7 f fd ["rule","asks"] (spI_bookN (TQ (C3.mk Z0 Z1 Z2)) K Z4 Z3):=by
 have sc:FnScope ["rule","asks","shelf"] ["rule","asks"] (defScope Z3w):=by walk_at "sc"
 refine F.ok sc (fun vs H Q E h=>?_) (fun cdv A outer s H vs Q E hr h=>?_)
 · obtain ⟨_,_,_,_,_,_,_,_,_,_,rfl,_⟩:=h;rfl
 obtain ⟨w8,H0,q',p,a,M,n,ts,ys,s0,rfl,hh,hi0,hsto,sm0,hm0,nd,htl,ha,ham,hlen,hin,hrm,hn1,hn2,hcn,q⟩:=h
 refine ⟨_,(@pss_cons _ _ _ _ _ (ps_expr (pe_callD Zq hr rfl pass0 (pa_cons (pe_fld (pv 0) rfl) (pa_cons (pv 1) (pa_cons (pe_fld (pv 0) rfl) pa_nil)))))
  (@pss_cons _ _ _ _ _ (ps_set (i:=2) sc.nd rfl (Or.inr rfl) (pe_makeS Z0b hr rfl (passS pass0) (pa_cons (pe_fld (pv 0) rfl) (pa_cons (pe_fld (pv 0) rfl) pa_nil))))
  (@pss_one _ _ _ (@ps_ret _ _ _ _ (pe_comp1 "name" [0,2] rfl rfl (pi_list (pv 1)) (fun b=>(pe_callD Z4n hr rfl pass0 (pa_cons (pv 1) (pa_cons (pv 2) (pa_cons (pv 0) pa_nil)))))))))),?_⟩
 walk_at "st"
 have line:=line_val
 have hcl:∀w,Cls K (TQ (C3.mk Z0 Z1 Z2) w).C:=fun w=>by cases w;exact T.Zk;exact T.Zn;exact T.Zi
 have hns:∀w,NoAttr K (TQ (C3.mk Z0 Z1 Z2) w).C "stock":=fun w=>by cases w;exact T.Zu;exact T.Z00;exact T.Z08
 have hnp:∀w,NoAttr K (TQ (C3.mk Z0 Z1 Z2) w).C "places":=fun w=>by cases w;exact T.Zp;exact T.Zz;exact T.Z01
 obtain ⟨dq,fs,hoq,hst_,hpl_,o1⟩:=RuleT.obj _ hh
 walk_at "go"
 refine ⟨_,dq,_,hoq,hcl w8,hns w8,_,hst_,_,dq,_,hoq,hcl w8,hnp w8,_,hpl_,p,rfl,n,rfl,ts,hsto.same sm0,nd,ys,ha,hlen,hin,hrm,hn1,hn2,fun H1 sm1=>?_⟩
 have hh1:=at_same sm1 hh
 have ha1:=sm1.seq ha
 obtain ⟨dq1,fs1,hoq1,hst1,hpl1,o2⟩:=RuleT.obj _ hh1
 clear hoq hst_ hpl_
 rename_i rest hrest
 subst hrest
 walk_at "go"
 refine ⟨_,dq1,_,hoq1,hcl w8,hns w8,_,hst1,_,dq1,_,hoq1,hcl w8,hnp w8,_,hpl1,fun sh dx hsh hdx hne=>⟨dx,p,rfl,n,rfl,upd_same,hn1,hn2,fun H2 d sb hdn hs2=>?_⟩⟩
 have sm2:=new_same hsh hdx sb
 have hd0:=new_none hdn
 have hd1:H0 d=none:=same_none (sm0.trans sm1) hd0
 have nsh:sh∉M:=fun h=>RuleT.live _ hh1 _ h hsh
 have ndm:d∉M:=fun h=>RuleT.live _ hh1 _ h hd0
 have hr2:RunG (TQ (C3.mk Z0 Z1 Z2) w8) K Z4 Z3 H0 H2 q' p sh d M n ts [] s0:=⟨at_same sm2 hh1,hs2,hsto,(sm0.trans sm1).trans sm2,hm0,hd1,nsh,ndm,OkL.nil⟩
 have ha2:=sm2.seq ha1
 clear hdn sb hdx hsh hne hh1 hoq1 hs2 hst1 hpl1
 rename_i rest hrest
 subst hrest
 walk_at "go"
 refine ⟨⟨_,ha2⟩,?_⟩
 have kpM:∀{H':Hp},Kp (d::M) H2 H'→Kp M H1 H':=fun {H'} k b o nb e=>k b o (fun hm=>by
  rcases List.mem_cons.mp hm with e1 | e1
  · rw [e1,hd0]at e;cases e
  · exact nb e1) (sm2 _ _ e)
 refine comp_by ys.length fun b D hD=>⟨fun i zs H'=>∃(as gs:List Addr) (ls':Ly),zs=as.map V.ref∧as.length=i∧gs.length=i∧i≤ys.length∧H' D=some (.lst zs)∧Kp (d::M) H2 H'∧lyN ls'=(gst (TQ (C3.mk Z0 Z1 Z2) w8) (rm ts) n s0 ys i).2∧RunG (TQ (C3.mk Z0 Z1 Z2) w8) K Z4 Z3 H0 H' q' p sh d M n ts ls' (gst (TQ (C3.mk Z0 Z1 Z2) w8) (rm ts) n s0 ys i).1∧gs.Nodup∧∀(j:Nat) a g,as[j]?=some a→gs[j]?=some g→a∉d::M∧g∉d::M∧a≠D∧g≠D∧H' a=some (.tup [.str (NR.grow (TQ (C3.mk Z0 Z1 Z2) w8) (rm ts) n s0 ys j).1,.bl (NR.grow (TQ (C3.mk Z0 Z1 Z2) w8) (rm ts) n s0 ys j).2.1,.ref g])∧H' g=some (.lst ((NR.grow (TQ (C3.mk Z0 Z1 Z2) w8) (rm ts) n s0 ys j).2.2.map V.str))∧H1 a=none∧H1 g=none,⟨[],[],[],rfl,rfl,rfl,Nat.zero_le _,upd_same,Kp.of (Same.new hD),rfl,hr2.same (Same.new hD),List.nodup_nil,by simp⟩,?_,?_,?_⟩
 · rintro i zs H' ⟨as,gs,ls',_,_,_,_,h,_⟩
   exact h
 · rintro zs H' ⟨as,gs,ls',rfl,e1,e2,_,hDD,kp,hln,hr3,hnd,hall⟩
   have ha3:=SqL_kp ha1 (kpM kp) ham
   refine ⟨⟨_,ha3,by rw [List.length_map];exact Nat.le_refl _⟩,?_⟩
   have hrl:=grows_len (T:=(TQ (C3.mk Z0 Z1 Z2) w8)) (R:=rm ts) (n:=n) (s0:=s0) (ys:=ys) (i:=ys.length)
   have hra:∀j,j < ys.length→(grows (TQ (C3.mk Z0 Z1 Z2) w8) (rm ts) n s0 ys ys.length)[j]?=some (NR.grow (TQ (C3.mk Z0 Z1 Z2) w8) (rm ts) n s0 ys j):=fun j hj=>by unfold grows;rw [List.getElem?_map,List.getElem?_range hj];rfl
   refine q D as gs H' ((Kp.of sm1).trans (kpM kp)) hDD (fun i a hi=>?_) ⟨SqL.of hDD,by rw [e1,hrl],by rw [e2,hrl],fun i a g r h1 h2 h3=>?_⟩ hr3.h (same_none sm1 (same_none sm2 hD)) (fun hm=>?_) hnd (fun i a g h1 h2=>?_)
   · have hil:i < as.length:=(List.getElem?_eq_some_iff.mp hi).1
     obtain ⟨_,_,_,_,k1,_⟩:=hall i a _ hi (List.getElem?_eq_getElem (show i < gs.length by omega))
     exact ⟨_,k1⟩
   · have hil:i < as.length:=(List.getElem?_eq_some_iff.mp h1).1
     obtain ⟨_,_,_,_,k1,k2,_⟩:=hall i a g h1 h2
     rw [hra i (by omega)]at h3
     cases h3
     exact ⟨SqT.of k1,SqL.of k2⟩
   · obtain ⟨j,hj⟩:=List.mem_iff_getElem?.mp hm
     have hjl:j < gs.length:=(List.getElem?_eq_some_iff.mp hj).1
     obtain ⟨_,_,_,h4,_⟩:=hall j _ _ (List.getElem?_eq_getElem (show j < as.length by omega)) hj
     exact h4 rfl
   · obtain ⟨_,h2',_,_,k1,k2,z1,z2⟩:=hall i a g h1 h2
     exact ⟨same_none sm1 z1,same_none sm1 z2,fun hm=>h2' (List.mem_cons_of_mem _ hm),k1,k2⟩
 · rintro i zs H' hi ⟨as,gs,ls',rfl,e1,e2,_,hDD,kp,hln,hr3,hnd,hall⟩
   have ha3:=SqL_kp ha1 (kpM kp) ham
   have hz:=List.getElem?_eq_getElem hi
   generalize ys[i]'hi=z at hz
   refine ⟨⟨_,V.str z,ha3,by rw [List.getElem?_map,hz];rfl⟩,fun x H3 ⟨e3,ex⟩=>?_⟩
   subst e3
   have hx:=ex _ ha3
   rw [List.getElem?_map,hz]at hx
   cases hx
   have hsi:=gst_inv (R:=rm ts) hi0 hin hrm i (by omega)
   have hzm:=List.mem_of_getElem? hz
   have e1':=Nat.le_of_eq e1
   have e1'':=Nat.le_of_eq e1.symm
   have e2':=Nat.le_of_eq e2
   have e2'':=Nat.le_of_eq e2.symm
   clear e1 e2
   have hrowi:=grow_at (T:=(TQ (C3.mk Z0 Z1 Z2) w8)) (R:=rm ts) (n:=n) (s0:=s0) hz
   have hss:=gst_succ (T:=(TQ (C3.mk Z0 Z1 Z2) w8)) (R:=rm ts) (n:=n) (s0:=s0) hz
   have hpair:(gst (TQ (C3.mk Z0 Z1 Z2) w8) (rm ts) n s0 ys i)=((gst (TQ (C3.mk Z0 Z1 Z2) w8) (rm ts) n s0 ys i).1,lyN ls')∧True:=⟨by rw [hln],trivial⟩
   walk_at "go"
   refine ⟨w8,H0,p,d,M,n,ts,ls',_,hr3,by rw [hln];exact hsi.i,nd,htl,hin z hzm,hrm z hzm,Nat.le_trans (gst_cnt i (by omega)) (by omega),fun t g ls2 H4 kp4 ht hg ht4 hg4 hln4 hr4=>?_⟩
   rw [← hpair.1]at ht4 hg4 hln4 hr4
   have hD3:D∉d::M:=hr2.free hD
   have hDD4:=kp4 _ _ hD3 hDD
   have htD:t≠D:=fun e=>by rw [e,hDD]at ht;cases ht
   have hgD:g≠D:=fun e=>by rw [e,hDD]at hg;cases hg
   have ht1:H1 t=none:=kp_none (kpM kp) (fun hm=>hr3.free ht (List.mem_cons_of_mem _ hm)) ht
   have hg1:H1 g=none:=kp_none (kpM kp) (fun hm=>hr3.free hg (List.mem_cons_of_mem _ hm)) hg
   have hndg:(gs++[g]).Nodup:=by
    rw [List.nodup_append]
    refine ⟨hnd,by simp,fun x hx y hy e=>?_⟩
    obtain ⟨j,hj⟩:=List.mem_iff_getElem?.mp hx
    have hjl:j < gs.length:=(List.getElem?_eq_some_iff.mp hj).1
    obtain ⟨_,_,_,_,_,k2,_⟩:=hall j _ _ (List.getElem?_eq_getElem (show j < as.length by omega)) hj
    rw [e,List.mem_singleton.mp hy,hg]at k2;cases k2
   refine compNext hDD4 (by rw [List.length_map];omega) hi ⟨as++[t],by rw [List.map_append];rfl,by rw [List.length_append];simp only [List.length_cons,List.length_nil];omega,gs++[g],by rw [List.length_append];simp only [List.length_cons,List.length_nil];omega,hi,upd_same,kp_new (kp.trans kp4) hD,ls2,by rw [hss];exact hln4,?_,hndg,fun j a' g' h1 h2=>?_⟩
   · rw [hss]
     exact hr4.lst (fun b o e nb=>by rw [upd_ne nb];exact e) hDD4 (fun h=>hD3 (List.mem_cons_of_mem _ h)) (same_none hr2.sm hD)
   · rcases at_snoc h1 with ⟨l1,c1⟩ | ⟨l1,c1⟩
     · rcases at_snoc h2 with ⟨l2,c2⟩ | ⟨l2,c2⟩
       · obtain ⟨n1,n2,n3,n4,k1,k2,z1,z2⟩:=hall j a' g' c1 c2
         refine ⟨n1,n2,n3,n4,?_,?_,z1,z2⟩
         · rw [upd_ne n3];exact kp4 _ _ n1 k1
         · rw [upd_ne n4];exact kp4 _ _ n2 k2
       · omega
     · rcases at_snoc h2 with ⟨l2,c2⟩ | ⟨l2,c2⟩
       · omega
       · rw [c1,c2,show j=i by omega,hrowi]
         refine ⟨hr3.free ht,hr3.free hg,htD,hgD,?_,?_,ht1,hg1⟩
         · rw [upd_ne htD];exact ht4
         · rw [upd_ne hgD];exact hg4
theorem Z5f{f:Addr}{fd:FuncData}(F:Fun K "make_oldest" "make_oldest" Z1w f fd)(T:Txt K mg Z4 Z3 Z7 Z5 Z0 Z1 Z2 xmake_oldest xmake_first xmake_halving xmake_farthest xmake_hand xmake_rows xmake_dues Z6)(Z06:DefI P w K mg base CX0 5 "Oldest" Z0 ["self","stock","places"] (sp28_kinit K)):FnOk P w K mg base CX0 8 f fd ["stock","places","asks"] (sp62_mk K Z4 (C3.mk Z0 Z1 Z2) (.d .ol)):=by
 have sc:FnScope ["stock","places","asks"] ["stock","places","asks"] (defScope Z1w):=by walk_at "sc"
 refine F.ok sc (fun vs H Q E h=>?_) (fun cdv A outer s H vs Q E hr h=>?_)
 · obtain ⟨_,_,_,_,_,rfl,_⟩:=h;rfl
 obtain ⟨st,a,n,ts,ys,rfl,ro,q⟩:=h
 refine ⟨_,(@pss_one _ _ _ (@ps_ret _ _ _ _ (pe_makeS Z06 hr rfl (passS pass0) (pa_cons (pv 0) (pa_cons (pv 1) pa_nil))))),?_⟩
 walk_at "st"
 walk_at "go"
 intro x dx hx hd hne
 refine ⟨Z0,dx,upd_same,T.Zk,T.Zu,T.Zp,T.Zg,T.Zs,ro.n1,ro.n2,fun H' la sb hla nla hq hl=>?_⟩
 exact q x [x,la] H' (mk_same hx hd sb) (fun m hm=>by simp only [List.mem_cons,List.not_mem_nil,or_false]at hm;rcases hm with e | e <;> rw [e];exact hx;exact mk_none hx hd hla) ⟨la,rfl,⟨dx,hq⟩,hl⟩
theorem Z5v{f:Addr}{fd:FuncData}(F:Fun K "make_first" "make_first" Z2k f fd)(T:Txt K mg Z4 Z3 Z7 Z5 Z0 Z1 Z2 xmake_oldest xmake_first xmake_halving xmake_farthest xmake_hand xmake_rows xmake_dues Z6)(Z0c:DefI P w K mg base CX0 6 "First" Z1 ["self","stock","places"] (sp22_init Z1)):FnOk P w K mg base CX0 8 f fd ["stock","places","asks"] (sp62_mk K Z4 (C3.mk Z0 Z1 Z2) (.d .fi)):=by
 have sc:FnScope ["stock","places","asks"] ["stock","places","asks"] (defScope Z2k):=by walk_at "sc"
 refine F.ok sc (fun vs H Q E h=>?_) (fun cdv A outer s H vs Q E hr h=>?_)
 · obtain ⟨_,_,_,_,_,rfl,_⟩:=h;rfl
 obtain ⟨st,a,n,ts,ys,rfl,ro,q⟩:=h
 refine ⟨_,(@pss_one _ _ _ (@ps_ret _ _ _ _ (pe_makeS Z0c hr rfl (passS pass0) (pa_cons (pv 0) (pa_cons (pv 1) pa_nil))))),?_⟩
 walk_at "st"
 walk_at "go"
 intro x dx hx hd hne
 refine ⟨dx,upd_same,ro.n1,ro.n2,fun H' la pa sb hla hpa hg=>?_⟩
 exact q x [x,la,pa] H' (mk_same hx hd sb) (fun m hm=>by simp only [List.mem_cons,List.not_mem_nil,or_false]at hm;rcases hm with e | e | e <;> rw [e];exact hx;exact mk_none hx hd hla;exact mk_none hx hd hpa) hg
theorem Z6a{f:Addr}{fd:FuncData}(F:Fun K "make_hand" "make_hand" Z34 f fd)(T:Txt K mg Z4 Z3 Z7 Z5 Z0 Z1 Z2 xmake_oldest xmake_first xmake_halving xmake_farthest xmake_hand xmake_rows xmake_dues Z6)(Z0k:DefI P w K mg base CX0 6 "Hand" Z2 ["self","stock","places"] (sp28_hinit Z2)):FnOk P w K mg base CX0 8 f fd ["stock","places","asks"] (sp62_mk K Z4 (C3.mk Z0 Z1 Z2) (.d .hd)):=by
 have sc:FnScope ["stock","places","asks"] ["stock","places","asks"] (defScope Z34):=by walk_at "sc"
 refine F.ok sc (fun vs H Q E h=>?_) (fun cdv A outer s H vs Q E hr h=>?_)
 · obtain ⟨_,_,_,_,_,rfl,_⟩:=h;rfl
 obtain ⟨st,a,n,ts,ys,rfl,ro,q⟩:=h
 refine ⟨_,(@pss_one _ _ _ (@ps_ret _ _ _ _ (pe_makeS Z0k hr rfl (passS pass0) (pa_cons (pv 0) (pa_cons (pv 1) pa_nil))))),?_⟩
 walk_at "st"
 walk_at "go"
 intro x dx hx hd hne
 refine ⟨dx,upd_same,ro.n1,ro.n2,fun H' la pa sb hla hpa hg=>?_⟩
 exact q x [x,la,pa] H' (mk_same hx hd sb) (fun m hm=>by simp only [List.mem_cons,List.not_mem_nil,or_false]at hm;rcases hm with e | e | e <;> rw [e];exact hx;exact mk_none hx hd hla;exact mk_none hx hd hpa) hg
theorem Z6g{f:Addr}{fd:FuncData}(F:Fun K "maker_of" "maker_of" Z3j f fd)(T:Txt K mg Z4 Z3 Z7 Z5 Z0 Z1 Z2 xmake_oldest xmake_first xmake_halving xmake_farthest xmake_hand xmake_rows xmake_dues Z6)(Z4z:KTab w.params K Z6 "oldest" (some (.ref xmake_oldest)))(Z50:KTab w.params K Z6 "first" (some (.ref xmake_first)))(Z51:KTab w.params K Z6 "hand" (some (.ref xmake_hand))):FnOk P w K mg base CX0 2 f fd ["word"] (sp62_makerOf (M3.mk xmake_oldest xmake_first xmake_hand lam1)):=by
 have sc:FnScope ["word"] ["word"] (defScope Z3j):=by walk_at "sc"
 refine F.ok sc (fun vs H Q E h=>?_) (fun cdv A outer s H vs Q E hr h=>?_)
 · obtain ⟨_,rfl,_⟩:=h;rfl
 obtain ⟨w3,rfl,q⟩:=h
 refine ⟨_,(@pss_cons _ _ _ _ _ (ps_if (PW.pt (pw_or (pt_not (pt_val (pe_callB call_isinst rfl T.Ze (by first | rfl | decide+kernel) (pa_cons (pv 0) (pa_cons (pe_bltn (v:= .ty "str") rfl T.Z47 (by first | rfl | decide+kernel) rfl) pa_nil))))) (pw_or1 (pt_cmp (pc_knin (pv 0) (pe_glob (v:= .ref Z6) rfl T.Z60 rfl))))))
  (@pss_one _ _ _ ps_never)
  pss_nil)
  (@pss_one _ _ _ (@ps_ret _ _ _ _ (pe_kget (pe_glob (v:= .ref Z6) rfl T.Z60 rfl) (pv 0) (fun _ _=>rfl))))),?_⟩
 walk_at "st"
 cases w3 with
 | ol=>
  show tSeq _ _ _ [some (V.str (Str.ofString "oldest"))] _
  walk_at "go"
  refine ⟨_,Z4z,?_⟩
  rw [if_neg (by simp)]
  rename_i rest hrest
  subst hrest
  walk_at "go"
  exact ⟨_,Z4z,q⟩
 | fi=>
  show tSeq _ _ _ [some (V.str (Str.ofString "first"))] _
  walk_at "go"
  refine ⟨_,Z50,?_⟩
  rw [if_neg (by simp)]
  rename_i rest hrest
  subst hrest
  walk_at "go"
  exact ⟨_,Z50,q⟩
 | hd=>
  show tSeq _ _ _ [some (V.str (Str.ofString "hand"))] _
  walk_at "go"
  refine ⟨_,Z51,?_⟩
  rw [if_neg (by simp)]
  rename_i rest hrest
  subst hrest
  walk_at "go"
  exact ⟨_,Z51,q⟩
theorem Z4o{f:Addr}{fd:FuncData}(F:Fun K "check_greater" "check_greater" Z17 f fd)(T:Txt K mg Z4 Z3 Z7 Z5 Z0 Z1 Z2 xmake_oldest xmake_first xmake_halving xmake_farthest xmake_hand xmake_rows xmake_dues Z6)(Zo:Def P w K mg base CX0 2 "is_within" ["thing","least","most"] (sp_within K)):FnOk P w K mg base CX0 3 f fd ["lesser","greater"] (sp63_greater):=by
 have sc:FnScope ["lesser","greater"] ["lesser","greater"] (defScope Z17):=by walk_at "sc"
 refine F.ok sc (fun vs H Q E h=>?_) (fun cdv A outer s H vs Q E hr h=>?_)
 · obtain ⟨_,_,rfl,_⟩:=h;rfl
 obtain ⟨a,b,rfl,h1,h2,q⟩:=h
 refine ⟨_,(@pss_one _ _ _ (ps_if (pt_not (pt_val (pe_callD Zo hr rfl pass0 (pa_cons (pv 1) (pa_cons (pv 0) (pa_cons (pe_gint rfl T.Z02) pa_nil))))))
  (@pss_one _ _ _ ps_never)
  pss_nil)),?_⟩
 walk_at "st"
 walk_at "go"
 refine ⟨rfl,?_⟩
 rw [if_neg (by unfold wIn;simp;omega)]
 exact q
theorem Z6b{f:Addr}{fd:FuncData}(F:Fun K "_law_cell_at" "_law_cell_at" Z35 f fd)(T:Txt K mg Z4 Z3 Z7 Z5 Z0 Z1 Z2 xmake_oldest xmake_first xmake_halving xmake_farthest xmake_hand xmake_rows xmake_dues Z6):FnOk P w K mg base CX0 1 f fd ["_law_script","_law_k"] (sp_cell K):=by
 have sc:FnScope ["_law_script","_law_k"] ["_law_script","_law_k"] (defScope Z35):=by walk_at "sc"
 refine F.ok sc (fun vs H Q E h=>?_) (fun cdv A outer s H vs Q E hr h=>?_)
 · obtain ⟨_,_,_,rfl,_⟩:=h;rfl
 obtain ⟨a,ns,k,rfl,hS,h0,hl,q⟩:=h
 refine ⟨_,(@pss_cons _ _ _ _ _ (ps_if (pt_cmpR op_lt (pv 1) (pe_callB call_len_seq rfl T.Z0e PySem.boot_len (pa_cons (pv 0) pa_nil)) (nomark _))
  (@pss_one _ _ _ (@ps_ret _ _ _ _ (@pe_ix _ _ _ _ _ _ _ ix_list (pv 0) (pv 1) (fun _ _=>rfl))))
  pss_nil)
  (@pss_one _ _ _ (@ps_ret _ _ _ _ pe_int))),?_⟩
 walk_at "st"
 walk_at "go"
 rw [List.length_map]
 split
 · rename_i hk
   exact ixL_of hS (atI_of h0 (getMap (by omega))) q
 · rename_i hk
   rw [List.getD_eq_getElem?_getD,List.getElem?_eq_none (by omega)]at q
   walk_at "go"
   exact q
theorem Z6m{f:Addr}{fd:FuncData}(F:Fun K "_law_whole" "_law_whole" Z3x f fd)(T:Txt K mg Z4 Z3 Z7 Z5 Z0 Z1 Z2 xmake_oldest xmake_first xmake_halving xmake_farthest xmake_hand xmake_rows xmake_dues Z6):FnOk P w K mg base CX0 1 f fd ["_law_found"] (sp41_whole):=by
 have sc:FnScope ["_law_found"] ["_law_found"] (defScope Z3x):=by walk_at "sc"
 refine F.ok sc (fun vs H Q E h=>?_) (fun cdv A outer s H vs Q E hr h=>?_)
 · obtain ⟨_,rfl,_⟩:=h;rfl
 obtain ⟨i,rfl,q⟩:=h
 refine ⟨_,(@pss_one _ _ _ (@ps_ret _ _ _ _ (pe_and (pe_callB call_isinst rfl T.Ze (by first | rfl | decide+kernel) (pa_cons (pv 0) (pa_cons (pe_bltn (v:= .ty "int") rfl T.Z2u (by first | rfl | decide+kernel) rfl) pa_nil))) (pe_one (pe_not (pe_callB call_isinst rfl T.Ze (by first | rfl | decide+kernel) (pa_cons (pv 0) (pa_cons (pe_bltn (v:= .ty "bool") rfl T.Z3f (by first | rfl | decide+kernel) rfl) pa_nil)))))))),?_⟩
 walk_at "st"
 walk_at "go"
 exact q
theorem Z6n{f:Addr}{fd:FuncData}(F:Fun K "_law_mixed" "_law_mixed" Z3y f fd)(T:Txt K mg Z4 Z3 Z7 Z5 Z0 Z1 Z2 xmake_oldest xmake_first xmake_halving xmake_farthest xmake_hand xmake_rows xmake_dues Z6):FnOk P w K mg base CX0 1 f fd ["_law_cell","_law_k"] (sp41_mixed):=by
 have sc:FnScope ["_law_cell","_law_k","_law_number"] ["_law_cell","_law_k"] (defScope Z3y):=by walk_at "sc"
 refine F.ok sc (fun vs H Q E h=>?_) (fun cdv A outer s H vs Q E hr h=>?_)
 · obtain ⟨_,_,rfl,_⟩:=h;rfl
 obtain ⟨c,k,rfl,q⟩:=h
 refine ⟨_,(@pss_cons _ _ _ _ _ (ps_set (i:=2) sc.nd rfl (Or.inl rfl) (pe_op op_mod (pe_op op_mul (pe_op op_add (pv 0) (pe_op op_mul pe_int (pv 1))) pe_int) pe_int))
  (@pss_one _ _ _ (@ps_ret _ _ _ _ (pe_op op_mod (pe_op op_mulB (pv 2) (pv 2)) pe_int)))),?_⟩
 walk_at "st"
 have h0:=Int.emod_nonneg ((c+7919 * k) * 48271) (show (2147483647:Int)≠0 by decide)
 have h1:=Int.emod_lt_of_pos ((c+7919 * k) * 48271) (show (0:Int) < 2147483647 by decide)
 walk_at "go"
 exact ⟨⟨by omega,by omega⟩,by decide,q _ (Int.emod_nonneg _ (by decide)) (Int.emod_lt_of_pos _ (by decide))⟩
theorem Z6o{f:Addr}{fd:FuncData}(F:Fun K "_law_names" "_law_names" Z3z f fd)(T:Txt K mg Z4 Z3 Z7 Z5 Z0 Z1 Z2 xmake_oldest xmake_first xmake_halving xmake_farthest xmake_hand xmake_rows xmake_dues Z6):FnOk P w K mg base CX0 1 f fd ["_law_cell","_law_many"] (sp41_names):=by
 have sc:FnScope ["_law_cell","_law_many","_law_signs","_law_size","_law_at","_law_far","_law_names_here","_law_k","_law_name","_law_j"] ["_law_cell","_law_many"] (defScope Z3z):=by walk_at "sc"
 refine F.ok sc (fun vs H Q E h=>?_) (fun cdv A outer s H vs Q E hr h=>?_)
 · obtain ⟨_,_,rfl,_⟩:=h;rfl
 obtain ⟨i,m,rfl,hm,q⟩:=h
 refine ⟨_,(@pss_cons _ _ _ _ _ (ps_set (i:=2) sc.nd rfl (Or.inl rfl) pe_str)
  (@pss_cons _ _ _ _ _ (ps_set (i:=3) sc.nd rfl (Or.inl rfl) (pe_op op_add pe_int (pe_op op_mod (pv 0) pe_int)))
  (@pss_cons _ _ _ _ _ (ps_set (i:=4) sc.nd rfl (Or.inl rfl) (pe_op op_mod (pe_op op_fdiv (pv 0) pe_int) (pv 3)))
  (@pss_cons _ _ _ _ _ (ps_set (i:=5) sc.nd rfl (Or.inl rfl) (pe_op op_mod (pe_op op_fdiv (pv 0) pe_int) pe_int))
  (@pss_cons _ _ _ _ _ (ps_set (i:=6) sc.nd rfl (Or.inl rfl) (@pe_lst _ _ _ _ pa_nil))
  (@pss_cons _ _ _ _ _ (ps_for PassesOwn.never rfl (pi_range1 rfl T.Z11 (pa_cons (pv 1) pa_nil)) (pg_name (i:=7) sc.nd rfl (Or.inl rfl))
   (@pss_cons _ _ _ _ _ (ps_set (i:=8) sc.nd rfl (Or.inl rfl) (pe_op op_mulS (@pe_ix _ _ _ _ _ _ _ ix_str (pv 2) (pe_op op_mod (pe_op op_add (pv 5) (pe_op op_fdiv (pv 7) pe_int)) pe_int) (fun _ _=>rfl)) (pe_op op_add pe_int (pe_op op_mod (pv 7) pe_int))))
   (@pss_cons _ _ _ _ _ (ps_if (pt_cmpR op_gt (pe_op op_mod (pe_op op_fdiv (pv 0) pe_int) pe_int) pe_int (nomark _))
    (@pss_cons _ _ _ _ _ (ps_set (i:=8) sc.nd rfl (Or.inl rfl) (@pe_ix _ _ _ _ _ _ _ ix_str (pv 2) (pe_op op_mod (pe_op op_add (pv 5) (pe_op op_mulB (pv 7) (pe_callTy call_int1 rfl T.Z2u (by first | rfl | decide+kernel) (pa_cons (pe_cmpR op_eq (pv 4) pe_int (nomark _)) pa_nil)))) pe_int) (fun _ _=>rfl)))
    (@pss_one _ _ _ (ps_for PassesOwn.never rfl (pi_range2 rfl T.Z11 (pa_cons pe_int (pa_cons (pv 3) pa_nil))) (pg_name (i:=9) sc.nd rfl (Or.inl rfl))
     (@pss_one _ _ _ (ps_set (i:=8) sc.nd rfl (Or.inl rfl) (pe_op op_add_str (pv 8) (@pe_ix _ _ _ _ _ _ _ ix_str (pv 2) (pe_op op_mod (pe_op op_add (pe_op op_add (pv 5) (pe_op op_mul pe_int (pv 9))) (pe_op op_mulB (pv 7) (pe_callTy call_int1 rfl T.Z2u (by first | rfl | decide+kernel) (pa_cons (pe_cmpR op_eq (pv 9) (pv 4) (nomark _)) pa_nil)))) pe_int) (fun _ _=>rfl))))))))
    pss_nil)
   (@pss_one _ _ _ (ps_expr (pe_bm PySem.F.plainAttrs_list PySem.F.slot_list_append PySem.F.type_list_append mt_append (pv 6) (pa_cons (pv 8) pa_nil)))))))
  (@pss_one _ _ _ (@ps_ret _ _ _ _ (pv 6))))))))),?_⟩
 walk_at "st"
 have line:=line_val
 have bl:=both_length
 have hL1:1≤(1+i % 8).toNat:=by omega
 have hL8:(1+i % 8).toNat≤8:=by omega
 have h8:(1+i % 8)=((1+i % 8).toNat:Int):=by omega
 walk_at "go"
 rw [h8]
 clear h8
 generalize (1+i % 8).toNat=L at hL1 hL8 ⊢
 have ha0:=Int.emod_nonneg (i / 8) (show (L:Int)≠0 by omega)
 have ha1:=Int.emod_lt_of_pos (i / 8) (show (0:Int) < L by omega)
 walk_at "go"
 generalize i / 8 % (L:Int)=at' at ha0 ha1 ⊢
 have hf0:=Int.emod_nonneg (i / 192) (show (26:Int)≠0 by decide)
 generalize i / 192 % 26=fr at hf0 ⊢
 intro p hp
 walk_at "go"
 refine forR_by (fun k σ H'=>∃(v7 v8 v9:Option V),σ=[some (V.int i),some (V.int m),some (V.str (Str.ofString "abcdefghijklmnopqrstuvwxyz0123456789")),some (V.int L),some (V.int at'),some (V.int fr),some (V.ref p),v7,v8,v9]∧H'=upd H p (.lst ((nmsB (decide (0 < i / 64 % 3)) fr at' L k).map V.str))) ⟨none,none,none,rfl,rfl⟩ ?_ ?_
 · rintro k σ H' hk ⟨v7,v8,v9,rfl,rfl⟩
   have hlen:((nmsB (decide (0 < i / 64 % 3)) fr at' L k).map V.str).length=k:=by simp [nmsB]
   walk_at "go"
   refine ixS_of (by omega) (ix_bc _ (by decide) (by decide)) ?_
   walk_at "go"
   refine ⟨mul_okR (by omega) (by omega),?_⟩
   rw [mul_rep (by omega),show (1+(k:Int) % 8).toNat=1+k % 8 by omega]
   rename_i rest hrest
   subst hrest
   walk_at "go"
   rename_i rest hrest
   have key:∀(z:List Nat) (w9:Option V),nmB (decide (0 < i / 64 % 3)) fr at' L k=z→rest [some (V.int i),some (V.int m),some (V.str (Str.ofString "abcdefghijklmnopqrstuvwxyz0123456789")),some (V.int L),some (V.int at'),some (V.int fr),some (V.ref p),some (V.int k),some (V.str (tx z)),w9] (upd H p (.lst ((nmsB (decide (0 < i / 64 % 3)) fr at' L k).map V.str))):=by
    intro z w9 hz
    rw [← hz]
    clear hz
    subst hrest
    walk_at "go"
    refine ⟨.inl ⟨rfl,_,SqL.of upd_same⟩,p,_,_,rfl,rfl,upd_same,by rw [hlen];omega,?_⟩
    walk_at "go"
    rw [nmsB_succ,List.map_append]
    rfl
   clear hrest
   split
   · rename_i hw
     have ew:nmB (decide (0 < i / 64 % 3)) fr at' L k=nmL (fun j:Nat=>fr+5 * (j:Int)) at' L k:=by unfold nmB;rw [decide_eq_true hw];rfl
     rw [ew]at key
     walk_at "go"
     refine ⟨⟨by omega,by split <;> decide⟩,by decide,ixS_of (by omega) (ix_bc _ (by decide) (by decide)) ?_⟩
     rw [T_one,← nmL_one]
     rename_i rest2 hrest2
     subst hrest2
     walk_at "go"
     refine forR_by (fun j σ H'=>∃(w9:Option V),σ=[some (V.int i),some (V.int m),some (V.str (Str.ofString "abcdefghijklmnopqrstuvwxyz0123456789")),some (V.int L),some (V.int at'),some (V.int fr),some (V.ref p),some (V.int k),some (V.str (tx (nmL (fun j:Nat=>fr+5 * (j:Int)) at' (1+j) k))),w9]∧H'=upd H p (.lst ((nmsB (decide (0 < i / 64 % 3)) fr at' L k).map V.str))) ⟨_,rfl,rfl⟩ ?_ ?_
     · rintro j σ H' hj ⟨w9,rfl,rfl⟩
       have hzl:(tx (nmL (fun j:Nat=>fr+5 * (j:Int)) at' (1+j) k)).length≤8:=by rw [T_len,nmL_l];omega
       rw [show 1+(j+1)=1+j+1 by omega,nmL_more]
       generalize nmL (fun j:Nat=>fr+5 * (j:Int)) at' (1+j) k=zl at hzl ⊢
       walk_at "go"
       refine ⟨⟨by omega,by split <;> decide⟩,by decide,ixS_of (by omega) (ix_bc _ (by decide) (by decide)) ⟨_,rfl,by rw [len_one];omega,?_,rfl⟩⟩
       rw [T_one,T_app]
     · rintro σ H' ⟨w9,rfl,rfl⟩
       rw [show 1+((L:Int) - 1).toNat=L by omega]
       exact key _ _ rfl
   · rename_i hw
     exact key _ _ (by unfold nmB;rw [if_neg (by simp;omega)];rfl)
 · rintro σ H' ⟨v7,v8,v9,rfl,rfl⟩
   walk_at "go"
   exact q p _ _ hp (Same.new hp) upd_same (by simp [nmsB]) (by simp [nmsB]) (nmsB_nodup ha0 ha1 (by omega)) (nmsB_name hL1 hL8)
theorem Z6t{f:Addr}{fd:FuncData}(F:Fun K "_law_room" "_law_room" Z4f f fd)(T:Txt K mg Z4 Z3 Z7 Z5 Z0 Z1 Z2 xmake_oldest xmake_first xmake_halving xmake_farthest xmake_hand xmake_rows xmake_dues Z6)(Z43:Def P w K mg base CX0 1 "_law_mixed" ["_law_cell","_law_k"] (sp41_mixed)):FnOk P w K mg base CX0 2 f fd ["_law_cell","_law_k"] (sp41_lroom):=by
 have sc:FnScope ["_law_cell","_law_k","_law_number"] ["_law_cell","_law_k"] (defScope Z4f):=by walk_at "sc"
 refine F.ok sc (fun vs H Q E h=>?_) (fun cdv A outer s H vs Q E hr h=>?_)
 · obtain ⟨_,_,rfl,_⟩:=h;rfl
 obtain ⟨c,k,rfl,q⟩:=h
 refine ⟨_,(@pss_cons _ _ _ _ _ (ps_set (i:=2) sc.nd rfl (Or.inl rfl) (pe_callD Z43 hr rfl pass0 (pa_cons (pe_op op_fdiv (pv 0) pe_int) (pa_cons (pv 1) pa_nil))))
  (@pss_cons _ _ _ _ _ (ps_if (pt_cmpR op_eq (pe_op op_mod (pv 0) pe_int) pe_int (nomark _))
   (@pss_one _ _ _ (@ps_ret _ _ _ _ pe_int))
   pss_nil)
  (@pss_cons _ _ _ _ _ (ps_if (pt_cmpR op_eq (pe_op op_mod (pv 0) pe_int) pe_int (nomark _))
   (@pss_one _ _ _ (@ps_ret _ _ _ _ (pe_op op_add pe_int (pe_op op_mod (pv 2) pe_int))))
   pss_nil)
  (@pss_one _ _ _ (@ps_ret _ _ _ _ (pe_op op_add pe_int (pe_op op_mod (pv 2) pe_int))))))),?_⟩
 walk_at "st"
 have line:=line_val
 walk_at "go"
 intro v hv0 hv1
 walk_at "go"
 by_cases h:c % 4=0
 · rw [if_pos h];exact q _ (by omega) (by omega)
 rw [if_neg h]
 rename_i r hr'
 subst hr'
 walk_at "go"
 by_cases h:c % 4=1
 · rw [if_pos h];exact ⟨by decide,q _ (by omega) (by omega)⟩
 rw [if_neg h]
 rename_i r hr'
 subst hr'
 walk_at "go"
 exact q _ (by omega) (by omega)
theorem Z6h{f:Addr}{fd:FuncData}(F:Fun K "_law_places" "_law_places" Z3k f fd)(T:Txt K mg Z4 Z3 Z7 Z5 Z0 Z1 Z2 xmake_oldest xmake_first xmake_halving xmake_farthest xmake_hand xmake_rows xmake_dues Z6):FnOk P w K mg base CX0 1 f fd ["_law_cell","_law_widest","_law_total"] (sp41_lplaces):=by
 have sc:FnScope ["_law_cell","_law_widest","_law_total"] ["_law_cell","_law_widest","_law_total"] (defScope Z3k):=by walk_at "sc"
 refine F.ok sc (fun vs H Q E h=>?_) (fun cdv A outer s H vs Q E hr h=>?_)
 · obtain ⟨_,_,_,rfl,_⟩:=h;rfl
 obtain ⟨c,w,t,rfl,hw1,hw2,ht0,ht1,q⟩:=h
 refine ⟨_,(@pss_cons _ _ _ _ _ (ps_if (pt_cmpR op_eq (pe_op op_mod (pv 0) pe_int) pe_int (nomark _))
  (@pss_one _ _ _ (@ps_ret _ _ _ _ (pv 1)))
  pss_nil)
  (@pss_cons _ _ _ _ _ (ps_if (pt_cmpR op_eq (pe_op op_mod (pv 0) pe_int) pe_int (nomark _))
   (@pss_one _ _ _ (@ps_ret _ _ _ _ (pe_op op_pow pe_int pe_int)))
   pss_nil)
  (@pss_cons _ _ _ _ _ (ps_if (pt_cmpR op_eq (pe_op op_mod (pv 0) pe_int) pe_int (nomark _))
   (@pss_one _ _ _ (@ps_ret _ _ _ _ (pe_op op_add (pv 1) (pe_op op_mod (pe_op op_fdiv (pv 0) pe_int) (pe_op op_add (pv 2) pe_int)))))
   pss_nil)
  (@pss_one _ _ _ (@ps_ret _ _ _ _ (pe_op op_add (pv 1) (pe_op op_mod (pe_op op_fdiv (pv 0) pe_int) pe_int))))))),?_⟩
 walk_at "st"
 have line:=line_val
 have hb0:=Int.emod_nonneg (c / 6) (show (t+1:Int)≠0 by omega)
 have hb1:=Int.emod_lt_of_pos (c / 6) (show (0:Int) < t+1 by omega)
 walk_at "go"
 by_cases h:c % 6=0
 · rw [if_pos h];exact q _ (by omega) (by omega)
 rw [if_neg h]
 rename_i r hr'
 subst hr'
 walk_at "go"
 by_cases h:c % 6=1
 · rw [if_pos h]
   have e6:(10:Int) ^ 6=1000000:=by decide
   exact ⟨cpow_of (by omega) (by omega) (by decide),q _ (by rw [e6];omega) (by decide)⟩
 rw [if_neg h]
 rename_i r hr'
 subst hr'
 walk_at "go"
 by_cases h:c % 6=2
 · rw [if_pos h]
   refine ⟨cdiv_of (by omega) (by omega),by omega,q _ (by omega) (by omega)⟩
 rw [if_neg h]
 rename_i r hr'
 subst hr'
 walk_at "go"
 exact q _ (by omega) (by omega)
theorem Z6u{f:Addr}{fd:FuncData}(F:Fun K "_law_rule" "_law_rule" Z4g f fd)(T:Txt K mg Z4 Z3 Z7 Z5 Z0 Z1 Z2 xmake_oldest xmake_first xmake_halving xmake_farthest xmake_hand xmake_rows xmake_dues Z6)(Z06:DefI P w K mg base CX0 5 "Oldest" Z0 ["self","stock","places"] (sp28_kinit K))(Z0c:DefI P w K mg base CX0 6 "First" Z1 ["self","stock","places"] (sp22_init Z1))(Z0k:DefI P w K mg base CX0 6 "Hand" Z2 ["self","stock","places"] (sp28_hinit Z2)):FnOk P w K mg base CX0 8 f fd ["_law_word_here","_law_stock","_law_places_here"] (sp62_rule (C3.mk Z0 Z1 Z2)):=by
 have sc:FnScope ["_law_word_here","_law_stock","_law_places_here"] ["_law_word_here","_law_stock","_law_places_here"] (defScope Z4g):=by walk_at "sc"
 refine F.ok sc (fun vs H Q E h=>?_) (fun cdv A outer s H vs Q E hr h=>?_)
 · obtain ⟨_,_,_,rfl,_⟩:=h;rfl
 obtain ⟨w3,st,n,rfl,h1,h2,q⟩:=h
 refine ⟨_,(@pss_cons _ _ _ _ _ (ps_if (pt_cmpR op_eq (pv 0) pe_str (nomark _))
  (@pss_one _ _ _ (@ps_ret _ _ _ _ (pe_makeS Z06 hr rfl (passS pass0) (pa_cons (pv 1) (pa_cons (pv 2) pa_nil)))))
  pss_nil)
  (@pss_cons _ _ _ _ _ (ps_if (pt_cmpR op_eq (pv 0) pe_str (nomark _))
   (@pss_one _ _ _ (@ps_ret _ _ _ _ (pe_makeS Z0c hr rfl (passS pass0) (pa_cons (pv 1) (pa_cons (pv 2) pa_nil)))))
   pss_nil)
  (@pss_one _ _ _ (@ps_ret _ _ _ _ (pe_makeS Z0k hr rfl (passS pass0) (pa_cons (pv 1) (pa_cons (pv 2) pa_nil))))))),?_⟩
 walk_at "st"
 cases w3 with
 | ol=>
  show tSeq _ _ _ [some (V.str (Str.ofString "oldest")),_,_] _
  walk_at "go"
  intro x dx hx hd hne
  refine ⟨Z0,dx,upd_same,T.Zk,T.Zu,T.Zp,T.Zg,T.Zs,h1,h2,fun H' la sb hla nla hq hl=>?_⟩
  exact q x [x,la] H' (mk_same hx hd sb) (fun m hm=>by simp only [List.mem_cons,List.not_mem_nil,or_false]at hm;rcases hm with e | e <;> rw [e];exact hx;exact mk_none hx hd hla) ⟨la,rfl,⟨dx,hq⟩,hl⟩
 | fi=>
  show tSeq _ _ _ [some (V.str (Str.ofString "first")),_,_] _
  walk_at "go"
  intro x dx hx hd hne
  refine ⟨dx,upd_same,h1,h2,fun H' la pa sb hla hpa hg=>?_⟩
  exact q x [x,la,pa] H' (mk_same hx hd sb) (fun m hm=>by simp only [List.mem_cons,List.not_mem_nil,or_false]at hm;rcases hm with e | e | e <;> rw [e];exact hx;exact mk_none hx hd hla;exact mk_none hx hd hpa) hg
 | hd=>
  show tSeq _ _ _ [some (V.str (Str.ofString "hand")),_,_] _
  walk_at "go"
  intro x dx hx hd hne
  refine ⟨dx,upd_same,h1,h2,fun H' la pa sb hla hpa hg=>?_⟩
  exact q x [x,la,pa] H' (mk_same hx hd sb) (fun m hm=>by simp only [List.mem_cons,List.not_mem_nil,or_false]at hm;rcases hm with e | e | e <;> rw [e];exact hx;exact mk_none hx hd hla;exact mk_none hx hd hpa) hg
theorem Z6v{f:Addr}{fd:FuncData}(F:Fun K "_law_word" "_law_word" Z4h f fd)(T:Txt K mg Z4 Z3 Z7 Z5 Z0 Z1 Z2 xmake_oldest xmake_first xmake_halving xmake_farthest xmake_hand xmake_rows xmake_dues Z6):FnOk P w K mg base CX0 1 f fd ["_law_turn","_law_asks"] (sp62_word K):=by
 have sc:FnScope ["_law_turn","_law_asks"] ["_law_turn","_law_asks"] (defScope Z4h):=by walk_at "sc"
 refine F.ok sc (fun vs H Q E h=>?_) (fun cdv A outer s H vs Q E hr h=>?_)
 · obtain ⟨_,_,_,rfl,_⟩:=h;rfl
 obtain ⟨tt,a,xs,rfl,ha,q⟩:=h
 refine ⟨_,(@pss_one _ _ _ (@ps_ret _ _ _ _ (@pe_ix _ _ _ _ _ _ _ ix_list (@pe_lst _ _ _ _ (pa_cons pe_str (pa_cons pe_str (pa_cons pe_str pa_nil)))) (pe_op op_mod (pe_op op_add (pv 0) (pe_callB call_len_seq rfl T.Z0e PySem.boot_len (pa_cons (pv 1) pa_nil))) pe_int) (fun _ _=>rfl)))),?_⟩
 walk_at "st"
 have line:=line_val
 walk_at "go"
 intro p hp
 refine ⟨xs,.inl ((Same.new hp).seq ha),by decide,?_⟩
 refine ixL_of (SqL.of upd_same) (v:=V.str (wOf (tt+xs.length)).s) (atI_of (Int.emod_nonneg _ (by decide)) ?_) (q _ (Same.new hp))
 show ((([.fi,.hd,.ol]:List W3).map W3.s).map V.str)[_]?=_
 rw [List.getElem?_map,wOf_at]
 rfl
theorem Z6i{f:Addr}{fd:FuncData}(F:Fun K "lying_by" "lying_by" Z3l f fd)(T:Txt K mg Z4 Z3 Z7 Z5 Z0 Z1 Z2 xmake_oldest xmake_first xmake_halving xmake_farthest xmake_hand xmake_rows xmake_dues Z6)(Z44:Def P w K mg base CX0 7 "book_of" ["rule","asks"] (spI_bookN (TQ (C3.mk Z0 Z1 Z2)) K Z4 Z3))(Z25:Def P w K mg base CX0 7 "lying_after" ["stock","asks","places","book"] (sp14_after K Z4))(D_mk:∀b,CallV P w K mg base CX0 9 (Mk3.f (M3.mk xmake_oldest xmake_first xmake_hand lam1) b) (Mk3.J (M3.mk xmake_oldest xmake_first xmake_hand lam1) b) (sp62_mk K Z4 (C3.mk Z0 Z1 Z2) b)):FnOk P w K mg base CX0 10 f fd ["make","stock","asks","places"] (sp62_by K Z4 (C3.mk Z0 Z1 Z2) (M3.mk xmake_oldest xmake_first xmake_hand lam1)):=by
 have sc:FnScope ["make","stock","asks","places","rule"] ["make","stock","asks","places"] (defScope Z3l):=by walk_at "sc"
 refine F.ok sc (fun vs H Q E h=>?_) (fun cdv A outer s H vs Q E hr h=>?_)
 · obtain ⟨_,_,_,_,_,_,rfl,_⟩:=h;rfl
 obtain ⟨b,st,a,n,ts,ys,rfl,hJ,ro,q⟩:=h
 refine ⟨_,(@pss_cons _ _ _ _ _ (ps_set (i:=4) sc.nd rfl (Or.inl rfl) (pe_callV (fa:=(Mk3.f (M3.mk xmake_oldest xmake_first xmake_hand lam1))) (J:=(Mk3.J (M3.mk xmake_oldest xmake_first xmake_hand lam1))) (sp:=(sp62_mk K Z4 (C3.mk Z0 Z1 Z2))) D_mk hr pass0 (pv 0) (pa_cons (pv 1) (pa_cons (pv 3) (pa_cons (pe_callTy call_list_of rfl T.Z14 (by first | rfl | decide+kernel) (pa_cons (pv 2) pa_nil)) pa_nil)))))
  (@pss_one _ _ _ (@ps_ret _ _ _ _ (pe_callD Z25 hr rfl pass0 (pa_cons (pv 1) (pa_cons (pv 2) (pa_cons (pv 3) (pa_cons (pe_callD Z44 hr rfl pass0 (pa_cons (pv 4) (pa_cons (pv 2) pa_nil))) pa_nil)))))))),?_⟩
 walk_at "st"
 have line:=line_val
 walk_at "go"
 refine ⟨b,rfl,hJ,_,.inl (SqL.of ro.a),fun l hl=>⟨Mk3.J.same (Same.new hl) hJ,ts,ys,⟨ro.s.same (Same.new hl),ro.nd,ro.tl,upd_same,ro.l,ro.i,ro.r,ro.n1,ro.n2⟩,fun q' M H1 sm1 hM hg=>?_⟩⟩
 have sm:=(Same.new hl).trans sm1
 have hM0:∀m∈M,H m=none:=fun m hm=>same_none (Same.new hl) (hM m hm)
 have ham:a∉M:=fun h=>by
  have:=ro.a
  rw [hM0 a h]at this
  cases this
 have sa:=sm _ _ ro.a
 clear hM hl sm1
 rename_i rest hrest
 subst hrest
 walk_at "go"
 refine ⟨Mk3.w ys.length b,H,st,M,n,ts,ys,_,hg,invq,ro.s,sm,hM0,ro.nd,ro.tl,SqL.of sa,ham,ro.l,ro.i,ro.r,ro.n1,ro.n2,by rw [cntq];exact Nat.zero_le _,fun b as gs H2 kp2 hb htup bk _ _ _ _ _=>?_⟩
 have sm2:Same H H2:=fun x o e=>kp2 x o (fun h=>by rw [hM0 x h]at e;cases e) (sm x o e)
 have ro2:=ro.same sm2
 refine ⟨ts,ro2.s,ro2.nd,ys,SqL.of ro2.a,ro2.l,ro2.i,ro2.r,ro2.n1,ro2.n2,as,gs,_,bk,gl_lawful (invq) ro.i ro.r,fun l2 qs H3 hl2 sm3 td=>?_⟩
 exact q l2 qs H3 (same_none sm2 hl2) (sm2.trans sm3) ⟨td.L,td.N,td.d,fun j q hj=>⟨same_none sm2 (td.q j q hj).1,(td.q j q hj).2⟩⟩
theorem Z5w{f:Addr}{fd:FuncData}(F:Fun K "first_lack" "first_lack" Z2l f fd)(T:Txt K mg Z4 Z3 Z7 Z5 Z0 Z1 Z2 xmake_oldest xmake_first xmake_halving xmake_farthest xmake_hand xmake_rows xmake_dues Z6)(Zq:Def P w K mg base CX0 4 "check_asks" ["stock","asks","places"] (N41.sp41_asks K Z4))(Z19:Def P w K mg base CX0 3 "check_greater" ["lesser","greater"] (sp63_greater))(Z2b:Def P w K mg base CX0 10 "lying_by" ["make","stock","asks","places"] (sp62_by K Z4 (C3.mk Z0 Z1 Z2) (M3.mk xmake_oldest xmake_first xmake_hand lam1))):FnOk P w K mg base CX0 11 f fd ["stock","asks","lesser","greater","make"] (sp62_lack K Z4 (C3.mk Z0 Z1 Z2) (M3.mk xmake_oldest xmake_first xmake_hand lam1)):=by
 have sc:FnScope ["stock","asks","lesser","greater","make","held","offered","number","names","lacking"] ["stock","asks","lesser","greater","make"] (defScope Z2l):=by walk_at "sc"
 refine F.ok sc (fun vs H Q E h=>?_) (fun cdv A outer s H vs Q E hr h=>?_)
 · obtain ⟨_,_,_,_,_,_,_,rfl,_⟩:=h;rfl
 obtain ⟨b,st,a,n1,n2,ts,ys,rfl,hJ,ro,hn1,hn2,q⟩:=h
 refine ⟨_,(@pss_cons _ _ _ _ _ (ps_expr (pe_callD Zq hr rfl pass0 (pa_cons (pv 0) (pa_cons (pv 1) (pa_cons (pv 2) pa_nil)))))
  (@pss_cons _ _ _ _ _ (ps_expr (pe_callD Z19 hr rfl pass0 (pa_cons (pv 2) (pa_cons (pv 3) pa_nil))))
  (@pss_cons _ _ _ _ _ (ps_set (i:=5) sc.nd rfl (Or.inl rfl) (pe_callD Z2b hr rfl pass0 (pa_cons (pv 4) (pa_cons (pv 0) (pa_cons (pv 1) (pa_cons (pv 2) pa_nil))))))
  (@pss_cons _ _ _ _ _ (ps_set (i:=6) sc.nd rfl (Or.inr rfl) (pe_callD Z2b hr rfl pass0 (pa_cons (pv 4) (pa_cons (pv 0) (pa_cons (pv 1) (pa_cons (pv 3) pa_nil))))))
  (@pss_cons _ _ _ _ _ (ps_for PassesOwn.never rfl (pi_enum rfl T.Z0h (pa_cons (pv 5) pa_nil)) (pg_tup rfl (pgs_cons (pg_name (i:=7) sc.nd rfl (Or.inr rfl)) (pgs_cons (pg_name (i:=8) sc.nd rfl (Or.inl rfl)) pgs_nil)))
   (@pss_cons _ _ _ _ _ (ps_compI (i:=9) "name" [6,7] sc.nd rfl rfl rfl rfl (pi_list (pv 8)) (fun b=>(pt_cmpR op_notIn_seq (pv 0) (@pe_ix _ _ _ _ _ _ _ ix_list (pv 1) (pv 2) (fun _ _=>rfl)) (by with_unfolding_all rfl))) (fun b=>(pv 0)))
   (@pss_one _ _ _ (ps_if (pt_cmpR (op_neQ hr) (pv 9) (@pe_lst _ _ _ _ pa_nil) (nomark _))
    (@pss_one _ _ _ (@ps_ret _ _ _ _ (pe_tup (pa_cons (pv 7) (pa_cons (pe_callB call_sortS rfl T.Z1c (by first | rfl | decide+kernel) (pa_cons (pv 9) pa_nil)) pa_nil)))))
    pss_nil))))
  (@pss_one _ _ _ (@ps_ret _ _ _ _ pe_non))))))),?_⟩
 walk_at "st"
 have line:=line_val
 walk_at "go"
 refine ⟨ts,ro.s,ro.nd,ys,SqL.of ro.a,ro.l,ro.i,ro.r,ro.n1,ro.n2,fun H1 sm1=>?_⟩
 have ro1:=ro.same sm1
 have hJ1:=Mk3.J.same sm1 hJ
 have hyl:=ro.l
 rename_i rest hrest
 subst hrest
 walk_at "go"
 refine ⟨b,rfl,hJ1,ts,ys,ro1,fun l1 qs1 H2 hl1 sm2 td1=>?_⟩
 have ro2:RowOk K Z4 H2 st a n2 ts ys:=⟨(ro1.same sm2).s,ro1.nd,ro1.tl,(ro1.same sm2).a,ro1.l,ro1.i,(fun y hy=>by have:=ro1.r y hy;omega),(by have:=ro1.n1;omega),hn2⟩
 rename_i rest hrest
 subst hrest
 walk_at "go"
 refine ⟨b,rfl,Mk3.J.same sm2 hJ1,ts,ys,ro2,fun l2 qs2 H3 hl2 sm3 td2=>?_⟩
 have b1:=(td1.same sm3).beh
 have b2:=td2.beh
 clear td1 td2
 rename_i rest hrest
 subst hrest
 walk_at "go"
 rename_i rest hrest
 have hR1:∀y∈ys,rm ts y≤n1:=ro.r
 have hR2:∀y∈ys,rm ts y≤n2:=fun y hy=>by have:=ro.r y hy;omega
 have htl:=ro.tl
 refine ⟨⟨_,SqL.of b1.L⟩,forE_by (xs:=qs1.map V.ref) (fun i σ H'=>∃v7 v8 v9:Option V,σ=[some (V.ref st),some (V.ref a),some (V.int n1),some (V.int n2),some (V.ref (Mk3.f (M3.mk xmake_oldest xmake_first xmake_hand lam1) b)),some (V.ref l1),some (V.ref l2),v7,v8,v9]∧Same H3 H'∧∀j,j < i→lk (TQ (C3.mk Z0 Z1 Z2) (Mk3.w ys.length b)) (zq (C3.mk Z0 Z1 Z2) (Mk3.w ys.length b)) ts n1 n2 ys j=[]) ⟨none,none,none,rfl,Same.refl H3,fun j hj=>absurd hj (Nat.not_lt_zero _)⟩ (fun i σ H' _ h_=>by obtain ⟨_,_,_,_,sm,_⟩:=h_;exact SqL.of (sm _ _ b1.L)) ?_ ?_⟩
 · clear hrest
   rintro i u σ H' t hu ⟨v7,v8,v9,rfl,sm,hall⟩ htn
   rw [List.getElem?_map]at hu
   cases hr0:qs1[i]? with
   | none=>rw [hr0]at hu;cases hu
   | some r=>
   rw [hr0]at hu
   cases hu
   have hi:i < ys.length:=by rw [← b1.N];exact (List.getElem?_eq_some_iff.mp hr0).1
   obtain ⟨e,he⟩:∃e,qs2[i]?=some e:=⟨_,List.getElem?_eq_getElem (by rw [b2.N];exact hi)⟩
   walk_at "go"
   refine ⟨_,SqT.of upd_same,rfl,_,_,rfl,_,_,rfl,rfl,?_⟩
   have sm4:=sm.trans (Same.new (o:= .tup [V.int i,V.ref r]) htn)
   generalize upd H' t (.tup [V.int i,V.ref r])=H4 at sm4 ⊢
   clear sm htn
   have c1:=sm4 _ _ (b1.q i r hr0)
   have c2:=sm4 _ _ (b2.q i e he)
   have c3:=sm4 _ _ b2.L
   rw [w6_l invq ro.i hR1 (show i+1≤ys.length by omega)]at c1
   rw [w6_l invq ro.i hR2 (show i+1≤ys.length by omega)]at c2
   have hll:=l6_le (T:=(TQ (C3.mk Z0 Z1 Z2) (Mk3.w ys.length b))) (s0:=(zq (C3.mk Z0 Z1 Z2) (Mk3.w ys.length b))) (n:=n1) invq ro.i hR1 (show i+1≤ys.length by omega)
   have elk:lk (TQ (C3.mk Z0 Z1 Z2) (Mk3.w ys.length b)) (zq (C3.mk Z0 Z1 Z2) (Mk3.w ys.length b)) ts n1 n2 ys i=lackN (L6 (TQ (C3.mk Z0 Z1 Z2) (Mk3.w ys.length b)) (zq (C3.mk Z0 Z1 Z2) (Mk3.w ys.length b)) ts n1 ys (i+1)) (L6 (TQ (C3.mk Z0 Z1 Z2) (Mk3.w ys.length b)) (zq (C3.mk Z0 Z1 Z2) (Mk3.w ys.length b)) ts n2 ys (i+1))∧True:=⟨rfl,trivial⟩
   generalize L6 (TQ (C3.mk Z0 Z1 Z2) (Mk3.w ys.length b)) (zq (C3.mk Z0 Z1 Z2) (Mk3.w ys.length b)) ts n1 ys (i+1)=A1 at c1 hll elk
   generalize L6 (TQ (C3.mk Z0 Z1 Z2) (Mk3.w ys.length b)) (zq (C3.mk Z0 Z1 Z2) (Mk3.w ys.length b)) ts n2 ys (i+1)=A2 at c2 elk
   walk_at "go"
   refine ⟨⟨_,SqL.of c1⟩,compL_if (pS A2) id (SqL.of c1) (by rw [List.length_map];omega) (fun b x H5 QT hx sm5 qt=>?_) (fun b x H5 Q' hx hp sm' q'=>?_) (fun D H5 hD sm5 hD5=>?_)⟩
   · obtain ⟨z,hz,rfl⟩:=List.mem_map.mp hx
     walk_at "go"
     refine ixL_of (SqL.of (sm5 _ _ c3)) (v:=V.ref e) (atI_nat (by rw [List.getElem?_map,he];rfl)) (ninT_go (SqL.of (sm5 _ _ c2)) ⟨_,rfl,?_⟩)
     have e9:(!decide (z∈A2))=pS A2 (V.str z):=by show _=decide (z∉A2);simp
     rw [e9]
     exact qt H5 (Same.refl _)
   · walk_at "go"
     exact q' _ (Same.refl _)
   · have hD6:H5 D=some (.lst ((lackN A1 A2).map V.str)):=by rw [hD5,List.map_id,pS_filter]
     have hlen:(lackN A1 A2).length≤60:=Nat.le_trans lack_len (by omega)
     rename_i rest hrest
     subst hrest
     walk_at "go"
     intro p hp
     refine ⟨_,eqQ_strs (xs:=lackN A1 A2) (ys:=[]) (SqL.of (by rw [upd_ne (ne_of_none hD6 hp)];exact hD6)) (SqL.of upd_same),?_⟩
     have sm7:=(sm4.trans sm5).trans (Same.new (o:= .lst []) hp)
     by_cases hL:lackN A1 A2=[]
     · rw [if_neg (by simp [hL])]
       refine ⟨sm7,fun j hj=>?_⟩
       by_cases ej:j=i
       · rw [ej,elk.1,hL]
       · exact hall j (by omega)
     · rw [if_pos (by simp [hL])]
       have hD7:upd H5 p (.lst []) D=some (.lst ((lackN A1 A2).map V.str)):=by rw [upd_ne (ne_of_none hD6 hp)];exact hD6
       generalize upd H5 p (.lst [])=H7 at sm7 hD7 ⊢
       refine ⟨lackN A1 A2,SqL.of hD7,by omega,fun s2 zs hs2 hpm hso=>⟨by omega,fun t2 ht2=>?_⟩⟩
       have sm8:=(Same.new (H:=H7) (o:= .lst (zs.map V.str)) hs2)
       have sm9:=sm8.trans (Same.new (o:= .tup [V.int i,V.ref s2]) ht2)
       refine q _ _ ((((sm1.trans sm2).trans sm3).trans sm7).trans sm9) (.inr ⟨i,t2,s2,zs,hi,hall,by rw [elk.1];exact hL,rfl,upd_same,(Same.new (o:= .tup [V.int i,V.ref s2]) ht2) _ _ upd_same,by rw [elk.1];exact hpm,hso⟩)
 · rintro σ H' ⟨v7,v8,v9,rfl,sm,hall⟩
   subst hrest
   rw [List.length_map,b1.N]at hall
   walk_at "go"
   exact q _ _ (((sm1.trans sm2).trans sm3).trans sm) (.inl ⟨rfl,hall⟩)
theorem Z6w{f:Addr}{fd:FuncData}(F:Fun K "_law_held" "_law_held" Z4i f fd)(T:Txt K mg Z4 Z3 Z7 Z5 Z0 Z1 Z2 xmake_oldest xmake_first xmake_halving xmake_farthest xmake_hand xmake_rows xmake_dues Z6):FnOk P w K mg base CX0 1 f fd ["_law_word_here","_law_asks","_law_rooms","_law_places_here"] (sp62_held K (C3.mk Z0 Z1 Z2)):=by
 have sc:FnScope ["_law_word_here","_law_asks","_law_rooms","_law_places_here","_law_line","_law_marks","_law_found","_law_name"] ["_law_word_here","_law_asks","_law_rooms","_law_places_here"] (defScope Z4i):=by walk_at "sc"
 refine F.ok sc (fun vs H Q E h=>?_) (fun cdv A outer s H vs Q E hr h=>?_)
 · obtain ⟨_,_,_,_,_,_,_,_,rfl,_⟩:=h;rfl
 obtain ⟨w3,a,rd,n,nm,ys,R',ts,rfl,ha,hyl,hrd,hnm,hR1,hR2,htl,hin,hrm,q⟩:=h
 refine ⟨_,(@pss_cons _ _ _ _ _ (ps_set (i:=4) sc.nd rfl (Or.inl rfl) (@pe_lst _ _ _ _ pa_nil))
  (@pss_cons _ _ _ _ _ (ps_set (i:=5) sc.nd rfl (Or.inl rfl) pe_dnewK)
  (@pss_cons _ _ _ _ _ (ps_set (i:=6) sc.nd rfl (Or.inl rfl) (@pe_lst _ _ _ _ pa_nil))
  (@pss_cons _ _ _ _ _ (ps_for PassesOwn.never rfl (pi_list (pv 1)) (pg_name (i:=7) sc.nd rfl (Or.inl rfl))
   (@pss_cons _ _ _ _ _ (ps_if (pt_cmpR op_in_seq (pv 7) (pv 4) (by with_unfolding_all rfl))
    (@pss_one _ _ _ (ps_if (pt_cmpR op_eq (pv 0) pe_str (nomark _))
     (@pss_cons _ _ _ _ _ (ps_expr (pe_bm PySem.F.plainAttrs_list PySem.F.slot_list_remove PySem.F.type_list_remove mt_remove (pv 4) (pa_cons (pv 7) pa_nil)))
     (@pss_one _ _ _ (ps_expr (pe_bm PySem.F.plainAttrs_list PySem.F.slot_list_append PySem.F.type_list_append mt_append (pv 4) (pa_cons (pv 7) pa_nil)))))
     pss_nil))
    (@pss_cons _ _ _ _ _ (ps_while PassesOwn.never (pt_cmpR op_gt (pe_op op_add (pe_callB (call_sumL rfl) rfl T.Z2v (by first | rfl | decide+kernel) (pa_cons (pe_comp1 "_law_one" [2] rfl rfl (pi_list (pv 4)) (fun b=>(pe_dget (hu_of hr) (pv 1) (pv 0) (fun _ _=>rfl)))) pa_nil)) (pe_dget (hu_of hr) (pv 2) (pv 7) (fun _ _=>rfl))) (pv 3) (nomark _))
     (@pss_cons _ _ _ _ _ (ps_while PassesOwn.never (PW.pt (pw_and (pt_cmpR op_eq (pv 0) pe_str (nomark _)) (pw_and1 (pt_val (pe_dget (hu_of hr) (pv 5) (@pe_ix _ _ _ _ _ _ _ ix_list (pv 4) pe_int (fun _ _=>rfl)) (fun _ _=>rfl))))))
      (@pss_cons _ _ _ _ _ (ps_dput (hu_of hr) (pv 5) (@pe_ix _ _ _ _ _ _ _ ix_list (pv 4) pe_int (fun _ _=>rfl)) pe_bl rfl)
      (@pss_one _ _ _ (ps_expr (pe_bm PySem.F.plainAttrs_list PySem.F.slot_list_append PySem.F.type_list_append mt_append (pv 4) (pa_cons (pe_bm PySem.F.plainAttrs_list PySem.F.slot_list_pop PySem.F.type_list_pop mt_popAt (pv 4) (pa_cons pe_int pa_nil)) pa_nil))))))
     (@pss_one _ _ _ (ps_expr (pe_bm PySem.F.plainAttrs_list PySem.F.slot_list_pop PySem.F.type_list_pop mt_popAt (pv 4) (pa_cons pe_int pa_nil))))))
    (@pss_one _ _ _ (ps_expr (pe_bm PySem.F.plainAttrs_list PySem.F.slot_list_append PySem.F.type_list_append mt_append (pv 4) (pa_cons (pv 7) pa_nil))))))
   (@pss_cons _ _ _ _ _ (ps_dput (hu_of hr) (pv 5) (pv 7) pe_bl rfl)
   (@pss_one _ _ _ (ps_expr (pe_bm PySem.F.plainAttrs_list PySem.F.slot_list_append PySem.F.type_list_append mt_append (pv 6) (pa_cons (pe_callTy call_list_of rfl T.Z14 (by first | rfl | decide+kernel) (pa_cons (pv 4) pa_nil)) pa_nil)))))))
  (@pss_one _ _ _ (@ps_ret _ _ _ _ (pv 6))))))),?_⟩
 walk_at "st"
 have line:=line_val
 walk_at "go"
 intro ly hly
 rename_i rest hrest
 subst hrest
 walk_at "go"
 intro md hmd
 rename_i rest hrest
 subst hrest
 walk_at "go"
 intro fo hfo
 have sm0:Same H (upd (upd (upd H ly (.lst [])) md (.dK [])) fo (.lst [])):=((Same.new hly).trans (Same.new hmd)).trans (Same.new hfo)
 have n1:ly≠md:=ne_of_none (show upd H ly (.lst []) ly=some (.lst []) from upd_same) hmd
 have n2:ly≠fo:=ne_of_none (show upd (upd H ly (.lst [])) md (.dK []) ly=some (.lst []) by rw [upd_ne n1];exact upd_same) hfo
 have n3:md≠fo:=ne_of_none (show upd (upd H ly (.lst [])) md (.dK []) md=some (.dK []) from upd_same) hfo
 have hmd0:H md=none:=same_none (Same.new hly) hmd
 have hfo0:H fo=none:=same_none ((Same.new hly).trans (Same.new hmd)) hfo
 have g1:upd (upd (upd H ly (.lst [])) md (.dK [])) fo (.lst []) ly=some (.lst (([]:List Str).map V.str)):=by rw [upd_ne n2,upd_ne n1];exact upd_same
 have g2:upd (upd (upd H ly (.lst [])) md (.dK [])) fo (.lst []) md=some (.dK []):=by rw [upd_ne n3];exact upd_same
 have g3:Hld (upd (upd (upd H ly (.lst [])) md (.dK [])) fo (.lst [])) fo ly md [] [] (fun j=>L6 (TQ (C3.mk Z0 Z1 Z2) w3) (zq (C3.mk Z0 Z1 Z2) w3) ts n ys (j+1)):=⟨upd_same,rfl,by simp⟩
 generalize upd (upd (upd H ly (.lst [])) md (.dK [])) fo (.lst [])=H1 at sm0 g1 g2 g3 ⊢
 clear hfo hmd
 have hin':∀y∈ys,y∈ts.map (·.1):=fun y hy=>by rw [← hnm];exact hin y hy
 have hrm':∀y∈ys,rm ts y≤n:=fun y hy=>by rw [hR1 y (hin y hy)];exact hrm y hy
 have hnl:nm.length≤60:=by rw [hnm,List.length_map];exact htl
 rename_i rest hrest
 subst hrest
 walk_at "go"
 rename_i rest hrest
 refine ⟨⟨_,sm0.seq ha⟩,forL_by (xs:=ys.map V.str) (fun i σ H'=>∃(ln:List Str) (mk:List (Key×V)) (qs:List Addr) (As:List (List Str)) (v7:Option V),σ=[some (V.str w3.s),some (V.ref a),some (V.ref rd),some (V.int n),some (V.ref ly),some (V.ref md),some (V.ref fo),v7]∧Same H H'∧H' ly=some (.lst (ln.map V.str))∧H' md=some (.dK mk)∧Hld H' fo ly md qs As (fun j=>L6 (TQ (C3.mk Z0 Z1 Z2) w3) (zq (C3.mk Z0 Z1 Z2) w3) ts n ys (j+1))∧As.length=i∧Lw (C3.mk Z0 Z1 Z2) w3 (gst (TQ (C3.mk Z0 Z1 Z2) w3) (rm ts) n (zq (C3.mk Z0 Z1 Z2) w3) ys i).1 (gst (TQ (C3.mk Z0 Z1 Z2) w3) (rm ts) n (zq (C3.mk Z0 Z1 Z2) w3) ys i).2 ln mk∧KeysIn mk nm) ⟨[],[],[],[],none,rfl,sm0,g1,g2,g3,rfl,lw_nil,KeysIn.nil⟩ (fun i σ H' _ h_=>by obtain ⟨_,_,_,_,_,_,sm,_⟩:=h_;exact sm.seq ha) ?_ ?_⟩
 · clear hrest g1 g2 g3 sm0
   rintro i u σ H' hu ⟨ln,mk,qs,As,v7,rfl,sm,e1,e2,hd,hAl,hLw,hki⟩
   rw [List.getElem?_map]at hu
   cases hz:ys[i]? with
   | none=>rw [hz]at hu;cases hu
   | some z=>
   rw [hz]at hu
   cases hu
   have hi:i < ys.length:=(List.getElem?_eq_some_iff.mp hz).1
   have hzn:=hin z (List.mem_of_getElem? hz)
   have hzn':=hin' z (List.mem_of_getElem? hz)
   have gi:=gst_inv (T:=(TQ (C3.mk Z0 Z1 Z2) w3)) (R:=rm ts) (n:=n) (s0:=(zq (C3.mk Z0 Z1 Z2) w3)) invq hin' hrm' i (by omega)
   have hsu:=gst_succ (T:=(TQ (C3.mk Z0 Z1 Z2) w3)) (R:=rm ts) (n:=n) (s0:=(zq (C3.mk Z0 Z1 Z2) w3)) hz
   generalize hgs:gst (TQ (C3.mk Z0 Z1 Z2) w3) (rm ts) n (zq (C3.mk Z0 Z1 Z2) w3) ys i=gs at hLw gi hsu
   obtain ⟨s1,l1⟩:=gs
   simp only at hLw
   have hpm:=lw_perm (z:=z) hLw (.inr gi.i)
   have hlen1:l1.length≤60:=by
    have:=N25.nd_len gi.nd gi.s
    rw [List.length_map]at this
    exact Nat.le_trans this htl
   walk_at "go"
   rename_i rest2 hrest2
   have key:∀(ln':List Str) (mk':List (Key×V)) (s2:(TQ (C3.mk Z0 Z1 Z2) w3).St) (l2:List Str) (H6:Hp),(gask (TQ (C3.mk Z0 Z1 Z2) w3) (rm ts) n (s1,l1) z).1=(s2,l2)→Same H H6→H6 ly=some (.lst (ln'.map V.str))→H6 md=some (.dK mk')→Hld H6 fo ly md qs As (fun j=>L6 (TQ (C3.mk Z0 Z1 Z2) w3) (zq (C3.mk Z0 Z1 Z2) w3) ts n ys (j+1))→Lw (C3.mk Z0 Z1 Z2) w3 s2 l2 ln' (putK mk' (Sum.inr z) (.bl true))→ln'.Perm l2→KeysIn mk' nm→rest2 [some (V.str w3.s),some (V.ref a),some (V.ref rd),some (V.int n),some (V.ref ly),some (V.ref md),some (V.ref fo),some (V.str z)] H6:=by
    intro ln' mk' s2 l2 H6 hg sm6 f1 f2 hd6 hLw6 hpm6 hki6
    have hkl:=hki6.len
    have hqn:=hd6.n
    subst hrest2
    walk_at "go"
    refine ⟨_,DPut.k (k:=Sum.inr z) (v:=V.bl true) f2 (by omega),?_⟩
    have sbm:SameBut md H6 (upd H6 md (.dK (putK mk' (Sum.inr z) (V.bl true)))):=fun b o e nb=>by rw [upd_ne nb];exact e
    have sm7:Same H (upd H6 md (.dK (putK mk' (Sum.inr z) (V.bl true)))):=same_upd sm6 hmd0
    have f17:=sbm _ _ f1 n1
    have f27:upd H6 md (.dK (putK mk' (Sum.inr z) (V.bl true))) md=some (.dK (putK mk' (Sum.inr z) (V.bl true))):=upd_same
    have hd7:=hd6.but sbm (.inr rfl) n3.symm
    have hki7:=hki6.put (v:=V.bl true) hzn
    generalize upd H6 md (.dK (putK mk' (Sum.inr z) (V.bl true)))=H7 at sm7 f17 f27 hd7 ⊢
    clear sbm f1 f2 hd6 sm6
    rename_i rest3 hrest3
    subst hrest3
    walk_at "go"
    refine ⟨.inl ⟨rfl,_,SqL.of hd7.F⟩,_,.inl (SqL.of f17),fun p hp=>?_⟩
    have np1:p≠ly:=(ne_of_none f17 hp).symm
    have np2:p≠md:=(ne_of_none f27 hp).symm
    refine ⟨fo,_,_,rfl,rfl,by rw [upd_ne (ne_of_none hd7.F hp)];exact hd7.F,by rw [List.length_map];omega,?_⟩
    have hd8:=hd7.add (l:=ln') hp np1 np2 (by show ln'.Perm (gst (TQ (C3.mk Z0 Z1 Z2) w3) (rm ts) n (zq (C3.mk Z0 Z1 Z2) w3) ys (As.length+1)).2;rw [hAl,hsu,hg];exact hpm6)
    rw [List.map_append]at hd8
    refine ⟨upd_but (sm7.trans (Same.new hp)) hfo0,ln',by rw [upd_ne n2,upd_ne (ne_of_none f17 hp)];exact f17,_,by rw [upd_ne n3,upd_ne (ne_of_none f27 hp)];exact f27,_,_,hd8,by rw [List.length_append,hAl];rfl,by rw [hsu,hg];exact hLw6,hki7⟩
   clear hrest2
   refine in_go (SqL.of e1) ⟨_,rfl,?_⟩
   by_cases hzl:z∈ln
   · rw [if_pos (by simp [hzl])]
     have hz1:z∈l1:=hpm.mem_iff.mp hzl
     have hg:(gask (TQ (C3.mk Z0 Z1 Z2) w3) (rm ts) n (s1,l1) z).1=(RuleT.asked _ n s1 z,l1):=congrArg Prod.fst (show gask (TQ (C3.mk Z0 Z1 Z2) w3) (rm ts) n (s1,l1) z=((RuleT.asked _ n s1 z,l1),(z,true,[])) from if_pos hz1)
     have hL2:=lw_hit hLw gi.i hz1
     have hp2:=lw_perm (z:=z) hL2 (.inr (RuleT.i_hit _ gi.i hzn' hz1))
     by_cases hw:w3= .ol
     · rw [if_pos (s_ol.mpr hw)]
       have eL:hitL w3 ln z=ln.erase z++[z]∧True:=⟨by rw [hw];rfl,trivial⟩
       rw [eL.1]at hL2 hp2
       clear eL
       have hel:=List.length_erase_of_mem hzl
       have hll:=hpm.length_eq
       walk_at "go"
       refine ⟨.inl ⟨rfl,_,SqL.of e1⟩,ln,e1,hzl,?_⟩
       rename_i rest3 hrest3
       subst hrest3
       walk_at "go"
       refine ⟨.inl ⟨rfl,_,SqL.of upd_same⟩,ly,_,_,rfl,rfl,upd_same,by rw [List.length_map];omega,?_⟩
       rw [upd_upd]
       exact key (ln.erase z++[z]) mk _ _ _ hg (same_upd sm hly) (by rw [upd_same,List.map_append];rfl) (by rw [upd_ne n1.symm];exact e2) (hd.but (fun b o e nb=>by rw [upd_ne nb];exact e) (.inl rfl) n2.symm) hL2 hp2 hki
     · rw [if_neg fun e=>hw (s_ol.mp e)]
       have eL:hitL w3 ln z=ln∧True:=⟨by cases w3 with | ol=>exact absurd rfl hw | fi=>rfl | hd=>rfl,trivial⟩
       rw [eL.1]at hL2 hp2
       exact key ln mk _ _ H' hg sm e1 e2 hd hL2 hp2 hki
   · rw [if_neg (by simp [hzl])]
     have hz1:z∉l1:=fun h=>hzl (hpm.mem_iff.mpr h)
     have hm1:=RuleT.i_mid _ gi.i hzn' hz1
     have hLm:=lw_mid hLw gi.i hz1
     have hzR:=hrm' z (List.mem_of_getElem? hz)
     walk_at "go"
     rename_i rest3 hrest3
     refine while_d (m0:=l1.length) (fun m σ H5=>∃(s5:(TQ (C3.mk Z0 Z1 Z2) w3).St) (l5 w5 ln5:List Str) (mk5:List (Key×V)),σ=[some (V.str w3.s),some (V.ref a),some (V.ref rd),some (V.int n),some (V.ref ly),some (V.ref md),some (V.ref fo),some (V.str z)]∧Same H H5∧H5 ly=some (.lst (ln5.map V.str))∧H5 md=some (.dK mk5)∧Hld H5 fo ly md qs As (fun j=>L6 (TQ (C3.mk Z0 Z1 Z2) w3) (zq (C3.mk Z0 Z1 Z2) w3) ts n ys (j+1))∧gf (TQ (C3.mk Z0 Z1 Z2) w3) (rm ts) n (rm ts z) (RuleT.asked _ n s1 z) l1 []=gf (TQ (C3.mk Z0 Z1 Z2) w3) (rm ts) n (rm ts z) s5 l5 w5∧(TQ (C3.mk Z0 Z1 Z2) w3).mid (ts.map (·.1)) n z s5 l5∧Lw (C3.mk Z0 Z1 Z2) w3 s5 l5 ln5 mk5∧(l5.Nodup∧∀u∈l5,u∈l1)∧KeysIn mk5 nm∧m=l5.length) ⟨_,l1,[],ln,mk,rfl,sm,e1,e2,hd,rfl,hm1,hLm,⟨gi.nd,fun u hu=>hu⟩,hki,rfl⟩ ?_
     clear sm e1 e2 hd hLm hm1
     rintro m' σ H5 ⟨s5,l5,w5,ln5,mk5,rfl,sm5,f1,f2,hd5,hgf,hm5,hL5,⟨hnd5,hs5⟩,hki5,rfl⟩
     have hpm5:=lw_perm hL5 (.inl hm5)
     have hl5:l5.length≤60:=Nat.le_trans (N25.nd_len hnd5 hs5) hlen1
     have hln5:=hpm5.length_eq
     walk_at "go"
     have hu5:∀u∈ln5,u∈nm:=fun u hu=>by rw [hnm];exact gi.s u (hs5 u (hpm5.mem_iff.mp hu))
     refine ⟨⟨_,SqL.of f1⟩,compL_pure (N41.rmV R') (SqL.of f1) (by rw [List.length_map];omega) (fun b x H' Q' hx sm' q'=>?_) fun D hD=>?_⟩
     · obtain ⟨u,hu,rfl⟩:=List.mem_map.mp hx
       walk_at "go"
       refine ⟨_,?_,q'⟩
       have:=DGet.k (k:=Sum.inr u) (sm' _ _ (sm5 _ _ hrd))
       rw [kvN_val (hu5 u hu)]at this
       exact this
     rw [N41.rmV_list]
     have smD:Same H5 (upd H5 D (.lst ((ln5.map R').map V.int))):=Same.new hD
     have hgz:=DGet.k (k:=Sum.inr z) (smD _ _ (sm5 _ _ hrd))
     rw [kvN_val hzn]at hgz
     refine ⟨D,rfl,ln5.map R',SqL.of upd_same,V.int (R' z),hgz,R' z,rfl,?_⟩
     have esm:(ln5.map R').sum=N41.sm (rm ts) l5:=by
      have h1:N41.sm R' ln5=N41.sm R' l5:=N25.sm_perm hpm5
      have h2:N41.sm R' l5=N41.sm (rm ts) l5:=sm_cong fun y hy=>(hR1 y (hu5 y (hpm5.mem_iff.mpr hy))).symm
      exact h1.trans h2
     rw [esm,← hR1 z hzn]
     have smc:=sm5.trans smD
     have fc1:=smD _ _ f1
     have fc2:=smD _ _ f2
     have hdc:=hd5.same smD
     generalize upd H5 D (.lst ((ln5.map R').map V.int))=Hc at smc fc1 fc2 hdc ⊢
     clear smD hgz esm sm5 f1 f2 hd5 hD
     have hz5:z∉l5:=fun h=>hz1 (hs5 z h)
     by_cases hlt:rm ts z≤n - N41.sm (rm ts) l5
     · rw [if_neg (by omega)]
       have hF:=hgf.trans (gf_end hlt)
       have hg:(gask (TQ (C3.mk Z0 Z1 Z2) w3) (rm ts) n (s1,l1) z).1=(RuleT.came _ n s5 z,l5++[z]):=by
        have e:gask (TQ (C3.mk Z0 Z1 Z2) w3) (rm ts) n (s1,l1) z=((RuleT.came _ n (gf (TQ (C3.mk Z0 Z1 Z2) w3) (rm ts) n (rm ts z) (RuleT.asked _ n s1 z) l1 []).1 z,(gf (TQ (C3.mk Z0 Z1 Z2) w3) (rm ts) n (rm ts z) (RuleT.asked _ n s1 z) l1 []).2.1++[z]),(z,false,(gf (TQ (C3.mk Z0 Z1 Z2) w3) (rm ts) n (rm ts z) (RuleT.asked _ n s1 z) l1 []).2.2)):=if_neg hz1
        rw [e,hF]
       clear hF hgf
       subst hrest3
       walk_at "go"
       refine ⟨.inl ⟨rfl,_,SqL.of fc1⟩,ly,_,_,rfl,rfl,fc1,by rw [List.length_map];omega,?_⟩
       exact key (ln5++[z]) mk5 _ _ _ hg (same_upd smc hly) (by rw [upd_same,List.map_append];rfl) (by rw [upd_ne n1.symm];exact fc2) (hdc.but (fun b o e nb=>by rw [upd_ne nb];exact e) (.inl rfl) n2.symm) (lw_come hL5 hm5 hz5) (hpm5.append_right _) hki5
     · rw [if_pos (by omega)]
       refine ⟨_,fun σ' H' h=>h,?_⟩
       have hne:l5≠[]:=fun e=>hlt (by rw [e,N41.sm_nil];omega)
       clear hrest3 key
       walk_at "go"
       rename_i rest4 hrest4
       have key2:∀(s7:(TQ (C3.mk Z0 Z1 Z2) w3).St) (f7:Str) (r7:List Str) (mk7:List (Key×V)) (H7:Hp),RuleT.pick _ n s7 l5=RuleT.pick _ n s5 l5→(TQ (C3.mk Z0 Z1 Z2) w3).mid (ts.map (·.1)) n z s7 l5→Lw (C3.mk Z0 Z1 Z2) w3 s7 l5 (f7::r7) mk7→(w3= .hd→valV mk7 (Sum.inr f7)=some (.bl false))→Same H H7→H7 ly=some (.lst ((f7::r7).map V.str))→H7 md=some (.dK mk7)→Hld H7 fo ly md qs As (fun j=>L6 (TQ (C3.mk Z0 Z1 Z2) w3) (zq (C3.mk Z0 Z1 Z2) w3) ts n ys (j+1))→KeysIn mk7 nm→rest4 [some (V.str w3.s),some (V.ref a),some (V.ref rd),some (V.int n),some (V.ref ly),some (V.ref md),some (V.ref fo),some (V.str z)] H7:=by
        intro s7 f7 r7 mk7 H7 hpk hm7 hL7 hmk sm7 f1 f2 hd7 hki7
        obtain ⟨p1,p2⟩:=lw_go hL7 hm7 hmk
        have hf:f7∈l5:=(lw_perm hL7 (.inl hm7)).mem_iff.mp (List.mem_cons_self ..)
        obtain ⟨_,hm8⟩:=RuleT.i_pick _ hm7 hne
        have hgo:=hgf.trans (gf_go hlt (by rw [← hpk,p1];exact hf))
        rw [← hpk,p1]at hgo
        rw [p1]at hm8
        have hel:=List.length_erase_of_mem hf
        have hlp:=List.length_pos_of_mem hf
        subst hrest4
        walk_at "go"
        refine ⟨.inl ⟨rfl,_,SqL.of f1⟩,pop0_go f1 ?_⟩
        exact ⟨_,show (l5.erase f7).length < l5.length by omega,same_upd sm7 hly,_,_,_,r7,upd_same,mk7,by rw [upd_ne n1.symm];exact f2,hd7.but (fun b o e nb=>by rw [upd_ne nb];exact e) (.inl rfl) n2.symm,hgo,hm8,p2,hnd5.erase _,(fun u hu=>hs5 u (List.mem_of_mem_erase hu)),hki7,rfl⟩
       clear hrest4
       have hln:ln5≠[]:=fun e=>hne (by rw [e]at hpm5;exact List.nil_perm.mp hpm5)
       by_cases hw:w3= .hd
       · subst hw
         refine while_d (m0:=(N28.H6.k s5).length) (fun m σ H7=>∃(s7:N28.H6) (ln7:List Str) (mk7:List (Key×V)),σ=[some (V.str (W3.s .hd)),some (V.ref a),some (V.ref rd),some (V.int n),some (V.ref ly),some (V.ref md),some (V.ref fo),some (V.str z)]∧Same H H7∧H7 ly=some (.lst (ln7.map V.str))∧H7 md=some (.dK mk7)∧Hld H7 fo ly md qs As (fun j=>L6 (TQ (C3.mk Z0 Z1 Z2) .hd) (zq (C3.mk Z0 Z1 Z2) .hd) ts n ys (j+1))∧hpk s7=hpk s5∧HI6 (ts.map fun x:Th=>x.1) s7 l5∧Lw (C3.mk Z0 Z1 Z2) .hd s7 l5 ln7 mk7∧KeysIn mk7 nm∧m=s7.k.length) ⟨s5,ln5,mk5,rfl,smc,fc1,fc2,hdc,rfl,hm5,hL5,hki5,rfl⟩ ?_
         rintro m' σ H7 ⟨s7,ln7,mk7,rfl,sm7,f1,f2,hd7,hpk7,hi7,hL7,hki7,rfl⟩
         have hp7:ln7.Perm l5:=lw_perm (w:= .hd) (n:=n) (z:=z) hL7 (.inl hi7)
         have hl7:=hp7.length_eq
         have hkl7:=hki7.len
         obtain ⟨f7,r7,rfl⟩:∃f7 r7,ln7=f7::r7:=by
          cases ln7 with
          | nil=>exact absurd (List.nil_perm.mp hp7) hne
          | cons x y=>exact ⟨x,y,rfl⟩
         have hv7:=hL7.2 f7 (List.mem_cons_self ..)
         have hnd7:(f7::r7).Nodup:=hp7.nodup_iff.mpr hnd5
         have hgt:=DGet.k (k:=Sum.inr f7) f2
         rw [hv7]at hgt
         show tAnd _ _ [some (V.str (Str.ofString "hand")),_,_,_,_,_,_,_] _ _
         walk_at "go"
         refine ixL_of (SqL.of f1) (v:=V.str f7) (atI_of (by decide) rfl) ⟨_,hgt,_,rfl,?_⟩
         cases hb:(valV (N28.H6.k s7) (Sum.inr f7)).isSome with
         | false=>
          rw [if_neg (by decide)]
          have hpe:RuleT.pick (TQ (C3.mk Z0 Z1 Z2) .hd) n s7 l5=RuleT.pick (TQ (C3.mk Z0 Z1 Z2) .hd) n s5 l5:=by
           show (hpk s7,(hpk s7).L.headD Str.empty)=(hpk s5,(hpk s5).L.headD Str.empty)
           rw [hpk7]
          exact key2 s7 f7 r7 mk7 H7 hpe hi7 hL7 (fun _=>by rw [hv7,hb]) sm7 f1 f2 hd7 hki7
         | true=>
          rw [if_pos rfl]
          refine ⟨_,fun σ' H' h=>h,?_⟩
          obtain ⟨t1,t2,t3⟩:=lw_turn hL7 hnd7 (by rw [hv7,hb])
          walk_at "go"
          refine ixL_of (SqL.of f1) (v:=V.str f7) (atI_of (by decide) rfl) ⟨_,DPut.k (k:=Sum.inr f7) (v:=V.bl false) f2 (by omega),?_⟩
          have sbm:SameBut md H7 (upd H7 md (.dK (putK mk7 (Sum.inr f7) (V.bl false)))):=fun b o e nb=>by rw [upd_ne nb];exact e
          have sm8:Same H (upd H7 md (.dK (putK mk7 (Sum.inr f7) (V.bl false)))):=same_upd sm7 hmd0
          have f18:=sbm _ _ f1 n1
          have f28:upd H7 md (.dK (putK mk7 (Sum.inr f7) (V.bl false))) md=some (.dK (putK mk7 (Sum.inr f7) (V.bl false))):=upd_same
          have hd8:=hd7.but sbm (.inr rfl) n3.symm
          have hki8:KeysIn (putK mk7 (Sum.inr f7) (V.bl false)) nm:=hki7.put (by rw [hnm];exact gi.s f7 (hs5 f7 (hp7.mem_iff.mp (List.mem_cons_self ..))))
          generalize upd H7 md (.dK (putK mk7 (Sum.inr f7) (V.bl false)))=H8 at sm8 f18 f28 hd8 ⊢
          clear sbm f1 f2 hd7 sm7 hgt
          rename_i rest5 hrest5
          subst hrest5
          walk_at "go"
          refine ⟨.inl ⟨rfl,_,SqL.of f18⟩,.inl ⟨rfl,_,SqL.of f18⟩,pop0_go f18 ⟨ly,_,_,rfl,rfl,upd_same,by rw [List.length_map];rw [List.length_cons]at hl7;omega,?_⟩⟩
          rw [upd_upd]
          exact ⟨_,t2,same_upd sm8 hly,⟨r7++[f7],dropK s7.k (Sum.inr f7)⟩,r7++[f7],by rw [upd_same,List.map_append];rfl,_,by rw [upd_ne n1.symm];exact f28,hd8.but (fun b o e nb=>by rw [upd_ne nb];exact e) (.inl rfl) n2.symm,t1.symm.trans hpk7,hi_turn hi7 hL7.1,t3,hki8,rfl⟩
       · refine while_d (m0:=0) (fun m σ H7=>σ=[some (V.str w3.s),some (V.ref a),some (V.ref rd),some (V.int n),some (V.ref ly),some (V.ref md),some (V.ref fo),some (V.str z)]∧H7=Hc) ⟨rfl,rfl⟩ ?_
         rintro m' σ H7 ⟨rfl,rfl⟩
         walk_at "go"
         rw [if_neg fun e=>hw (s_hd.mp e)]
         obtain ⟨f7,r7,rfl⟩:∃f7 r7,ln5=f7::r7:=by
          cases ln5 with
          | nil=>exact absurd rfl hln
          | cons x y=>exact ⟨x,y,rfl⟩
         exact key2 s5 f7 r7 mk5 _ rfl hm5 hL5 (fun e=>absurd e hw) smc fc1 fc2 hdc hki5
 · rintro σ H' ⟨ln,mk,qs,As,v7,rfl,sm,e1,e2,hd,hAl,hLw,hki⟩
   subst hrest
   rw [List.length_map]at hAl
   walk_at "go"
   refine q fo qs (fun j=>As.getD j []) H' sm ⟨hd.F,hd.n.trans hAl,fun j p hj=>?_⟩ fun j hj=>?_
   · have hj':j < As.length:=by rw [← hd.n];exact (List.getElem?_eq_some_iff.mp hj).1
     have:=(hd.q j p _ hj (List.getElem?_eq_getElem hj')).1
     rw [List.getD_eq_getElem?_getD,List.getElem?_eq_getElem hj']
     exact this
   · have hj':j < As.length:=by omega
     have hq:j < qs.length:=by rw [hd.n];exact hj'
     have:=(hd.q j _ _ (List.getElem?_eq_getElem hq) (List.getElem?_eq_getElem hj')).2.1
     rw [List.getD_eq_getElem?_getD,List.getElem?_eq_getElem hj']
     exact this
theorem Z6x{f:Addr}{fd:FuncData}(F:Fun K "_law_lack" "_law_lack" Z4j f fd)(T:Txt K mg Z4 Z3 Z7 Z5 Z0 Z1 Z2 xmake_oldest xmake_first xmake_halving xmake_farthest xmake_hand xmake_rows xmake_dues Z6):FnOk P w K mg base CX0 1 f fd ["_law_few","_law_more"] (sp62_llack):=by
 have sc:FnScope ["_law_few","_law_more","_law_at","_law_lacking"] ["_law_few","_law_more"] (defScope Z4j):=by walk_at "sc"
 refine F.ok sc (fun vs H Q E h=>?_) (fun cdv A outer s H vs Q E hr h=>?_)
 · obtain ⟨_,_,_,_,_,_,_,rfl,_⟩:=h;rfl
 obtain ⟨x,y,xs,es,A',B',n,rfl,b1,b2,hn,hA,q⟩:=h
 refine ⟨_,(@pss_cons _ _ _ _ _ (ps_for PassesOwn.never rfl (pi_range1 rfl T.Z11 (pa_cons (pe_callB call_len_seq rfl T.Z0e PySem.boot_len (pa_cons (pv 0) pa_nil)) pa_nil)) (pg_name (i:=2) sc.nd rfl (Or.inr rfl))
  (@pss_cons _ _ _ _ _ (ps_compI (i:=3) "_law_name" [1,2] sc.nd rfl rfl rfl rfl (pi_list (@pe_ix _ _ _ _ _ _ _ ix_list (pv 0) (pv 2) (fun _ _=>rfl))) (fun b=>(pt_cmpR op_notIn_seq (pv 0) (@pe_ix _ _ _ _ _ _ _ ix_list (pv 1) (pv 2) (fun _ _=>rfl)) (by with_unfolding_all rfl))) (fun b=>(pv 0)))
  (@pss_one _ _ _ (ps_if (pt_cmpR (op_neQ hr) (pv 3) (@pe_lst _ _ _ _ pa_nil) (nomark _))
   (@pss_one _ _ _ (@ps_ret _ _ _ _ (pe_tup (pa_cons (pv 2) (pa_cons (pe_callB call_sortS rfl T.Z1c (by first | rfl | decide+kernel) (pa_cons (pv 3) pa_nil)) pa_nil)))))
   pss_nil))))
  (@pss_one _ _ _ (@ps_ret _ _ _ _ pe_non))),?_⟩
 walk_at "st"
 have line:=line_val
 walk_at "go"
 rename_i rest hrest
 refine ⟨_,.inl (SqL.of b1.L),by omega,by rw [List.length_map,b1.N];omega,?_⟩
 rw [List.length_map,b1.N]
 refine forR_by (fun i σ H'=>∃v2 v3:Option V,σ=[some (V.ref x),some (V.ref y),v2,v3]∧Same H H'∧∀j,j < i→lackN (A' j) (B' j)=[]) ⟨none,none,rfl,Same.refl H,fun j hj=>absurd hj (Nat.not_lt_zero _)⟩ ?_ ?_
 · clear hrest
   rintro i σ H' hi ⟨v2,v3,rfl,sm,hall⟩
   obtain ⟨p,hp⟩:∃p,xs[i]?=some p:=⟨_,List.getElem?_eq_getElem (by rw [b1.N];exact hi)⟩
   obtain ⟨e,he⟩:∃e,es[i]?=some e:=⟨_,List.getElem?_eq_getElem (by rw [b2.N];exact hi)⟩
   have c1:=sm _ _ (b1.q i p hp)
   have c2:=sm _ _ (b2.q i e he)
   have c3:=sm _ _ b2.L
   have hAi:=hA i hi
   walk_at "go"
   refine ixL_of (SqL.of (sm _ _ b1.L)) (v:=V.ref p) (atI_nat (by rw [List.getElem?_map,hp];rfl)) ?_
   walk_at "go"
   refine ⟨⟨_,SqL.of c1⟩,compL_if (pS (B' i)) id (SqL.of c1) (by rw [List.length_map];omega) (fun b x H5 QT hx sm5 qt=>?_) (fun b x H5 Q' hx hp sm' q'=>?_) (fun D H5 hD sm5 hD5=>?_)⟩
   · obtain ⟨z,hz,rfl⟩:=List.mem_map.mp hx
     walk_at "go"
     refine ixL_of (SqL.of (sm5 _ _ c3)) (v:=V.ref e) (atI_nat (by rw [List.getElem?_map,he];rfl)) (ninT_go (SqL.of (sm5 _ _ c2)) ⟨_,rfl,?_⟩)
     have e9:(!decide (z∈B' i))=pS (B' i) (V.str z):=by show _=decide (z∉B' i);simp
     rw [e9]
     exact qt H5 (Same.refl _)
   · walk_at "go"
     exact q' _ (Same.refl _)
   · have hD6:H5 D=some (.lst ((lackN (A' i) (B' i)).map V.str)):=by rw [hD5,List.map_id,pS_filter]
     have hlen:(lackN (A' i) (B' i)).length≤60:=Nat.le_trans lack_len (by omega)
     rename_i rest hrest
     subst hrest
     walk_at "go"
     intro p hp
     refine ⟨_,eqQ_strs (xs:=lackN (A' i) (B' i)) (ys:=[]) (SqL.of (by rw [upd_ne (ne_of_none hD6 hp)];exact hD6)) (SqL.of upd_same),?_⟩
     have sm7:=(sm.trans sm5).trans (Same.new (o:= .lst []) hp)
     by_cases hL:lackN (A' i) (B' i)=[]
     · rw [if_neg (by simp [hL])]
       refine ⟨sm7,fun j hj=>?_⟩
       by_cases ej:j=i
       · rw [ej,hL]
       · exact hall j (by omega)
     · rw [if_pos (by simp [hL])]
       have hD7:upd H5 p (.lst []) D=some (.lst ((lackN (A' i) (B' i)).map V.str)):=by rw [upd_ne (ne_of_none hD6 hp)];exact hD6
       generalize upd H5 p (.lst [])=H7 at sm7 hD7 ⊢
       refine ⟨lackN (A' i) (B' i),SqL.of hD7,by omega,fun s2 zs hs2 hpm hso=>⟨by omega,fun t2 ht2=>?_⟩⟩
       have sm8:=(Same.new (H:=H7) (o:= .lst (zs.map V.str)) hs2)
       have sm9:=sm8.trans (Same.new (o:= .tup [V.int i,V.ref s2]) ht2)
       refine q _ _ (sm7.trans sm9) (.inr ⟨i,t2,s2,zs,hi,hall,hL,rfl,upd_same,(Same.new (o:= .tup [V.int i,V.ref s2]) ht2) _ _ upd_same,hpm,hso⟩)
 · rintro σ H' ⟨v2,v3,rfl,sm,hall⟩
   subst hrest
   walk_at "go"
   exact q _ _ sm (.inl ⟨rfl,hall⟩)
theorem Z5g{f:Addr}{fd:FuncData}(F:Fun K "_law_own_maker" "_law_own_maker" Zx f fd)(T:Txt K mg Z4 Z3 Z7 Z5 Z0 Z1 Z2 xmake_oldest xmake_first xmake_halving xmake_farthest xmake_hand xmake_rows xmake_dues Z6)(M:MkAt K f 1131)(HB:base.BuiltinsAt mg 1131):FnOk P w K mg base CX0 3 f fd ["_law_turn"] (sp62_own 1131 (M3.mk xmake_oldest xmake_first xmake_hand lam1)):=by
 have sc:FnScope ["_law_turn"] ["_law_turn"] (defScope Zx):=by walk_at "sc"
 refine F.okR M sc (fun vs H Q E h=>?_) (fun c A outer s H vs Q E hc hr h=>?_)
 · obtain ⟨_,rfl,_⟩:=h;rfl
 obtain ⟨tt,rfl,hT,q⟩:=h
 refine ⟨_,(pssr_one (psr_lam (i:=0) rfl rfl rfl hc (by decide) HB rfl rfl rfl)),?_⟩
 walk_at "st"
 walk_at "go"
 exact fun f2 cd ct H' hf sb h1 h2 h3=>q f2 (s.heap.objs.size+1) H' sb ⟨⟨_,cd,ct,h1,h2⟩,h3⟩
theorem Z5h{f:Addr}{fd:FuncData}(F:Fun K "_law_lack_good" "_law_lack_good" Z1x f fd)(T:Txt K mg Z4 Z3 Z7 Z5 Z0 Z1 Z2 xmake_oldest xmake_first xmake_halving xmake_farthest xmake_hand xmake_rows xmake_dues Z6)(Z45:Def P w K mg base CX0 1 "_law_whole" ["_law_found"] (sp41_whole)):FnOk P w K mg base CX0 2 f fd ["_law_found","_law_due"] (sp62_good):=by
 have sc:FnScope ["_law_found","_law_due"] ["_law_found","_law_due"] (defScope Z1x):=by walk_at "sc"
 refine F.ok sc (fun vs H Q E h=>?_) (fun cdv A outer s H vs Q E hr h=>?_)
 · obtain ⟨_,_,rfl,_⟩:=h;rfl
 obtain ⟨r1,r2,rfl,h2,q⟩:=h
 refine ⟨_,(@pss_cons _ _ _ _ _ (ps_if (pt_cmpR op_isN (pv 1) pe_non (nomark _))
  (@pss_one _ _ _ (@ps_ret _ _ _ _ (pe_cmpR op_isN (pv 0) pe_non (nomark _))))
  pss_nil)
  (@pss_cons _ _ _ _ _ (ps_if (PW.pt (pw_or (pt_not (pt_val (pe_callB call_isinst rfl T.Ze (by first | rfl | decide+kernel) (pa_cons (pv 0) (pa_cons (pe_bltn (v:= .ty "tuple") rfl T.Z3g (by first | rfl | decide+kernel) rfl) pa_nil))))) (pw_or (pt_cmpR op_ne (pe_callB call_len_seq rfl T.Z0e PySem.boot_len (pa_cons (pv 0) pa_nil)) pe_int (nomark _)) (pw_or (pt_not (pt_val (pe_callD Z45 hr rfl pass0 (pa_cons (@pe_ix _ _ _ _ _ _ _ ix_tup (pv 0) pe_int (fun _ _=>rfl)) pa_nil)))) (pw_or1 (pt_not (pt_val (pe_callB call_isinst rfl T.Ze (by first | rfl | decide+kernel) (pa_cons (@pe_ix _ _ _ _ _ _ _ ix_tup (pv 0) pe_int (fun _ _=>rfl)) (pa_cons (pe_bltn (v:= .ty "list") rfl T.Z14 (by first | rfl | decide+kernel) rfl) pa_nil))))))))))
   (@pss_one _ _ _ (@ps_ret _ _ _ _ pe_bl))
   pss_nil)
  (@pss_one _ _ _ (@ps_ret _ _ _ _ (pe_cmpR (op_orR op_eq (op_eqN 1 hr)) (pv 0) (pv 1) (nomark _)))))),?_⟩
 walk_at "st"
 rcases h2 with ⟨rfl,rfl⟩ | ⟨i,t,t',l,l',zs,rfl,rfl,h3,h4,h5,h6⟩
 · walk_at "go"
   exact q H (Same.refl _)
 · walk_at "go"
   refine ⟨_,.inr (SqT.of h3),?_⟩
   rw [if_neg (by simp)]
   refine ixT_of (SqT.of h3) (v:=V.int i) rfl ?_
   walk_at "go"
   refine ixT_of (SqT.of h3) (v:=V.ref l) (atI_nat (j:=1) rfl) (isi_go (isi_lstl h5) ?_)
   rw [if_neg (by decide)]
   rename_i rest hrest
   subst hrest
   walk_at "go"
   exact ⟨two_like h3 h4 h5 h6,q H (Same.refl _)⟩
theorem Z77{f:Addr}{fd:FuncData}(F:Fun K "law" "law" Z2a f fd)(T:Txt K mg Z4 Z3 Z7 Z5 Z0 Z1 Z2 xmake_oldest xmake_first xmake_halving xmake_farthest xmake_hand xmake_rows xmake_dues Z6)(Zf:Def P w K mg base CX0 1 "_law_cell_at" ["_law_script","_law_k"] (sp_cell K))(Z46:Def P w K mg base CX0 1 "_law_names" ["_law_cell","_law_many"] (sp41_names))(Z4p:Def P w K mg base CX0 2 "_law_room" ["_law_cell","_law_k"] (sp41_lroom))(Z3o:Def P w K mg base CX0 1 "_law_places" ["_law_cell","_law_widest","_law_total"] (sp41_lplaces))(Z2q:DefI P w K mg base CX0 4 "Stock" Z4 ["self","rows"] (sp_initG K Z4))(Z0f:Def P w K mg base CX0 1 "_law_word" ["_law_turn","_law_asks"] (sp62_word K))(Z3p:Def P w K mg base CX0 2 "maker_of" ["word"] (sp62_makerOf (M3.mk xmake_oldest xmake_first xmake_hand lam1)))(Z26:Def P w K mg base CX0 3 "_law_own_maker" ["_law_turn"] (sp62_own 1131 (M3.mk xmake_oldest xmake_first xmake_hand lam1)))(Z3q:Def P w K mg base CX0 1 "_law_held" ["_law_word_here","_law_asks","_law_rooms","_law_places_here"] (sp62_held K (C3.mk Z0 Z1 Z2)))(Z4q:Def P w K mg base CX0 1 "_law_lack" ["_law_few","_law_more"] (sp62_llack))(Z1a:Def P w K mg base CX0 11 "first_lack" ["stock","asks","lesser","greater","make"] (sp62_lack K Z4 (C3.mk Z0 Z1 Z2) (M3.mk xmake_oldest xmake_first xmake_hand lam1)))(Z27:Def P w K mg base CX0 2 "_law_lack_good" ["_law_found","_law_due"] (sp62_good)):FnOk P w K mg base CX0 12 f fd ["_law_script"] (sp62_law 1131 K):=by
 have sc:FnScope ["_law_script","_law_many","_law_names_here","_law_rooms","_law_k","_law_stock","_law_asks","_law_lesser","_law_more","_law_greater","_law_word_here","_law_make","_law_due","_law_handed","_law_found"] ["_law_script"] (defScope Z2a):=by walk_at "sc"
 refine F.ok sc (fun vs H Q E h=>?_) (fun cdv A outer s H vs Q E hr h=>?_)
 · obtain ⟨_,_,rfl,_⟩:=h;rfl
 obtain ⟨a,ns,rfl,hS,hl,hT,q⟩:=h
 refine ⟨_,(@pss_cons _ _ _ _ _ (ps_set (i:=1) sc.nd rfl (Or.inr rfl) (pe_op op_add pe_int (pe_op op_mod (pe_callD Zf hr rfl pass0 (pa_cons (pv 0) (pa_cons pe_int pa_nil))) pe_int)))
  (@pss_cons _ _ _ _ _ (ps_set (i:=2) sc.nd rfl (Or.inr rfl) (pe_callD Z46 hr rfl pass0 (pa_cons (pe_callD Zf hr rfl pass0 (pa_cons (pv 0) (pa_cons pe_int pa_nil))) (pa_cons (pv 1) pa_nil))))
  (@pss_cons _ _ _ _ _ (ps_set (i:=3) sc.nd rfl (Or.inr rfl) pe_dnewK)
  (@pss_cons _ _ _ _ _ (ps_for PassesOwn.never rfl (pi_range1 rfl T.Z11 (pa_cons (pv 1) pa_nil)) (pg_name (i:=4) sc.nd rfl (Or.inl rfl))
   (@pss_one _ _ _ (ps_dput (hu_of hr) (pv 3) (@pe_ix _ _ _ _ _ _ _ ix_list (pv 2) (pv 4) (fun _ _=>rfl)) (pe_callD Z4p hr rfl pass0 (pa_cons (pe_callD Zf hr rfl pass0 (pa_cons (pv 0) (pa_cons pe_int pa_nil))) (pa_cons (pv 4) pa_nil))) rfl)))
  (@pss_cons _ _ _ _ _ (ps_set (i:=5) sc.nd rfl (Or.inl rfl) (pe_makeS Z2q hr rfl (passS pass0) (pa_cons (pe_comp1 "_law_name" [3] rfl rfl (pi_list (pv 2)) (fun b=>(pe_tup (pa_cons (pv 0) (pa_cons pe_int (pa_cons (pe_dget (hu_of hr) (pv 1) (pv 0) (fun _ _=>rfl)) pa_nil)))))) pa_nil)))
  (@pss_cons _ _ _ _ _ (ps_comp1 (i:=6) "_law_cell" [2,1] sc.nd rfl rfl rfl rfl (pi_list (pe_slice sl_list (pv 0) (po_some pe_int) (po_some pe_int))) (fun b=>(@pe_ix _ _ _ _ _ _ _ ix_list (pv 1) (pe_op op_mod (pv 0) (pv 2)) (fun _ _=>rfl))))
  (@pss_cons _ _ _ _ _ (ps_set (i:=7) sc.nd rfl (Or.inl rfl) (pe_callD Z3o hr rfl pass0 (pa_cons (pe_callD Zf hr rfl pass0 (pa_cons (pv 0) (pa_cons pe_int pa_nil))) (pa_cons (pe_callB (call_maxL rfl) rfl T.Z4u (by first | rfl | decide+kernel) (pa_cons (pe_op op_cat (@pe_lst _ _ _ _ (pa_cons pe_int pa_nil)) (pe_comp1 "_law_name" [3] rfl rfl (pi_list (pv 6)) (fun b=>(pe_dget (hu_of hr) (pv 1) (pv 0) (fun _ _=>rfl))))) pa_nil)) (pa_cons (pe_callB (call_sumV rfl) rfl T.Z2v (by first | rfl | decide+kernel) (pa_cons (pe_bm0 PySem.F.plainAttrs_dict PySem.F.slot_dict_values PySem.F.type_dict_values mt_values (pv 3)) pa_nil)) pa_nil)))))
  (@pss_cons _ _ _ _ _ (ps_set (i:=8) sc.nd rfl (Or.inl rfl) (pe_op op_mod (pe_op op_fdiv (pe_callD Zf hr rfl pass0 (pa_cons (pv 0) (pa_cons pe_int pa_nil))) pe_int) pe_int))
  (@pss_cons _ _ _ _ _ (ps_if (pt_cmpR op_eq (pe_op op_mod (pe_callD Zf hr rfl pass0 (pa_cons (pv 0) (pa_cons pe_int pa_nil))) pe_int) pe_int (nomark _))
   (@pss_one _ _ _ (ps_set (i:=8) sc.nd rfl (Or.inl rfl) (pe_op op_mod (pe_op op_fdiv (pe_callD Zf hr rfl pass0 (pa_cons (pv 0) (pa_cons pe_int pa_nil))) pe_int) (pe_op op_add (pe_callB (call_sumV rfl) rfl T.Z2v (by first | rfl | decide+kernel) (pa_cons (pe_bm0 PySem.F.plainAttrs_dict PySem.F.slot_dict_values PySem.F.type_dict_values mt_values (pv 3)) pa_nil)) pe_int))))
   pss_nil)
  (@pss_cons _ _ _ _ _ (ps_set (i:=9) sc.nd rfl (Or.inl rfl) (pe_callB (call_min2 rfl) rfl T.Z3h (by first | rfl | decide+kernel) (pa_cons (pe_op op_add (pv 7) (pv 8)) (pa_cons (pe_op op_pow pe_int pe_int) pa_nil))))
  (@pss_cons _ _ _ _ _ (ps_set (i:=10) sc.nd rfl (Or.inl rfl) (pe_callD Z0f hr rfl pass0 (pa_cons (pe_callD Zf hr rfl pass0 (pa_cons (pv 0) (pa_cons pe_int pa_nil))) (pa_cons (@pe_lst _ _ _ _ pa_nil) pa_nil))))
  (@pss_cons _ _ _ _ _ (ps_set (i:=11) sc.nd rfl (Or.inl rfl) (pe_callD Z3p hr rfl pass0 (pa_cons (pv 10) pa_nil)))
  (@pss_cons _ _ _ _ _ (ps_if (pt_cmpR op_eq (pe_op op_mod (pe_op op_fdiv (pe_callD Zf hr rfl pass0 (pa_cons (pv 0) (pa_cons pe_int pa_nil))) pe_int) pe_int) pe_int (nomark _))
   (@pss_cons _ _ _ _ _ (ps_set (i:=10) sc.nd rfl (Or.inl rfl) (pe_callD Z0f hr rfl pass0 (pa_cons (pe_callD Zf hr rfl pass0 (pa_cons (pv 0) (pa_cons pe_int pa_nil))) (pa_cons (pv 6) pa_nil))))
   (@pss_one _ _ _ (ps_set (i:=11) sc.nd rfl (Or.inl rfl) (pe_callD Z26 hr rfl pass0 (pa_cons (pe_callD Zf hr rfl pass0 (pa_cons (pv 0) (pa_cons pe_int pa_nil))) pa_nil)))))
   pss_nil)
  (@pss_cons _ _ _ _ _ (ps_set (i:=12) sc.nd rfl (Or.inl rfl) (pe_callD Z4q hr rfl pass0 (pa_cons (pe_callD Z3q hr rfl pass0 (pa_cons (pv 10) (pa_cons (pv 6) (pa_cons (pv 3) (pa_cons (pv 7) pa_nil))))) (pa_cons (pe_callD Z3q hr rfl pass0 (pa_cons (pv 10) (pa_cons (pv 6) (pa_cons (pv 3) (pa_cons (pv 9) pa_nil))))) pa_nil))))
  (@pss_cons _ _ _ _ _ (ps_set (i:=13) sc.nd rfl (Or.inl rfl) (pe_callTy call_list_of rfl T.Z14 (by first | rfl | decide+kernel) (pa_cons (pv 6) pa_nil)))
  (@pss_cons _ _ _ _ _ (ps_set (i:=14) sc.nd rfl (Or.inl rfl) (pe_callD Z1a hr rfl pass0 (pa_cons (pv 5) (pa_cons (pv 13) (pa_cons (pv 7) (pa_cons (pv 9) (pa_cons (pv 11) pa_nil)))))))
  (@pss_cons _ _ _ _ _ (ps_if (PW.pt (pw_or (pt_not (pt_val (pe_callD Z27 hr rfl pass0 (pa_cons (pv 14) (pa_cons (pv 12) pa_nil))))) (pw_or1 (pt_cmpR (op_neQ hr) (pv 13) (pv 6) (nomark _)))))
   (@pss_one _ _ _ (@ps_ret _ _ _ _ pe_bl))
   pss_nil)
  (@pss_one _ _ _ (@ps_ret _ _ _ _ (pe_cmpR (op_orR op_eq (op_eqN 1 hr)) (pe_callD Z1a hr rfl pass0 (pa_cons (pv 5) (pa_cons (pv 13) (pa_cons (pv 7) (pa_cons (pv 9) (pa_cons (pv 11) pa_nil)))))) (pv 12) (nomark _))))))))))))))))))))),?_⟩
 walk_at "st"
 have line:=line_val
 walk_at "go"
 obtain ⟨m,hm⟩:∃m:Nat,(m:Int)=1+ns.getD 2 0 % 9:=⟨(1+ns.getD 2 0 % 9).toNat,by omega⟩
 have hm1:1≤m:=by omega
 have hm9:m≤9:=by omega
 rw [← hm]
 refine ⟨m,rfl,hm9,fun np ys H1 hnp sm1 hny hy1 hy2 ynd hyn=>?_⟩
 clear hm
 have hS1:=sm1.seq hS
 have hT1:=sm1 _ _ hT
 rename_i rest hrest
 subst hrest
 walk_at "go"
 intro ro hro
 have sm2:Same H1 (upd H1 ro (.dK [])):=Same.new hro
 have g1:upd H1 ro (.dK []) ro=some (.dK []):=upd_same
 generalize upd H1 ro (.dK [])=H2 at sm2 g1 ⊢
 rename_i rest hrest
 subst hrest
 walk_at "go"
 rename_i rest hrest
 refine forR_by (fun i σ H'=>∃(R:Str→Int) (v4:Option V),σ=[some (V.ref a),some (V.int m),some (V.ref np),some (V.ref ro),v4,none,none,none,none,none,none,none,none,none,none]∧Same H1 H'∧H' ro=some (.dK (kvN (ys.take i) R))∧(∀y∈ys.take i,1≤R y∧R y≤1000)) ⟨fun _=>0,none,rfl,sm2,g1,fun y hy=>by cases hy⟩ ?_ ?_
 · clear hrest
   rintro i σ H' hi ⟨R,v4,rfl,sm,e5,e6⟩
   have hil:i < ys.length:=by omega
   have hny':=sm _ _ hny
   have htk:ys.take (i+1)=ys.take i++[ys.getD i Str.empty]:=by rw [List.take_succ,getD_s hil];rfl
   have hyn':ys.getD i Str.empty∉ys.take i:=fun h=>by
    have h2:(ys.take (i+1)).Nodup:=List.Nodup.sublist (List.take_sublist _ _) ynd
    rw [htk,List.nodup_append]at h2
    exact h2.2.2 _ h _ List.mem_cons_self rfl
   have hg:atI (ys.map V.str) (i:Int)=some (V.str (ys.getD i Str.empty)):=atI_nat (by rw [List.getElem?_map,getD_s hil];rfl)
   have hlen:(kvN (ys.take i) R).length≤9:=by rw [kvN_len,List.length_take];omega
   rw [htk]
   walk_at "go"
   refine ⟨ns,sm.seq hS1,by decide,hl,fun rv hr0 hr1=>ixL_of (SqL.of hny') hg ?_⟩
   have hputR:=DPut.k (k:=Sum.inr (ys.getD i Str.empty)) (v:=V.int rv) e5 (by omega)
   rw [kvN_snoc hyn']at hputR
   refine ⟨_,hputR,?_⟩
   refine ⟨same_upd sm hro,upF R (ys.getD i Str.empty) rv,upd_same,fun y hy=>?_⟩
   rcases List.mem_append.mp hy with h | h
   · rw [upF_ne (fun e=>hyn' (by rw [← e];exact h))];exact e6 y h
   · rw [List.mem_singleton.mp h,upF_same];exact ⟨hr0,hr1⟩
 · rintro σ H3 ⟨R,v4,rfl,sm,e5,e6⟩
   rw [List.take_of_length_le (by omega)]at e5 e6
   have hny3:=sm _ _ hny
   have hS3:=sm.seq hS1
   have hT3:=sm _ _ hT1
   clear hny hS hS1 sm1 sm2 g1 sm hnp hro
   subst hrest
   walk_at "go"
   refine ⟨⟨_,SqL.of hny3⟩,compL_mk (fun i y H=>∃t,y=V.ref t∧SqT K H t [.str (ys.getD i Str.empty),.int 1,.int (R (ys.getD i Str.empty))]) (fun _=>True) (fun i y H H' l zs ⟨t,e,h⟩ hl sb=>⟨t,e,SqT.butL sb hl h⟩) (SqL.of hny3) (by rw [List.length_map];omega) (fun b i x H' Q' hx sm' _ q'=>?_) (fun D yl H4 hD sm4 hyD hyl hall hG=>?_)⟩
   · rw [List.getElem?_map]at hx
     cases hz:ys[i]? with
     | none=>rw [hz]at hx;cases hx
     | some z=>
     rw [hz]at hx
     cases hx
     have ez:ys.getD i Str.empty=z∧True:=⟨by rw [List.getD_eq_getElem?_getD,hz];rfl,trivial⟩
     rw [ez.1]at q'
     walk_at "go"
     refine ⟨V.int (R z),?_,by omega,fun t ht=>q' _ _ (Same.new ht) ⟨t,rfl,SqT.of upd_same⟩ trivial⟩
     have:=DGet.k (k:=Sum.inr z) (sm' _ _ e5)
     rw [kvN_val (List.mem_of_getElem? hz)]at this
     exact this
   · have ey:yl=(yl.map aOf).map V.ref:=by
      rw [List.map_map]
      refine (List.map_id yl).symm.trans (List.map_congr_left fun y hy=>?_)
      obtain ⟨i,hi⟩:=List.mem_iff_getElem?.mp hy
      obtain ⟨t,rfl,_⟩:=hall i y hi
      rfl
     rw [List.length_map]at hyl
     have rows:=rows41 (K:=K) (C:=fun _=>1) (R:=R) (as:=yl.map aOf) (by rw [← ey];exact hyD) (by rw [List.length_map];exact hyl) (by omega) ynd hyn (fun y hy=>⟨by decide,by decide,(e6 y hy).1,(e6 y hy).2⟩) (fun i c h=>by
      rw [List.getElem?_map]at h
      cases hy':yl[i]? with
      | none=>rw [hy']at h;cases h
      | some y=>
       rw [hy']at h
       obtain ⟨t,rfl,hs⟩:=hall i y hy'
       cases h
       exact hs)
     have hny4:=sm4 _ _ hny3
     have hS4:=sm4.seq hS3
     have hT4:=sm4 _ _ hT3
     have gR4:=sm4 _ _ e5
     clear hall hyD ey hyl hny3 hS3 hD sm4 e5 hG
     intro st dx hst hdx ne1
     obtain ⟨rws,r1,r2,r3,r4⟩:=rows.init
     have smx:Same H4 (upd (upd H4 dx (.own st)) st (.ins Z4 dx [])):=fun b o e=>by rw [upd_ne (ne_of_none e hst),upd_ne (ne_of_none e hdx)];exact e
     refine ⟨dx,D,rfl,upd_same,rws,by rw [r1];exact smx.seq rows.l,fun t ht=>smx.tup (r2 t ht),r3,fun H5 sb5 stk=>?_⟩
     rw [r4]at stk
     have sm5:Same H4 H5:=same_made hst hdx sb5
     have hny5:=sm5 _ _ hny4
     have hS5:=sm5.seq hS4
     have hT5:=sm5 _ _ hT4
     have gR5:=sm5 _ _ gR4
     clear r1 r2 r3 r4 smx sb5 rows hst hdx ne1 sm5 hny4 hS4 gR4
     have htn:(tsF (fun _=>1) R ys).map (·.1)=ys∧True:=⟨tsF_names,trivial⟩
     have htr:∀y∈ys,rm (tsF (fun _=>1) R ys) y=R y:=fun y hy=>(tsF_cst ynd hy).2
     have htl:(tsF (fun _=>1) R ys).length≤60:=by rw [tsF_len];omega
     generalize tsF (fun _=>1) R ys=ts at stk htn htr htl
     rename_i rest hrest
     subst hrest
     walk_at "go"
     refine ⟨_,hS5,fun cp hcp=>?_⟩
     obtain ⟨cs,hcs,hcl⟩:=cut_anyI ns (some 6) (some 66)
     rw [hcs]
     clear hcs
     have smc:Same H5 (upd H5 cp (.lst (cs.map V.int))):=Same.new hcp
     refine ⟨⟨_,SqL.of upd_same⟩,?_⟩
     refine compL_pure (ask1 ys m) (SqL.of upd_same) (by rw [List.length_map];omega) (fun b x H' Q' hx sm' q'=>?_) fun D7 hD7=>?_
     · obtain ⟨c,hc,rfl⟩:=List.mem_map.mp hx
       have hk0:=Int.emod_nonneg c (show (m:Int)≠0 by omega)
       have hk1:=Int.emod_lt_of_pos c (show (0:Int) < m by omega)
       walk_at "go"
       refine ixL_of (SqL.of (sm' _ _ (smc _ _ hny5))) (v:=V.str (ys.getD (c % (m:Int)).toNat Str.empty)) ?_ q'
       rw [show c % (m:Int)=(((c % (m:Int)).toNat:Nat):Int) by omega,Int.toNat_natCast]
       exact atI_nat (by rw [List.getElem?_map,getD_s (by omega)];rfl)
     rw [ask1_list]
     have smD:=smc.trans (Same.new (o:= .lst ((cs.map (ask1S ys m)).map V.str)) hD7)
     have hzin:∀y∈cs.map (ask1S ys m),y∈ys:=fun y hy=>by
      obtain ⟨c,_,rfl⟩:=List.mem_map.mp hy
      have hk0:=Int.emod_nonneg c (show (m:Int)≠0 by omega)
      have hk1:=Int.emod_lt_of_pos c (show (0:Int) < m by omega)
      exact List.mem_of_getElem? (getD_s (by omega))
     have hzl:(cs.map (ask1S ys m)).length≤200:=by rw [List.length_map];omega
     have hap:upd (upd H5 cp (.lst (cs.map V.int))) D7 (.lst ((cs.map (ask1S ys m)).map V.str)) D7=some (.lst ((cs.map (ask1S ys m)).map V.str)):=upd_same
     generalize upd (upd H5 cp (.lst (cs.map V.int))) D7 (.lst ((cs.map (ask1S ys m)).map V.str))=H6 at smD hap ⊢
     generalize cs.map (ask1S ys m)=zs at hzin hzl hap
     have hS6:=smD.seq hS5
     have hT6:=smD _ _ hT5
     have gR6:=smD _ _ gR5
     have stk6:=StockAt.same smD stk
     clear hD7 smc hcp hcl hny5 hS5 gR5 stk smD
     rename_i rest hrest
     subst hrest
     walk_at "go"
     intro lp hlp
     have sm7:Same H6 (upd H6 lp (.lst [V.int 1])):=Same.new hlp
     have hlp7:upd H6 lp (.lst [V.int 1]) lp=some (.lst [V.int 1]):=upd_same
     generalize upd H6 lp (.lst [V.int 1])=H7 at sm7 hlp7 ⊢
     refine ⟨⟨_,SqL.of (sm7 _ _ hap)⟩,?_⟩
     refine compL_pure (N41.rmV R) (SqL.of (sm7 _ _ hap)) (by rw [List.length_map];omega) (fun b x H' Q' hx sm' q'=>?_) fun D6 hD6=>?_
     · obtain ⟨z,hz,rfl⟩:=List.mem_map.mp hx
       walk_at "go"
       refine ⟨_,?_,q'⟩
       have:=DGet.k (k:=Sum.inr z) (sm' _ _ (sm7 _ _ gR6))
       rw [kvN_val (hzin z hz)]at this
       exact this
     rw [N41.rmV_list]
     have sm7':Same H7 (upd H7 D6 (.lst ((zs.map R).map V.int))):=Same.new hD6
     refine ⟨lp,D6,_,_,rfl,rfl,sm7' _ _ hlp7,upd_same,by rw [List.length_map,List.length_map];show 1+_≤_;omega,fun c6 hc6=>⟨c6,rfl,1::zs.map R,SqL.of upd_same,by simp,fun wv hwm hwx=>?_⟩⟩
     have hw1:1≤wv:=hwx 1 List.mem_cons_self
     have hwz:∀z∈zs,R z≤wv:=fun z hz=>hwx _ (List.mem_cons_of_mem _ (List.mem_map.mpr ⟨z,hz,rfl⟩))
     have hw2:wv≤1000:=by
      rcases List.mem_cons.mp hwm with h | h
      · omega
      · obtain ⟨z,hz,rfl⟩:=List.mem_map.mp h
        exact (e6 z (hzin z hz)).2
     have sm8:=(sm7.trans sm7').trans (Same.new (o:= .lst ([V.int 1]++(zs.map R).map V.int)) hc6)
     generalize upd (upd H7 D6 (.lst ((zs.map R).map V.int))) c6 (.lst ([V.int 1]++(zs.map R).map V.int))=H8 at sm8 ⊢
     have gR8:=sm8 _ _ gR6
     have hS8:=sm8.seq hS6
     have hT8:=sm8 _ _ hT6
     have hap8:=sm8 _ _ hap
     have stk8:=StockAt.same sm8 stk6
     clear sm7 hlp7 sm7' hD6 hc6 hwm hwx hlp sm8 gR6 hS6 hap stk6
     have hsum:=sum_in (l:=ys.map R) (M:=1000) (by decide) (fun t ht=>by obtain ⟨y,hy,rfl⟩:=List.mem_map.mp ht;have:=e6 y hy;omega)
     rw [List.length_map]at hsum
     refine ⟨.inr (.inr (.inl ⟨rfl,.inl ⟨_,gR8⟩⟩)),_,gR8,fun vv hvv=>⟨ro,upd_same,_,(Same.new hvv) _ _ gR8,ys.map R,kvN_vals,hw1,hw2,hsum.1,by have:=hsum.2;omega,fun P hP1 hP2=>?_⟩⟩
     have sm9:Same H8 (upd H8 vv (viewO vv ro)):=Same.new hvv
     generalize upd H8 vv (viewO vv ro)=H9 at sm9 ⊢
     have gR9:=sm9 _ _ gR8
     have hS9:=sm9.seq hS8
     have hT9:=sm9 _ _ hT8
     have hap9:=sm9 _ _ hap8
     have stk9:=StockAt.same sm9 stk8
     clear gR8 hS8 hap8 stk8 sm9 hvv
     have hzR:∀z∈zs,rm ts z≤P:=fun z hz=>by rw [htr z (hzin z hz)];exact Int.le_trans (hwz z hz) hP1
     have hP0:1≤P:=Int.le_trans hw1 hP1
     clear hwz hP1 hw2 hw1
     rename_i rest hrest
     subst hrest
     walk_at "go"
     rename_i rest hrest
     have key:∀(mo:Int) (H10:Hp),0≤mo→Same H9 H10→rest [some (V.ref a),some (V.int ↑m),some (V.ref np),some (V.ref ro),v4,some (V.ref st),some (V.ref D7),some (V.int P),some (V.int mo),none,none,none,none,none,none] H10:=by
      intro mo H10 hmo sm10
      have hap10:=sm10 _ _ hap9
      have stk10:=StockAt.same sm10 stk9
      have gR10:=sm10 _ _ gR9
      have hT10:=sm10 _ _ hT9
      have hS10:=sm10.seq hS9
      clear hap9 stk9 gR9 hS9 hT9 sm10 hsum
      have hTn:(ts.map (·.1)).Nodup:=by rw [htn.1];exact ynd
      have hTi:∀y∈zs,y∈ts.map (·.1):=fun y hy=>by rw [htn.1];exact hzin y hy
      obtain ⟨G,hG⟩:∃G:Int,(if (10:Int) ^ 6 < P+mo then (10:Int) ^ 6 else P+mo)=G∧True:=⟨_,rfl,trivial⟩
      have hGP:P≤G∧G≤1000000:=by rw [← hG.1];split <;> omega
      have hG0:1≤G:=by omega
      have hG2:G≤1000000:=hGP.2
      have hzG:∀z∈zs,rm ts z≤G:=fun z hz=>Int.le_trans (hzR z hz) hGP.1
      subst hrest
      walk_at "go"
      intro p hp
      refine ⟨[],SqL.of upd_same,fun H11 sm11=>?_⟩
      have smA:=(Same.new hp).trans sm11
      have hap11:=smA _ _ hap10
      have stk11:=StockAt.same smA stk10
      have gR11:=smA _ _ gR10
      have hT11:=smA _ _ hT10
      have hS11:=smA.seq hS10
      rw [hG.1]
      clear hG smA sm11 hp hap10 stk10 gR10 hT10 hS10
      have ew0:wOf (ns.getD 5 0+(([]:List V).length:Int))=wOf (ns.getD 5 0)∧True:=⟨by simp,trivial⟩
      rw [ew0.1]
      clear ew0
      rename_i rest hrest
      subst hrest
      walk_at "go"
      refine ⟨_,rfl,?_⟩
      rename_i rest hrest
      subst hrest
      walk_at "go"
      rename_i rest hrest
      have key3:∀(b:Mk3) (H12:Hp),Mk3.J (M3.mk xmake_oldest xmake_first xmake_hand lam1) b H12→H12 D7=some (.lst (zs.map V.str))→StockAt K Z4 H12 st ts→H12 ro=some (.dK (kvN ys R))→rest [some (V.ref a),some (V.int ↑m),some (V.ref np),some (V.ref ro),v4,some (V.ref st),some (V.ref D7),some (V.int P),some (V.int mo),some (V.int G),some (V.str (Mk3.w zs.length b).s),some (V.ref (Mk3.f (M3.mk xmake_oldest xmake_first xmake_hand lam1) b)),none,none,none] H12:=by
       intro b H12 hJ12 hap12 stk12 gR12
       subst hrest
       walk_at "go"
       have hR0:∀y∈ys,0≤R y∧R y≤1000:=fun y hy=>⟨by have:=(e6 y hy).1;omega,(e6 y hy).2⟩
       have hRP:∀y∈zs,R y≤P:=fun y hy=>by rw [← htr y (hzin y hy)];exact hzR y hy
       have hRG:∀y∈zs,R y≤G:=fun y hy=>by rw [← htr y (hzin y hy)];exact hzG y hy
       refine ⟨Mk3.w zs.length b,rfl,ys,zs,SqL.of hap12,hzl,R,gR12,ts,htn.1.symm,htr,hR0,htl,hzin,hRP,fun x1 xs1 A1 H13 sm13 be1 hp1=>?_⟩
       refine ⟨Mk3.w zs.length b,rfl,ys,zs,SqL.of (sm13 _ _ hap12),hzl,R,sm13 _ _ gR12,ts,htn.1.symm,htr,hR0,htl,hzin,hRG,fun x2 xs2 A2 H14 sm14 be2 hp2=>?_⟩
       have hlA:∀i,i < zs.length→(A1 i).length≤60:=fun i hi=>by
        rw [(hp1 i hi).length_eq]
        exact Nat.le_trans (l6_le invq hTi hzR (show i+1≤zs.length by omega)) htl
       refine ⟨xs1,xs2,A1,A2,zs.length,be1.same sm14,be2,hzl,hlA,fun r H15 sm15 hr15=>?_⟩
       have smB:=(sm13.trans sm14).trans sm15
       have hap15:=smB _ _ hap12
       have stk15:=StockAt.same smB stk12
       have hJ15:=Mk3.J.same smB hJ12
       have hpA:∀i,i < zs.length→(lk (TQ (C3.mk Z0 Z1 Z2) (Mk3.w zs.length b)) (zq (C3.mk Z0 Z1 Z2) (Mk3.w zs.length b)) ts P G zs i).Perm (lackN (A1 i) (A2 i)):=fun i hi=>(lack_perm (hp1 i hi) (hp2 i hi)).symm
       clear be1 be2 hp1 hp2 sm13 sm14 sm15 smB hap12 stk12 gR12 hJ12 hlA
       rename_i rest hrest
       subst hrest
       walk_at "go"
       refine ⟨_,.inl (SqL.of hap15),fun hh hhn=>?_⟩
       have smh:Same H15 (upd H15 hh (.lst (zs.map V.str))):=Same.new hhn
       have hha:upd H15 hh (.lst (zs.map V.str)) hh=some (.lst (zs.map V.str)):=upd_same
       have hap16:=smh _ _ hap15
       have stk16:=StockAt.same smh stk15
       have hJ16:=Mk3.J.same smh hJ15
       have hr16:=hr15.same smh
       generalize upd H15 hh (.lst (zs.map V.str))=H16 at smh hha hap16 stk16 hJ16 hr16 ⊢
       clear smh hap15 stk15 hJ15 hr15 hhn
       rename_i rest hrest
       subst hrest
       walk_at "go"
       refine ⟨b,rfl,hJ16,ts,zs,⟨stk16,hTn,htl,hha,hzl,hTi,hzR,hP0,hP2⟩,hGP.1,hG2,fun r2 H17 sm17 hr2=>?_⟩
       have hr17:=hr16.same sm17
       have two:=lack_two hr2 hr17 hpA
       have hha17:=sm17 _ _ hha
       have hap17:=sm17 _ _ hap16
       have stk17:=StockAt.same sm17 stk16
       have hJ17:=Mk3.J.same sm17 hJ16
       clear sm17 hr16 hha hap16 stk16 hJ16 hr2
       rename_i rest hrest
       subst hrest
       walk_at "go"
       intro H18 sm18
       refine ⟨_,eqQ_strs (SqL.of (sm18 _ _ hha17)) (SqL.of (sm18 _ _ hap17)),?_⟩
       rw [if_neg (by simp)]
       have hr18:=hr17.same sm18
       have hha18:=sm18 _ _ hha17
       have stk18:=StockAt.same sm18 stk17
       have hJ18:=Mk3.J.same sm18 hJ17
       clear two sm18 hr17 hha17 hap17 stk17 hJ17
       rename_i rest hrest
       subst hrest
       walk_at "go"
       refine ⟨b,rfl,hJ18,ts,zs,⟨stk18,hTn,htl,hha18,hzl,hTi,hzR,hP0,hP2⟩,hGP.1,hG2,fun r3 H19 sm19 hr3=>?_⟩
       have two:=lack_two hr3 (hr18.same sm19) hpA
       rcases two with ⟨rfl,rfl⟩ | ⟨i,t,t',l,l',zs',rfl,rfl,h3,h4,h5,h6⟩
       · exact .inl ⟨rfl,q _⟩
       · exact .inr ⟨two_like h3 h4 h5 h6,q _⟩
      clear hrest
      split
      · walk_at "go"
        refine ⟨_,SqL.of hap11,fun H12 sm12=>?_⟩
        rw [List.length_map]
        have hap12:=sm12 _ _ hap11
        have stk12:=StockAt.same sm12 stk11
        have gR12:=sm12 _ _ gR11
        have hT12:=sm12 _ _ hT11
        have hS12:=sm12.seq hS11
        rename_i rest2 hrest2
        subst hrest2
        walk_at "go"
        exact fun f2 c2 H13 sb13 hJ13=>key3 (.lam f2 c2 (ns.getD 5 0)) H13 hJ13 (sb13 _ _ hap12 (ne_of hap12 hT12 (by intro z;cases z))) (N64.StockAt.butT sb13 hT12 stk12) (sb13 _ _ gR12 (ne_of gR12 hT12 (by intro z;cases z)))
      · exact key3 (.d (wOf (ns.getD 5 0))) H11 trivial hap11 stk11 gR11
     clear hrest
     split
     · refine ⟨ns,hS9,by decide,hl,cdiv_of (by decide) (by decide),.inr (.inr (.inl ⟨rfl,.inl ⟨_,gR9⟩⟩)),_,gR9,fun vv hvv=>⟨ro,upd_same,_,(Same.new hvv) _ _ gR9,ys.map R,kvN_vals,by have:=hsum.1;omega,?_⟩⟩
       exact key _ _ (Int.emod_nonneg _ (by have:=hsum.1;omega)) (Same.new hvv)
     · exact key _ _ (by omega) (Same.refl _)
theorem lam1_ok{f c:Addr}{t:Int}(T:Txt K mg Z4 Z3 Z7 Z5 Z0 Z1 Z2 xmake_oldest xmake_first xmake_halving xmake_farthest xmake_hand xmake_rows xmake_dues Z6)(Z2r:Def P w K mg base CX0 8 "_law_rule" ["_law_word_here","_law_stock","_law_places_here"] (sp62_rule (C3.mk Z0 Z1 Z2)))(Z0f:Def P w K mg base CX0 1 "_law_word" ["_law_turn","_law_asks"] (sp62_word K)):CallV P w K mg base CX0 9 f (Mk3.J (M3.mk xmake_oldest xmake_first xmake_hand lam1) (.lam f c t)) (sp62_mk K Z4 (C3.mk Z0 Z1 Z2) (.lam f c t)):=by
 have sc:LamScope ["_law_stock","_law_places_here","_law_asks","_law_turn"] ["_law_stock","_law_places_here","_law_asks"] lam1.scope [("_law_turn",c)]:=LamScope.mk1 (ps:=["_law_stock","_law_places_here","_law_asks"]) (sc:=lam1.scope) (x:="_law_turn") rfl rfl rfl (by decide+kernel) (by decide+kernel) (by decide+kernel) (by decide+kernel) rfl
 refine CallV.ofLam (fvs:=[V.int t]) sc (fun pm ct cd us hl=>match us,hl with | [_,_,_],_=>rfl) (fun vs H Q E h=>?_) (fun H h=>⟨h.1,h.2⟩) (fun cd A outer s H vs Q E hr hJ h=>?_)
 · obtain ⟨st,a,n,ts,ys,rfl,_⟩:=h;rfl
 obtain ⟨st,a,n,ts,ys,rfl,ro,q⟩:=h
 refine ⟨_,(pe_callD Z2r hr rfl pass0 (pa_cons (pe_callD Z0f hr rfl pass0 (pa_cons (pv 3) (pa_cons (pv 2) pa_nil))) (pa_cons (pv 0) (pa_cons (pv 1) pa_nil)))),?_⟩
 obtain ⟨o,u,hco,_⟩:=hJ.2.get _ (List.mem_cons_self ..)
 have hna:a∉[c]:=by rw [List.mem_singleton];exact ne_of ro.a hco (by intro z;cases z)
 walk_at "go"
 refine ⟨ys.map V.str,SqL.of (by rw [unk_out hna];exact ro.a),fun H1 sm1=>?_⟩
 rw [List.length_map]
 refine ⟨wOf (t+ys.length),rfl,ro.n1,ro.n2,fun q1 M H2 sm2 hM hg hcn=>?_⟩
 obtain ⟨e1,e2,e3⟩:=clo_end (H:=H) (sm1.trans sm2) (fun m hm=>same_none sm1 (hM m hm)) hg hcn
 exact q q1 M _ e1 e2 e3
theorem mkV(T:Txt K mg Z4 Z3 Z7 Z5 Z0 Z1 Z2 xmake_oldest xmake_first xmake_halving xmake_farthest xmake_hand xmake_rows xmake_dues Z6)(Z2r:Def P w K mg base CX0 8 "_law_rule" ["_law_word_here","_law_stock","_law_places_here"] (sp62_rule (C3.mk Z0 Z1 Z2)))(Z0f:Def P w K mg base CX0 1 "_law_word" ["_law_turn","_law_asks"] (sp62_word K))(Z28:Def P w K mg base CX0 8 "make_oldest" ["stock","places","asks"] (sp62_mk K Z4 (C3.mk Z0 Z1 Z2) (.d .ol)))(Z2s:Def P w K mg base CX0 8 "make_first" ["stock","places","asks"] (sp62_mk K Z4 (C3.mk Z0 Z1 Z2) (.d .fi)))(Z3b:Def P w K mg base CX0 8 "make_hand" ["stock","places","asks"] (sp62_mk K Z4 (C3.mk Z0 Z1 Z2) (.d .hd))):∀b,CallV P w K mg base CX0 9 (Mk3.f (M3.mk xmake_oldest xmake_first xmake_hand lam1) b) (Mk3.J (M3.mk xmake_oldest xmake_first xmake_hand lam1) b) (sp62_mk K Z4 (C3.mk Z0 Z1 Z2) b)
 | .d .ol=>CallV.ofDef Z28 T.Z5l
 | .d .fi=>CallV.ofDef Z2s T.Z5z
 | .d .hd=>CallV.ofDef Z3b T.Z6e
 | .lam _ _ _=>lam1_ok T Z2r Z0f
end
theorem all_mk{l:W.OpenLaw}{w:World}{K:W.Frag}{h:Heap}{mg:Str→Option Value}{fa f0 f1 f2 f3 f4 f5 f6 f7 f8 f9 f10 f11 f12 f13 f14 f15 f16 f17 f18 f19 f20 f21 f22 f23 f24 f25 f26 f27 f28 f29 f30 f31 f32 f33 f34 f35 f36 f37 f38 f39 f40 f41 f42 f43 f44 f45 f46 f47 f48 f49 f50 f51 f52 f53 f54 f55 f56 f57 f58 f59 f60 f61 f62 f63 f64 Z4 Z3 Z7 Z5 Z0 Z1 Z2 xmake_oldest xmake_first xmake_halving xmake_farthest xmake_hand xmake_rows xmake_dues Z6:Addr}(X:K.In h)(G:h.Ns mainGlobals mg)(hfa:mg "law"=some (.ref fa))
 {od20 an20 od21 an21 od28 an28 od34 an34 od62 an62 od64 an64:Option Addr} {sl20 sl21 sl28 sl34 sl62 sl64:Array (Option Value)} {oc20 kV20 dc20 pm20 cd20 ct20 oc21 kV21 dc21 pm21 cd21 ct21 oc28 kV28 dc28 pm28 cd28 ct28 oc34 kV34 dc34 pm34 cd34 ct34 oc62 kV62 dc62 pm62 cd62 ct62 oc64 kV64 dc64 pm64 cd64 ct64:Value}
 {d0 d1 d2 d3 d4 d5 d6 d7 d8 d9 d10 d11 d12 d13 d14 d15 d16 d17 d18 d19 d22 d23 d24 d25 d26 d27 d29 d30 d31 d32 d33 d35 d36 d37 d38 d39 d40 d41 d42 d43 d44 d45 d46 d47 d48 d49 d50 d51 d52 d53 d54 d55 d56 d57 d58 d59 d60 d61 d63:FuncData}
 (a0:W.nsIn K mainGlobals "made_of"=some (some (.ref f0))) (F0:Fun K "made_of" "made_of" Z3u f0 d0)
 (a1:W.nsIn K mainGlobals "is_name"=some (some (.ref f1))) (F1:Fun K "is_name" "is_name" Z3v f1 d1)
 (a2:W.nsIn K mainGlobals "is_whole"=some (some (.ref f2))) (F2:Fun K "is_whole" "is_whole" Z3i f2 d2)
 (a3:W.nsIn K mainGlobals "is_within"=some (some (.ref f3))) (F3:Fun K "is_within" "is_within" Z2w f3 d3)
 (a4:W.nsIn K mainGlobals "check_places"=some (some (.ref f4))) (F4:Fun K "check_places" "check_places" Z1d f4 d4)
 (a5:W.nsIn K mainGlobals "check_thing"=some (some (.ref f5))) (F5:Fun K "check_thing" "check_thing" Z1n f5 d5)
 (M6:Mk K Z4 f6) (F6:Fun K "__init__" "Stock.__init__" Z2c f6 d6)
 (M7:Meth K Z4 "has" f7) (F7:Fun K "has" "Stock.has" Z2x f7 d7)
 (M8:Meth K Z4 "thing_of" f8) (F8:Fun K "thing_of" "Stock.thing_of" Z0x f8 d8)
 (M9:Meth K Z4 "room_of" f9) (F9:Fun K "room_of" "Stock.room_of" Z15 f9 d9)
 (a10:W.nsIn K mainGlobals "check_asks"=some (some (.ref f10))) (F10:Fun K "check_asks" "check_asks" Z2d f10 d10)
 (M11:Mk K Z3 f11) (F11:Fun K "__init__" "Shelf.__init__" Z2e f11 d11)
 (M12:Meth K Z3 "lying" f12) (F12:Fun K "lying" "Shelf.lying" Z1o f12 d12)
 (M13:Meth K Z3 "holds" f13) (F13:Fun K "holds" "Shelf.holds" Z1p f13 d13)
 (M14:Meth K Z3 "room_left" f14) (F14:Fun K "room_left" "Shelf.room_left" Z0s f14 d14)
 (M15:Meth K Z3 "put" f15) (F15:Fun K "put" "Shelf.put" Z2y f15 d15)
 (M16:Meth K Z3 "cast" f16) (F16:Fun K "cast" "Shelf.cast" Z2f f16 d16)
 (a17:W.nsIn K mainGlobals "casts_off"=some (some (.ref f17))) (F17:Fun K "casts_off" "casts_off" Z2z f17 d17)
 (a18:W.nsIn K mainGlobals "serves"=some (some (.ref f18))) (F18:Fun K "serves" "serves" Z4d f18 d18)
 (a19:W.nsIn K mainGlobals "lying_after"=some (some (.ref f19))) (F19:Fun K "lying_after" "lying_after" Z1q f19 d19)
 (a20:W.findIn K (.ref Z7) "__init__"=some (some (.ref f20))) (l20:K.lookup f20=some ⟨oc20,od20,.func (W.fnOf "__init__" "Rule.__init__" (defArgs Z0i) (defBody Z0i) (defScope Z0i) .none kV20 dc20 pm20 an20 cd20 ct20),sl20⟩) (c20:W.codeIn K cd20 "Rule.__init__"=true) (n20:W.isFn K (.ref f20)=true) (k20:W.keepIn K (.ref Z7)=true) (m20:W.makesIn K Z7=true) (kf20:W.keepIn K (.ref f20)=true)
 (fc20:W.findCls K (.ref Z7) (.type "type") "__init__"=some (.val (.ref f20))) (sc20:W.specialIn K (.ref Z7) "__getattribute__"=some (some (.builtin "type.__getattribute__"))) (rc20:W.readsIn K Z7 (.type "type")=true)
 (a21:W.findIn K (.ref Z5) "__init__"=some (some (.ref f21))) (l21:K.lookup f21=some ⟨oc21,od21,.func (W.fnOf "__init__" "Ranked.__init__" (defArgs Z03) (defBody Z03) (defScope Z03) .none kV21 dc21 pm21 an21 cd21 ct21),sl21⟩) (c21:W.codeIn K cd21 "Ranked.__init__"=true) (n21:W.isFn K (.ref f21)=true) (k21:W.keepIn K (.ref Z5)=true) (m21:W.makesIn K Z5=true) (kf21:W.keepIn K (.ref f21)=true)
 (fc21:W.findCls K (.ref Z5) (.type "type") "__init__"=some (.val (.ref f21))) (sc21:W.specialIn K (.ref Z5) "__getattribute__"=some (some (.builtin "type.__getattribute__"))) (rc21:W.readsIn K Z5 (.type "type")=true)
 (M22:Mk K Z0 f22) (F22:Fun K "__init__" "Ranked.__init__" Z1r f22 d22)
 (M23:Mk K Z1 f23) (F23:Fun K "__init__" "First.__init__" Z2g f23 d23)
 (M24:Mk K Z2 f24) (F24:Fun K "__init__" "Hand.__init__" Z30 f24 d24)
 (M25:Meth K Z0 "number_ask" f25) (F25:Fun K "number_ask" "Ranked.number_ask" Z0l f25 d25)
 (M26:Meth K Z0 "asked" f26) (F26:Fun K "asked" "Ranked.asked" Z1e f26 d26)
 (M27:Meth K Z0 "last_of" f27) (F27:Fun K "last_of" "Ranked.last_of" Z0y f27 d27)
 (a28:W.findIn K (.ref Z0) "rank"=some (some (.ref f28))) (l28:K.lookup f28=some ⟨oc28,od28,.func (W.fnOf "rank" "Ranked.rank" (defArgs Z04) (defBody Z04) (defScope Z04) .none kV28 dc28 pm28 an28 cd28 ct28),sl28⟩) (c28:W.codeIn K cd28 "Ranked.rank"=true) (n28:W.isFn K (.ref f28)=true) (k28:W.keepIn K (.ref f28)=true)
 (gv28:W.specialIn K (.ref f28) "__get__"=some (some (.builtin "function.__get__"))) (tv28:W.takesIn K (.ref f28)=some false)
 (M29:Meth K Z0 "choice" f29) (F29:Fun K "choice" "Ranked.choice" Z16 f29 d29)
 (M30:Meth K Z0 "gone" f30) (F30:Fun K "gone" "Rule.gone" Z1s f30 d30)
 (M31:Meth K Z0 "came" f31) (F31:Fun K "came" "Rule.came" Z1t f31 d31)
 (M32:Meth K Z1 "number_ask" f32) (F32:Fun K "number_ask" "Ranked.number_ask" Z0p f32 d32)
 (M33:Meth K Z1 "asked" f33) (F33:Fun K "asked" "Ranked.asked" Z1u f33 d33)
 (a34:W.findIn K (.ref Z1) "rank"=some (some (.ref f34))) (l34:K.lookup f34=some ⟨oc34,od34,.func (W.fnOf "rank" "First.rank" (defArgs Z09) (defBody Z09) (defScope Z09) .none kV34 dc34 pm34 an34 cd34 ct34),sl34⟩) (c34:W.codeIn K cd34 "First.rank"=true) (n34:W.isFn K (.ref f34)=true) (k34:W.keepIn K (.ref f34)=true)
 (gv34:W.specialIn K (.ref f34) "__get__"=some (some (.builtin "function.__get__"))) (tv34:W.takesIn K (.ref f34)=some false)
 (M35:Meth K Z1 "choice" f35) (F35:Fun K "choice" "Ranked.choice" Z1f f35 d35)
 (M36:Meth K Z1 "gone" f36) (F36:Fun K "gone" "Rule.gone" Z2h f36 d36)
 (M37:Meth K Z1 "came" f37) (F37:Fun K "came" "First.came" Z2i f37 d37)
 (M38:Meth K Z2 "asked" f38) (F38:Fun K "asked" "Hand.asked" Z2j f38 d38)
 (M39:Meth K Z2 "choice" f39) (F39:Fun K "choice" "Hand.choice" Z1v f39 d39)
 (M40:Meth K Z2 "gone" f40) (F40:Fun K "gone" "Hand.gone" Z31 f40 d40)
 (M41:Meth K Z2 "came" f41) (F41:Fun K "came" "Hand.came" Z32 f41 d41)
 (a42:W.nsIn K mainGlobals "make_room"=some (some (.ref f42))) (F42:Fun K "make_room" "make_room" Z33 f42 d42)
 (a43:W.nsIn K mainGlobals "row_of"=some (some (.ref f43))) (F43:Fun K "row_of" "row_of" Z4e f43 d43)
 (a44:W.nsIn K mainGlobals "book_of"=some (some (.ref f44))) (F44:Fun K "book_of" "book_of" Z3w f44 d44)
 (a45:W.nsIn K mainGlobals "make_oldest"=some (some (.ref f45))) (F45:Fun K "make_oldest" "make_oldest" Z1w f45 d45)
 (a46:W.nsIn K mainGlobals "make_first"=some (some (.ref f46))) (F46:Fun K "make_first" "make_first" Z2k f46 d46)
 (a47:W.nsIn K mainGlobals "make_hand"=some (some (.ref f47))) (F47:Fun K "make_hand" "make_hand" Z34 f47 d47)
 (a48:W.nsIn K mainGlobals "maker_of"=some (some (.ref f48))) (F48:Fun K "maker_of" "maker_of" Z3j f48 d48)
 (a49:W.nsIn K mainGlobals "check_greater"=some (some (.ref f49))) (F49:Fun K "check_greater" "check_greater" Z17 f49 d49)
 (a50:W.nsIn K mainGlobals "_law_cell_at"=some (some (.ref f50))) (F50:Fun K "_law_cell_at" "_law_cell_at" Z35 f50 d50)
 (a51:W.nsIn K mainGlobals "_law_whole"=some (some (.ref f51))) (F51:Fun K "_law_whole" "_law_whole" Z3x f51 d51)
 (a52:W.nsIn K mainGlobals "_law_mixed"=some (some (.ref f52))) (F52:Fun K "_law_mixed" "_law_mixed" Z3y f52 d52)
 (a53:W.nsIn K mainGlobals "_law_names"=some (some (.ref f53))) (F53:Fun K "_law_names" "_law_names" Z3z f53 d53)
 (a54:W.nsIn K mainGlobals "_law_room"=some (some (.ref f54))) (F54:Fun K "_law_room" "_law_room" Z4f f54 d54)
 (a55:W.nsIn K mainGlobals "_law_places"=some (some (.ref f55))) (F55:Fun K "_law_places" "_law_places" Z3k f55 d55)
 (a56:W.nsIn K mainGlobals "_law_rule"=some (some (.ref f56))) (F56:Fun K "_law_rule" "_law_rule" Z4g f56 d56)
 (a57:W.nsIn K mainGlobals "_law_word"=some (some (.ref f57))) (F57:Fun K "_law_word" "_law_word" Z4h f57 d57)
 (a58:W.nsIn K mainGlobals "lying_by"=some (some (.ref f58))) (F58:Fun K "lying_by" "lying_by" Z3l f58 d58)
 (a59:W.nsIn K mainGlobals "first_lack"=some (some (.ref f59))) (F59:Fun K "first_lack" "first_lack" Z2l f59 d59)
 (a60:W.nsIn K mainGlobals "_law_held"=some (some (.ref f60))) (F60:Fun K "_law_held" "_law_held" Z4i f60 d60)
 (a61:W.nsIn K mainGlobals "_law_lack"=some (some (.ref f61))) (F61:Fun K "_law_lack" "_law_lack" Z4j f61 d61)
 (a62:W.nsIn K mainGlobals "_law_own_maker"=some (some (.ref f62))) (l62:K.lookup f62=some ⟨oc62,od62,.func (W.fnOf "_law_own_maker" "_law_own_maker" (defArgs Zx) (defBody Zx) (defScope Zx) .none kV62 dc62 pm62 an62 cd62 ct62),sl62⟩) (c62:W.codeIn K cd62 "_law_own_maker"=true) (k62:W.keepIn K (.ref f62)=true)
 {cq9:Addr} (mc62:cd62= .ref cq9) (mh62:W.codeHdIn K cq9 1131=true)
 (a63:W.nsIn K mainGlobals "_law_lack_good"=some (some (.ref f63))) (F63:Fun K "_law_lack_good" "_law_lack_good" Z1x f63 d63)
 (a64:W.nsIn K mainGlobals "law"=some (some (.ref f64))) (l64:K.lookup f64=some ⟨oc64,od64,.func (W.fnOf "law" "law" (defArgs Z2a) (defBody Z2a) (defScope Z2a) .none kV64 dc64 pm64 an64 cd64 ct64),sl64⟩) (c64:W.codeIn K cd64 "law"=true) (k64:W.keepIn K (.ref f64)=true)
 (Z0e:W.nsIn K mainGlobals "len"=some none)
 (Ze:W.nsIn K mainGlobals "isinstance"=some none)
 (Z2u:W.nsIn K mainGlobals "int"=some none)
 (Z3f:W.nsIn K mainGlobals "bool"=some none)
 (Z47:W.nsIn K mainGlobals "str"=some none)
 (Z14:W.nsIn K mainGlobals "list"=some none)
 (Z3g:W.nsIn K mainGlobals "tuple"=some none)
 (Z4s:W.nsIn K mainGlobals "all"=some none)
 (Z11:W.nsIn K mainGlobals "range"=some none)
 (Z2v:W.nsIn K mainGlobals "sum"=some none)
 (Z0h:W.nsIn K mainGlobals "enumerate"=some none)
 (Z4t:W.nsIn K mainGlobals "zip"=some none)
 (Z4u:W.nsIn K mainGlobals "max"=some none)
 (Z3h:W.nsIn K mainGlobals "min"=some none)
 (Z1c:W.nsIn K mainGlobals "sorted"=some none)
 (Z4v:W.nsIn K mainGlobals "dict"=some none)
 {Z6p:Tok} (Z12:W.nsIn K mainGlobals "LETTERS"=some (some (.str "abcdefghijklmnopqrstuvwxyz" Z6p)))
 {Z6q:Tok} (Z1j:W.nsIn K mainGlobals "FIGURES"=some (some (.str "0123456789" Z6q)))
 {Z5x:Tok} (Z0o:W.nsIn K mainGlobals "MOST_SIGNS"=some (some (.int 8 Z5x)))
 {Z5i:Tok} (Z0g:W.nsIn K mainGlobals "MOST_THINGS"=some (some (.int 60 Z5i)))
 {Z6c:Tok} (Z0t:W.nsIn K mainGlobals "MOST_ROOM"=some (some (.int 1000 Z6c)))
 {Z5j:Tok} (Z02:W.nsIn K mainGlobals "MOST_PLACES"=some (some (.int 1000000 Z5j)))
 {Z6d:Tok} (Z0u:W.nsIn K mainGlobals "MOST_ASKS"=some (some (.int 200 Z6d)))
 (Z48:W.nsIn K mainGlobals "Stock"=some (some (.ref Z4))) (Z74:Cls K Z4)
 (Zc:W.findIn K (.ref Z4) "things"=some none)
 (Z49:W.nsIn K mainGlobals "Shelf"=some (some (.ref Z3))) (Z75:Cls K Z3)
 (Zr:W.findIn K (.ref Z3) "stock"=some none)
 (Zy:W.findIn K (.ref Z3) "places"=some none)
 (Zh:W.findIn K (.ref Z3) "rooms"=some none)
 (Z52:W.nsIn K mainGlobals "Rule"=some (some (.ref Z7))) (Z78:Cls K Z7)
 (Z13:W.findIn K (.ref Z7) "stock"=some none)
 (Z0v:W.findIn K (.ref Z7) "places"=some none)
 (Z3r:W.nsIn K mainGlobals "Ranked"=some (some (.ref Z5))) (Z70:Cls K Z5)
 (Z0r:W.findIn K (.ref Z5) "stock"=some none)
 (Z0n:W.findIn K (.ref Z5) "places"=some none)
 (Z0d:W.findIn K (.ref Z5) "present"=some none)
 (Z0w:W.findIn K (.ref Z5) "last"=some none)
 (Z3s:W.nsIn K mainGlobals "Oldest"=some (some (.ref Z0))) (Z71:Cls K Z0)
 (Zu:W.findIn K (.ref Z0) "stock"=some none)
 (Zp:W.findIn K (.ref Z0) "places"=some none)
 (Zg:W.findIn K (.ref Z0) "present"=some none)
 (Zs:W.findIn K (.ref Z0) "last"=some none)
 (Z4a:W.nsIn K mainGlobals "First"=some (some (.ref Z1))) (Z76:Cls K Z1)
 (Z00:W.findIn K (.ref Z1) "stock"=some none)
 (Zz:W.findIn K (.ref Z1) "places"=some none)
 (Zl:W.findIn K (.ref Z1) "present"=some none)
 (Z07:W.findIn K (.ref Z1) "last"=some none)
 (Zv:W.findIn K (.ref Z1) "put_at"=some none)
 (Z53:W.nsIn K mainGlobals "Hand"=some (some (.ref Z2))) (Z79:Cls K Z2)
 (Z08:W.findIn K (.ref Z2) "stock"=some none)
 (Z01:W.findIn K (.ref Z2) "places"=some none)
 (Zd:W.findIn K (.ref Z2) "order"=some none)
 (Zm:W.findIn K (.ref Z2) "marked"=some none)
 (Z29:W.nsIn K mainGlobals "make_oldest"=some (some (.ref xmake_oldest)))
 (Z2t:W.nsIn K mainGlobals "make_first"=some (some (.ref xmake_first)))
 (Z1i:W.nsIn K mainGlobals "make_halving"=some (some (.ref xmake_halving)))
 (Z1b:W.nsIn K mainGlobals "make_farthest"=some (some (.ref xmake_farthest)))
 (Z3c:W.nsIn K mainGlobals "make_hand"=some (some (.ref xmake_hand)))
 (Z3d:W.nsIn K mainGlobals "make_rows"=some (some (.ref xmake_rows)))
 (Z3e:W.nsIn K mainGlobals "make_dues"=some (some (.ref xmake_dues)))
 (Z4r:W.nsIn K mainGlobals "MAKERS"=some (some (.ref Z6)))
 {Z5k:Array DictEntry} {Z6y:Nat} (Z1k:K.lookup Z6=some ⟨.type "dict",none,.dict Z5k Z6y,#[]⟩) (Z1l:W.KeysLit w.params Z5k.toList) (Z1m:(Z6==sysModules)=false)
 (wT0_MAKERS:W.nsIn K Z6 "oldest"=some (some (.ref xmake_oldest)))
 (wT1_MAKERS:W.nsIn K Z6 "first"=some (some (.ref xmake_first)))
 (wT2_MAKERS:W.nsIn K Z6 "halving"=some (some (.ref xmake_halving)))
 (wT3_MAKERS:W.nsIn K Z6 "farthest"=some (some (.ref xmake_farthest)))
 (wT4_MAKERS:W.nsIn K Z6 "hand"=some (some (.ref xmake_hand)))
 (wT5_MAKERS:W.nsIn K Z6 "rows"=some (some (.ref xmake_rows)))
 (wT6_MAKERS:W.nsIn K Z6 "dues"=some (some (.ref xmake_dues)))
 :(∃c,W.codeHdIn K c 1131=true)∧∃fd:FuncData,(∀(s:Shared) (v:Value),BindsTo s fd ⟨[v],[]⟩ [("_law_script",v)])∧∀base:Heap,K.In base→base.Ns mainGlobals mg→base.BuiltinsAt mg 1131→FnOk l.prog w K mg base CX0 12 fa fd ["_law_script"] (sp62_law 1131 K):=by
 have e:=hfa.symm.trans (W.mg_of X G a64)
 cases e
 have T:Txt K mg Z4 Z3 Z7 Z5 Z0 Z1 Z2 xmake_oldest xmake_first xmake_halving xmake_farthest xmake_hand xmake_rows xmake_dues Z6:=⟨W.mg_of X G Z48,Z74,Zc,W.mg_of X G Z49,Z75,Zr,Zy,Zh,W.mg_of X G Z52,Z78,Z13,Z0v,W.mg_of X G Z3r,Z70,Z0r,Z0n,Z0d,Z0w,W.mg_of X G Z3s,Z71,Zu,Zp,Zg,Zs,W.mg_of X G Z4a,Z76,Z00,Zz,Zl,Z07,Zv,W.mg_of X G Z53,Z79,Z08,Z01,Zd,Zm,W.mg_of X G Z29,W.mg_of X G Z2t,W.mg_of X G Z1i,W.mg_of X G Z1b,W.mg_of X G Z3c,W.mg_of X G Z3d,W.mg_of X G Z3e,W.mg_of X G Z4r,W.mg_none_of X G Z0e,W.mg_none_of X G Ze,W.mg_none_of X G Z2u,W.mg_none_of X G Z3f,W.mg_none_of X G Z47,W.mg_none_of X G Z14,W.mg_none_of X G Z3g,W.mg_none_of X G Z4s,W.mg_none_of X G Z11,W.mg_none_of X G Z2v,W.mg_none_of X G Z0h,W.mg_none_of X G Z4t,W.mg_none_of X G Z4u,W.mg_none_of X G Z3h,W.mg_none_of X G Z1c,W.mg_none_of X G Z4v,⟨_,W.mg_of X G Z12⟩,⟨_,W.mg_of X G Z1j⟩,⟨_,W.mg_of X G Z0o⟩,⟨_,W.mg_of X G Z0g⟩,⟨_,W.mg_of X G Z0t⟩,⟨_,W.mg_of X G Z02⟩,⟨_,W.mg_of X G Z0u⟩⟩
 have F20:=fun_mk (st:=Z0i) l20 c20 kf20
 have F21:=fun_mk (st:=Z03) l21 c21 kf21
 have F28:=fun_mk (st:=Z04) l28 c28 k28
 have F34:=fun_mk (st:=Z09) l34 c34 k34
 have F62:=fun_mk (st:=Zx) l62 c62 k62
 have F64:=fun_mk (st:=Z2a) l64 c64 k64
 refine ⟨⟨_,mh62⟩,W.fnOf "law" "law" (defArgs Z2a) (defBody Z2a) (defScope Z2a) .none kV64 dc64 pm64 an64 cd64 ct64,fun s v=> .of_eq rfl,fun base _ _ HB=>?_⟩
 have B:Bs l.prog w K mg base:=⟨h,X,G⟩
 have Z40:=F0.d B a0 (Z6j F0 T) (F0.e2 fun _ _ _ _ _ _ _ _=>rfl)
 have Z41:=F1.d B a1 (Z6k F1 T Z40) (F1.e1 fun _ _ _ _ _ _ _=>rfl)
 have Z3m:=F2.d B a2 (Z6f F2 T) (F2.e1 fun _ _ _ _ _ _ _=>rfl)
 have Zo:=F3.d B a3 (Z61 F3 T Z3m) (F3.e3 fun _ _ _ _ _ _ _ _ _=>rfl)
 have Zj:=F4.d B a4 (Z4w F4 T Zo) (F4.e1 fun _ _ _ _ _ _ _=>rfl)
 have Z1y:=F5.d B a5 (Z54 F5 T Z41 Zo) (F5.e4 fun _ _ _ _ _ _ _ _ _ _=>rfl)
 have Z2q:=F6.i B M6 Z48 (Z5m F6 T Z1y) (F6.e2 fun _ _ _ _ _ _ _ _=>rfl)
 have Z36:=F7.m B M7 (Z62 F7 T) (F7.e2 fun _ _ _ _ _ _ _ _=>rfl)
 have Z0z:=F8.m B M8 (Z4b F8 T) (F8.e2 fun _ _ _ _ _ _ _ _=>rfl)
 have Za:=F9.m B M9 (Z4k F9 T Z0z) (F9.e2 fun _ _ _ _ _ _ _ _=>rfl)
 have Zq:=F10.d B a10 (Z5n F10 T Zj Z36 Za) (F10.e3 fun _ _ _ _ _ _ _ _ _=>rfl)
 have Z0b:=F11.i B M11 Z49 (Z5o F11 T Zj) (F11.e3 fun _ _ _ _ _ _ _ _ _=>rfl)
 have Z05:=F12.m B M12 (Z55 F12 T) (F12.e1 fun _ _ _ _ _ _ _=>rfl)
 have Z9:=F13.m B M13 (Z56 F13 T) (F13.e2 fun _ _ _ _ _ _ _ _=>rfl)
 have Zb:=F14.m B M14 (Z42 F14 T) (F14.e1 fun _ _ _ _ _ _ _=>rfl)
 have Z0j:=F15.m B M15 (Z63 F15 T Za Z9 Zb) (F15.e2 fun _ _ _ _ _ _ _ _=>rfl)
 have Z0a:=F16.m B M16 (Z5p F16 T Z9) (F16.e2 fun _ _ _ _ _ _ _ _=>rfl)
 have Z37:=F17.d B a17 (Z64 F17 T Z9 Z0a) (F17.e3 fun _ _ _ _ _ _ _ _ _=>rfl)
 have Z4l:=F18.d B a18 (Z6r F18 T Z9 Z37 Za Zb Z0j) (F18.e3 fun _ _ _ _ _ _ _ _ _=>rfl)
 have Z25:=F19.d B a19 (Z57 F19 T Zq Z0b Z4l Z05) (F19.e4 fun _ _ _ _ _ _ _ _ _ _=>rfl)
 have Zw:DefB l.prog w K mg base CX0 4 "Rule" Z7 ["self","stock","places"] (sp28_rinit K):=⟨⟨f20,_,Z65 F20 T Zj,⟨m20,a20,n20,k20⟩,W.mg_of X G Z52,F20.binds (ps:=["self","stock","places"]) fun _ _ _ _ _ _ us hl=>match us,hl with | [_,_,_],_=>rfl,fc20,kf20⟩,sc20,rc20⟩
 have Z1z:DefB l.prog w K mg base CX0 5 "Ranked" Z5 ["self","stock","places"] (sp28_kinit K):=⟨⟨f21,_,Z58 F21 T Zw,⟨m21,a21,n21,k21⟩,W.mg_of X G Z3r,F21.binds (ps:=["self","stock","places"]) fun _ _ _ _ _ _ us hl=>match us,hl with | [_,_,_],_=>rfl,fc21,kf21⟩,sc21,rc21⟩
 have Z06:=F22.i B M22 Z3s (Z59 F22 T Zw) (F22.e3 fun _ _ _ _ _ _ _ _ _=>rfl)
 have Z0c:=F23.i B M23 Z4a (Z5q F23 T Z1z) (F23.e3 fun _ _ _ _ _ _ _ _ _=>rfl)
 have Z0k:=F24.i B M24 Z53 (Z66 F24 T Zw) (F24.e3 fun _ _ _ _ _ _ _ _ _=>rfl)
 have Z0m:=F25.m B M25 (Z3n F25 T) (F25.e2 fun _ _ _ _ _ _ _ _=>rfl)
 have Z1h:=F26.m B M26 (Z4x F26 T Z0m) (F26.e2 fun _ _ _ _ _ _ _ _=>rfl)
 have Z10:=F27.m B M27 (Z4c F27 T) (F27.e2 fun _ _ _ _ _ _ _ _=>rfl)
 have Z20:DefV l.prog w K mg base 2 Z0 "rank" ["self","name"] (sp21_rank Z0):=⟨⟨f28,_,Z5a F28 T Z10,⟨a28,n28,k28⟩,F28.binds (ps:=["self","name"]) fun _ _ _ _ _ _ us hl=>match us,hl with | [_,_],_=>rfl,gv28,tv28⟩⟩
 have Z18:=F29.m B M29 (Z4m F29 T Z20) (F29.e2 fun _ _ _ _ _ _ _ _=>rfl)
 have Z22:=F30.m B M30 (Z5b F30 T) (F30.e2 fun _ _ _ _ _ _ _ _=>rfl)
 have Z24:=F31.m B M31 (Z5c F31 T) (F31.e2 fun _ _ _ _ _ _ _ _=>rfl)
 have Z0q:=F32.m B M32 (Z3t F32 T) (F32.e2 fun _ _ _ _ _ _ _ _=>rfl)
 have Z23:=F33.m B M33 (Z5d F33 T Z0q) (F33.e2 fun _ _ _ _ _ _ _ _=>rfl)
 have Z2m:DefV l.prog w K mg base 1 Z1 "rank" ["self","name"] (sp22_rank Z1):=⟨⟨f34,_,Z5r F34 T,⟨a34,n34,k34⟩,F34.binds (ps:=["self","name"]) fun _ _ _ _ _ _ us hl=>match us,hl with | [_,_],_=>rfl,gv34,tv34⟩⟩
 have Z1g:=F35.m B M35 (Z4y F35 T Z2m) (F35.e2 fun _ _ _ _ _ _ _ _=>rfl)
 have Z2n:=F36.m B M36 (Z5s F36 T) (F36.e2 fun _ _ _ _ _ _ _ _=>rfl)
 have Z2p:=F37.m B M37 (Z5t F37 T) (F37.e2 fun _ _ _ _ _ _ _ _=>rfl)
 have Z2o:=F38.m B M38 (Z5u F38 T) (F38.e2 fun _ _ _ _ _ _ _ _=>rfl)
 have Z21:=F39.m B M39 (Z5e F39 T) (F39.e2 fun _ _ _ _ _ _ _ _=>rfl)
 have Z38:=F40.m B M40 (Z67 F40 T) (F40.e2 fun _ _ _ _ _ _ _ _=>rfl)
 have Z3a:=F41.m B M41 (Z68 F41 T) (F41.e2 fun _ _ _ _ _ _ _ _=>rfl)
 have Z39:=F42.d B a42 (Z69 F42 T Zb Z05 Z18 Z1g Z21 Z0a Z22 Z2n Z38) (F42.e3 fun _ _ _ _ _ _ _ _ _=>rfl)
 have Z4n:=F43.d B a43 (Z6s F43 T Z1h Z23 Z2o Z9 Za Z39 Z0j Z24 Z2p Z3a) (F43.e3 fun _ _ _ _ _ _ _ _ _=>rfl)
 have Z44:=F44.d B a44 (Z6l F44 T Zq Z0b Z4n) (F44.e2 fun _ _ _ _ _ _ _ _=>rfl)
 have Z28:=F45.d B a45 (Z5f F45 T Z06) (F45.e3 fun _ _ _ _ _ _ _ _ _=>rfl)
 have Z2s:=F46.d B a46 (Z5v F46 T Z0c) (F46.e3 fun _ _ _ _ _ _ _ _ _=>rfl)
 have Z3b:=F47.d B a47 (Z6a F47 T Z0k) (F47.e3 fun _ _ _ _ _ _ _ _ _=>rfl)
 have Z4z:KTab w.params K Z6 "oldest" (some (.ref xmake_oldest)):=ktab_of Z1m Z1k Z1l wT0_MAKERS ⟨_,rfl,rfl⟩
 have Z50:KTab w.params K Z6 "first" (some (.ref xmake_first)):=ktab_of Z1m Z1k Z1l wT1_MAKERS ⟨_,rfl,rfl⟩
 have Z51:KTab w.params K Z6 "hand" (some (.ref xmake_hand)):=ktab_of Z1m Z1k Z1l wT4_MAKERS ⟨_,rfl,rfl⟩
 have Z3p:=F48.d B a48 (Z6g F48 T Z4z Z50 Z51) (F48.e1 fun _ _ _ _ _ _ _=>rfl)
 have Z19:=F49.d B a49 (Z4o F49 T Zo) (F49.e2 fun _ _ _ _ _ _ _ _=>rfl)
 have Zf:=F50.d B a50 (Z6b F50 T) (F50.e2 fun _ _ _ _ _ _ _ _=>rfl)
 have Z45:=F51.d B a51 (Z6m F51 T) (F51.e1 fun _ _ _ _ _ _ _=>rfl)
 have Z43:=F52.d B a52 (Z6n F52 T) (F52.e2 fun _ _ _ _ _ _ _ _=>rfl)
 have Z46:=F53.d B a53 (Z6o F53 T) (F53.e2 fun _ _ _ _ _ _ _ _=>rfl)
 have Z4p:=F54.d B a54 (Z6t F54 T Z43) (F54.e2 fun _ _ _ _ _ _ _ _=>rfl)
 have Z3o:=F55.d B a55 (Z6h F55 T) (F55.e3 fun _ _ _ _ _ _ _ _ _=>rfl)
 have Z2r:=F56.d B a56 (Z6u F56 T Z06 Z0c Z0k) (F56.e3 fun _ _ _ _ _ _ _ _ _=>rfl)
 have Z0f:=F57.d B a57 (Z6v F57 T) (F57.e2 fun _ _ _ _ _ _ _ _=>rfl)
 have D_mk:∀b,CallV l.prog w K mg base CX0 9 (Mk3.f (M3.mk xmake_oldest xmake_first xmake_hand lam1) b) (Mk3.J (M3.mk xmake_oldest xmake_first xmake_hand lam1) b) (sp62_mk K Z4 (C3.mk Z0 Z1 Z2) b):=mkV T Z2r Z0f Z28 Z2s Z3b
 have Z2b:=F58.d B a58 (Z6i F58 T Z44 Z25 D_mk) (F58.e4 fun _ _ _ _ _ _ _ _ _ _=>rfl)
 have Z1a:=F59.d B a59 (Z5w F59 T Zq Z19 Z2b) (F59.e5 fun _ _ _ _ _ _ _ _ _ _ _=>rfl)
 have Z3q:=F60.d B a60 (Z6w F60 T) (F60.e4 fun _ _ _ _ _ _ _ _ _ _=>rfl)
 have Z4q:=F61.d B a61 (Z6x F61 T) (F61.e2 fun _ _ _ _ _ _ _ _=>rfl)
 have Z26:Def l.prog w K mg base CX0 3 "_law_own_maker" ["_law_turn"] (sp62_own 1131 (M3.mk xmake_oldest xmake_first xmake_hand lam1)):=⟨⟨f62,_,Z5g F62 T ⟨_,_,_,_,_,l62,mc62,mh62⟩ HB,W.mg_of X G a62,k62,F62.binds (ps:=["_law_turn"]) fun _ _ _ _ _ _ us hl=>match us,hl with | [_],_=>rfl⟩⟩
 have Z27:=F63.d B a63 (Z5h F63 T Z45) (F63.e2 fun _ _ _ _ _ _ _ _=>rfl)
 exact Z77 F64 T Zf Z46 Z4p Z3o Z2q Z0f Z3p Z26 Z3q Z4q Z1a Z27
end K62
namespace PySem.W.Fast
theorem tw3822171450519286606:True:=⟨⟩
theorem tw17960063025096376974:True:=⟨⟩
theorem tw9617485432731344321:True:=⟨⟩
theorem tw10831156673160140084:True:=⟨⟩
theorem tw5885369975021360115:True:=⟨⟩
theorem tw7926193525180093488:True:=⟨⟩
theorem tw8368400629069098744:True:=⟨⟩
theorem tw47923260712040087:True:=⟨⟩
theorem tw1052082740033904739:True:=⟨⟩
theorem tw8542042649591932134:True:=⟨⟩
theorem tw4720415042668489500:True:=⟨⟩
theorem tw12556075033418906220:True:=⟨⟩
theorem tw6550527193364097383:True:=⟨⟩
theorem tw1475835279814252218:True:=⟨⟩
theorem tw10078576915060730363:True:=⟨⟩
theorem tw8143489699368362255:True:=⟨⟩
theorem tw5525059549039255996:True:=⟨⟩
theorem tw947563212937319133:True:=⟨⟩
theorem tw15235878384631959779:True:=⟨⟩
theorem tw13216216997085163865:True:=⟨⟩
theorem tw3609862671232750645:True:=⟨⟩
theorem tw6187723495142990016:True:=⟨⟩
theorem tw3725948694688472306:True:=⟨⟩
theorem tw9347200369978821135:True:=⟨⟩
theorem tw1315967273250213925:True:=⟨⟩
theorem tw13980812787461067393:True:=⟨⟩
theorem tw13509949625471092465:True:=⟨⟩
theorem tw1410663722099155019:True:=⟨⟩
theorem tw17540932321883903620:True:=⟨⟩
theorem tw9602332874843151249:True:=⟨⟩
theorem tw3259105118688187576:True:=⟨⟩
theorem tw16375460076923045750:True:=⟨⟩
theorem tw9328932509605654089:True:=⟨⟩
theorem tw17509146273203018362:True:=⟨⟩
theorem tw4914555030690018189:True:=⟨⟩
theorem tw14898614102201154211:True:=⟨⟩
theorem tw6979161203116227348:True:=⟨⟩
theorem tw1289695128716545150:True:=⟨⟩
theorem tw17044078675255968879:True:=⟨⟩
theorem tw3991765510204227036:True:=⟨⟩
theorem tw14831296515902109384:True:=⟨⟩
theorem tw4978756788737256162:True:=⟨⟩
theorem tw153390217261450000:True:=⟨⟩
theorem tw15591006547135861741:True:=⟨⟩
theorem tw14617985312109872106:True:=⟨⟩
theorem tw5630095016570593161:True:=⟨⟩
theorem tw13827593020606421005:True:=⟨⟩
theorem tw7265521030649176973:True:=⟨⟩
theorem tw2958310642936260081:True:=⟨⟩
theorem tw17582873777057872330:True:=⟨⟩
theorem tw17717107132491713704:True:=⟨⟩
theorem tw990673147193406248:True:=⟨⟩
theorem tw1035934809355953074:True:=⟨⟩
theorem tw791178689631465530:True:=⟨⟩
theorem tw9608367860137614561:True:=⟨⟩
theorem tw15995421306263460166:True:=⟨⟩
theorem tw12756150946933877253:True:=⟨⟩
theorem tw4782348800456899214:True:=⟨⟩
theorem tw7768348349061989594:True:=⟨⟩
theorem tw17032429672315461921:True:=⟨⟩
theorem tw7152240506374072479:True:=⟨⟩
theorem tw7343409432103943081:True:=⟨⟩
theorem tw9952915710183194652:True:=⟨⟩
theorem tw16014217695783385520:True:=⟨⟩
theorem tw3505013231945245269:True:=⟨⟩
theorem tw9159029626686009124:True:=⟨⟩
theorem tw3705588328454081601:True:=⟨⟩
theorem tw11599809790123687538:True:=⟨⟩
theorem tw11029586817101361244:True:=⟨⟩
theorem tw8901537162218323559:True:=⟨⟩
theorem tw8533095624575045109:True:=⟨⟩
theorem tw17489794876617663703:True:=⟨⟩
theorem tw13569234889029272653:True:=⟨⟩
theorem tw17239417568557457468:True:=⟨⟩
theorem tw15435766952270660872:True:=⟨⟩
theorem tw11000093529103752782:True:=⟨⟩
theorem tw13449611314231631596:True:=⟨⟩
theorem tw14180004141473988621:True:=⟨⟩
theorem tw7672260951660490142:True:=⟨⟩
theorem tw13856497218116027412:True:=⟨⟩
theorem tw1630715247901143284:True:=⟨⟩
theorem tw5967162946253581044:True:=⟨⟩
theorem tw13056578192013125228:True:=⟨⟩
theorem tw16106691705673649594:True:=⟨⟩
theorem tw5570148121890502661:True:=⟨⟩
theorem tw5401155532193644099:True:=⟨⟩
theorem tw1213230879735553240:True:=⟨⟩
theorem tw3211122961043133766:True:=⟨⟩
theorem tw17054598127030880344:True:=⟨⟩
theorem tw16072514465796767789:True:=⟨⟩
theorem tw11458567603702390098:True:=⟨⟩
theorem tw7597991606879213385:True:=⟨⟩
theorem tw14844806437469581912:True:=⟨⟩
theorem tw14313924288273906180:True:=⟨⟩
theorem tw2709492110836064101:True:=⟨⟩
theorem tw4204207753384115316:True:=⟨⟩
theorem tw1304436793948711623:True:=⟨⟩
theorem tw1107366143471959515:True:=⟨⟩
theorem tw9918228640899955481:True:=⟨⟩
theorem tw1065546692548663724:True:=⟨⟩
theorem tw13059782431386351043:True:=⟨⟩
theorem tw2460099995715058300:True:=⟨⟩
theorem tw16865966363819411546:True:=⟨⟩
theorem tw15478838914478957923:True:=⟨⟩
theorem tw11689082310603144939:True:=⟨⟩
theorem tw7120432465767477014:True:=⟨⟩
theorem tw9817332421638899155:True:=⟨⟩
theorem tw4639695621089041031:True:=⟨⟩
theorem tw14921343965485237188:True:=⟨⟩
theorem tw629970840258384059:True:=⟨⟩
theorem tw5318351996543786707:True:=⟨⟩
theorem tw11809331452854450589:True:=⟨⟩
theorem tw11476664429991405679:True:=⟨⟩
theorem tw1984793502447313358:True:=⟨⟩
theorem tw16514255540907668392:True:=⟨⟩
theorem tw12285610884903111928:True:=⟨⟩
theorem tw6592418507756270558:True:=⟨⟩
theorem tw6180521557677222184:True:=⟨⟩
theorem tw1771609251470787003:True:=⟨⟩
theorem tw10930242130165579679:True:=⟨⟩
theorem tw2823444508982501517:True:=⟨⟩
theorem tw5033954375427620907:True:=⟨⟩
theorem tw17191283500330371270:True:=⟨⟩
theorem tw12779425608367155412:True:=⟨⟩
theorem tw15455070600196076571:True:=⟨⟩
theorem tw10077278658375091421:True:=⟨⟩
theorem tw8814968481871804077:True:=⟨⟩
theorem tw5654111800149935093:True:=⟨⟩
theorem tw11350317339368906103:True:=⟨⟩
theorem tw8339780574941139768:True:=⟨⟩
theorem tw14100639781534177305:True:=⟨⟩
theorem tw3322610330173143333:True:=⟨⟩
theorem tw6113089627577412722:True:=⟨⟩
theorem tw13643065935614858855:True:=⟨⟩
theorem tw14826643241930655200:True:=⟨⟩
theorem tw17121202439707750977:True:=⟨⟩
theorem tw2024922274478720704:True:=⟨⟩
theorem tw17732049491835223510:True:=⟨⟩
theorem tw2197502057380066542:True:=⟨⟩
theorem tw12186749049488569309:True:=⟨⟩
theorem tw13518065640629880589:True:=⟨⟩
theorem tw7237057281770432080:True:=⟨⟩
theorem tw13194487501382049241:True:=⟨⟩
theorem tw8569227628218903478:True:=⟨⟩
theorem tw3539524963161845707:True:=⟨⟩
theorem tw2825273898755676924:True:=⟨⟩
theorem tw3972843533549373296:True:=⟨⟩
theorem tw10138592622004027222:True:=⟨⟩
theorem tw2507853659650666305:True:=⟨⟩
theorem tw14905267811624878566:True:=⟨⟩
theorem tw14010727411709534585:True:=⟨⟩
theorem tw6649341386986550136:True:=⟨⟩
theorem tw13676278295035780545:True:=⟨⟩
theorem tw9442295516922015374:True:=⟨⟩
theorem tw10908481320813518692:True:=⟨⟩
theorem tw1334396060416061387:True:=⟨⟩
theorem tw17296275369002873873:True:=⟨⟩
theorem tw9254784593513763711:True:=⟨⟩
theorem tw13996900435628765062:True:=⟨⟩
theorem tw2217881615935894740:True:=⟨⟩
theorem tw558321134085254668:True:=⟨⟩
theorem tw13169367422947227561:True:=⟨⟩
theorem tw1439019170609827339:True:=⟨⟩
theorem tw8675162634543278659:True:=⟨⟩
theorem tw2251670240298806652:True:=⟨⟩
theorem tw18370429327677361660:True:=⟨⟩
theorem tw3853170372022060553:True:=⟨⟩
theorem tw7470648199142157951:True:=⟨⟩
theorem tw8566553048018613454:True:=⟨⟩
theorem tw16653999606965239332:True:=⟨⟩
theorem tw8887754849967884028:True:=⟨⟩
theorem tw6895959270935545098:True:=⟨⟩
theorem tw14892511457420243290:True:=⟨⟩
theorem tw9370797307953127881:True:=⟨⟩
theorem tw2053155548764903677:True:=⟨⟩
theorem tw6792422692005437241:True:=⟨⟩
theorem tw16619445731277389105:True:=⟨⟩
theorem tw5581556386252961898:True:=⟨⟩
theorem tw17113985504224699741:True:=⟨⟩
theorem tw9192898901927125714:True:=⟨⟩
theorem tw13532112675387276517:True:=⟨⟩
theorem tw17975101564160927448:True:=⟨⟩
theorem tw3013666588155023567:True:=⟨⟩
theorem tw2583366476906928893:True:=⟨⟩
theorem tw4955792418756337474:True:=⟨⟩
theorem tw4810380281553210558:True:=⟨⟩
theorem tw14619308209118084763:True:=⟨⟩
theorem tw6836468178548424100:True:=⟨⟩
theorem tw11499742305138451349:True:=⟨⟩
theorem tw17643554013454046112:True:=⟨⟩
theorem tw4715958727411834948:True:=⟨⟩
theorem tw208706093331787864:True:=⟨⟩
theorem tw16545452106334982496:True:=⟨⟩
theorem tw6746041184642535448:True:=⟨⟩
theorem tw1993645305182761790:True:=⟨⟩
theorem tw15050148191159614994:True:=⟨⟩
theorem tw6922573065561455711:True:=⟨⟩
theorem tw9206222436842860023:True:=⟨⟩
theorem tw15650449910857108225:True:=⟨⟩
theorem tw14097238607766945427:True:=⟨⟩
theorem tw8475099795406070188:True:=⟨⟩
theorem tw4173572835052980099:True:=⟨⟩
theorem tw14127809519039239715:True:=⟨⟩
theorem tw449745431812908552:True:=⟨⟩
theorem tw182951933129138254:True:=⟨⟩
theorem tw13339024126085965419:True:=⟨⟩
theorem tw17532780120874090715:True:=⟨⟩
theorem tw4457141917352490797:True:=⟨⟩
theorem tw8004425375007445775:True:=⟨⟩
theorem tw5184963367635282131:True:=⟨⟩
theorem tw5298489418415988157:True:=⟨⟩
theorem tw10646440872458606015:True:=⟨⟩
theorem tw18298772407127835835:True:=⟨⟩
theorem tw11895107557860428575:True:=⟨⟩
theorem tw2113873557803271943:True:=⟨⟩
theorem tw5026334949168702688:True:=⟨⟩
theorem tw18360305627575414138:True:=⟨⟩
theorem tw7554617832068866827:True:=⟨⟩
theorem tw3399914008061989843:True:=⟨⟩
theorem tw16146467614474607471:True:=⟨⟩
theorem tw3492288408325815823:True:=⟨⟩
theorem tw14210136959577165286:True:=⟨⟩
theorem tw14138657190450394031:True:=⟨⟩
theorem tw17811124102193009827:True:=⟨⟩
theorem tw1408643754629786574:True:=⟨⟩
theorem tw14210347475214615288:True:=⟨⟩
theorem tw2866762485878326962:True:=⟨⟩
theorem tw6290935078522107318:True:=⟨⟩
theorem tw9820092311188818663:True:=⟨⟩
theorem tw10572377156740759009:True:=⟨⟩
theorem tw13957015861670933409:True:=⟨⟩
theorem tw17102697791580665543:True:=⟨⟩
theorem tw2322899494635639864:True:=⟨⟩
theorem tw277956277048989545:True:=⟨⟩
theorem tw12098841623587003938:True:=⟨⟩
theorem tw16082985943285925700:True:=⟨⟩
theorem tw1216214537169058174:True:=⟨⟩
theorem tw1805076034563145428:True:=⟨⟩
theorem tw12592763673112190360:True:=⟨⟩
theorem tw4342979191836151139:True:=⟨⟩
theorem tw12917068812700948330:True:=⟨⟩
theorem tw17104261115153356442:True:=⟨⟩
theorem tw12817342747312729240:True:=⟨⟩
theorem tw4646766743894347887:True:=⟨⟩
theorem tw10363397042353084619:True:=⟨⟩
theorem tw8438345286084550401:True:=⟨⟩
theorem tw6215942924536064556:True:=⟨⟩
theorem tw13509293624360297667:True:=⟨⟩
theorem tw2152406839385237561:True:=⟨⟩
theorem tw13008058057271722426:True:=⟨⟩
theorem tw16042817900831398115:True:=⟨⟩
theorem tw4119281935067670685:True:=⟨⟩
theorem tw15994946465247399122:True:=⟨⟩
theorem tw18056225068971554379:True:=⟨⟩
theorem tw12386505644240944467:True:=⟨⟩
theorem tw3258576464762202218:True:=⟨⟩
theorem tw11631049921424552289:True:=⟨⟩
theorem tw5069533621952588852:True:=⟨⟩
theorem tw14333514238203125731:True:=⟨⟩
theorem tw15697259676000581961:True:=⟨⟩
theorem tw13958949689008296398:True:=⟨⟩
theorem tw17556159553709234618:True:=⟨⟩
theorem tw6692402014956717564:True:=⟨⟩
theorem tw1360869427444092277:True:=⟨⟩
theorem tw590332039440509166:True:=⟨⟩
theorem tw3709627862488103200:True:=⟨⟩
theorem tw5879118158915178413:True:=⟨⟩
theorem tw17459878755390344045:True:=⟨⟩
theorem tw8314005459228749077:True:=⟨⟩
theorem tw6850814976310700144:True:=⟨⟩
theorem tw13240278566981463139:True:=⟨⟩
theorem tw15890306631018541195:True:=⟨⟩
theorem tw6741677523221046337:True:=⟨⟩
theorem tw14589841837332117815:True:=⟨⟩
theorem tw613684446041714650:True:=⟨⟩
theorem tw9407211606999514532:True:=⟨⟩
theorem tw9421120465307812198:True:=⟨⟩
theorem tw11760237376946140309:True:=⟨⟩
theorem tw17259212507361770053:True:=⟨⟩
theorem tw1113626756739953016:True:=⟨⟩
theorem tw14186716927844451597:True:=⟨⟩
theorem tw14411398476044439186:True:=⟨⟩
theorem tw15090334720759745720:True:=⟨⟩
theorem tw4726695123104723576:True:=⟨⟩
theorem tw4363641429880856925:True:=⟨⟩
theorem tw17124310810721718100:True:=⟨⟩
theorem tw17707786913502408513:True:=⟨⟩
theorem tw2846089964171387774:True:=⟨⟩
theorem tw12096929511218260564:True:=⟨⟩
theorem tw4457325905606434691:True:=⟨⟩
theorem tw13915508821777875840:True:=⟨⟩
theorem tw2923766378387918266:True:=⟨⟩
theorem tw8693317097390669948:True:=⟨⟩
theorem tw16144629312417895638:True:=⟨⟩
theorem tw17627931525532516037:True:=⟨⟩
theorem tw175885517741405504:True:=⟨⟩
theorem tw2269974444333940777:True:=⟨⟩
theorem tw1770701838876446836:True:=⟨⟩
theorem tw1704681659437907986:True:=⟨⟩
theorem tw295354841499864202:True:=⟨⟩
theorem tw11251100339111850944:True:=⟨⟩
theorem tw6004318663559886923:True:=⟨⟩
theorem tw5096096656372433407:True:=⟨⟩
theorem tw69207908887055593:True:=⟨⟩
theorem tw6413323700690304182:True:=⟨⟩
theorem tw15683665666816249147:True:=⟨⟩
theorem tw4908999559812987963:True:=⟨⟩
theorem tw1612741972946098408:True:=⟨⟩
theorem tw5518512288308336262:True:=⟨⟩
theorem tw9127514104437841957:True:=⟨⟩
theorem tw6886057521872997124:True:=⟨⟩
theorem tw8563067825169172409:True:=⟨⟩
theorem tw12879798509327200165:True:=⟨⟩
theorem tw14450121250793361295:True:=⟨⟩
theorem tw10023750929700431745:True:=⟨⟩
theorem tw8671775490564336363:True:=⟨⟩
theorem tw14531081996593166045:True:=⟨⟩
theorem tw5384913154088103841:True:=⟨⟩
theorem tw8819531824993508681:True:=⟨⟩
theorem tw1896294721447233001:True:=⟨⟩
theorem tw7076785722441596110:True:=⟨⟩
theorem tw16104982145268602243:True:=⟨⟩
theorem tw8762300663180297606:True:=⟨⟩
theorem tw15011504355321329374:True:=⟨⟩
theorem tw1820489677541221556:True:=⟨⟩
theorem tw8272780205180506242:True:=⟨⟩
theorem tw12242154467618337611:True:=⟨⟩
theorem tw2971862214713159473:True:=⟨⟩
theorem tw1020569988851391690:True:=⟨⟩
theorem tw8605443377989145438:True:=⟨⟩
theorem tw4432038900306915615:True:=⟨⟩
theorem tw15268005681090970992:True:=⟨⟩
theorem tw6046558271607369503:True:=⟨⟩
theorem tw2805457133584083499:True:=⟨⟩
theorem tw10429729727057318128:True:=⟨⟩
theorem tw8020504169188059925:True:=⟨⟩
theorem tw9664906386802807492:True:=⟨⟩
theorem tw13816827224293346831:True:=⟨⟩
theorem tw10748248970463675410:True:=⟨⟩
theorem tw3694314268106755216:True:=⟨⟩
theorem tw16203849601613999531:True:=⟨⟩
theorem tw14519070551859474617:True:=⟨⟩
theorem tw9782066756803330117:True:=⟨⟩
theorem tw5598763273563615615:True:=⟨⟩
theorem tw6533936306512250505:True:=⟨⟩
theorem tw10904914998384355475:True:=⟨⟩
theorem tw16519905874917326625:True:=⟨⟩
theorem tw10114393098464317597:True:=⟨⟩
theorem tw3270579150742967083:True:=⟨⟩
theorem tw13680744287674892613:True:=⟨⟩
theorem tw2446171235338016101:True:=⟨⟩
theorem tw3056299743915238749:True:=⟨⟩
theorem tw4744013566344523661:True:=⟨⟩
theorem tw5960008148050194890:True:=⟨⟩
theorem tw13790099197237200458:True:=⟨⟩
theorem tw6548811200289566780:True:=⟨⟩
theorem tw767946097794537572:True:=⟨⟩
theorem tw2098134862131876342:True:=⟨⟩
theorem tw3739277002578155410:True:=⟨⟩
theorem tw15411853230061565556:True:=⟨⟩
theorem tw7079351686272099353:True:=⟨⟩
theorem tw14186879557951982441:True:=⟨⟩
theorem tw429303016166951063:True:=⟨⟩
theorem tw9114576497704449570:True:=⟨⟩
theorem tw6520106817519198487:True:=⟨⟩
theorem tw15540605931944082075:True:=⟨⟩
theorem tw16109249708121872332:True:=⟨⟩
theorem tw15366851378374026899:True:=⟨⟩
theorem tw17917042388315964524:True:=⟨⟩
theorem tw17864511090891884429:True:=⟨⟩
theorem tw1441800536510557473:True:=⟨⟩
theorem tw441593872699641070:True:=⟨⟩
theorem tw3354394296156139136:True:=⟨⟩
theorem tw548905224235949289:True:=⟨⟩
theorem tw708095467709483248:True:=⟨⟩
theorem tw16938427595836943253:True:=⟨⟩
theorem tw6682618904778229188:True:=⟨⟩
theorem tw13063351932550855732:True:=⟨⟩
theorem tw15183134094776957709:True:=⟨⟩
theorem tw16654146867958685061:True:=⟨⟩
theorem tw6438083363017991209:True:=⟨⟩
theorem tw17663973204664192356:True:=⟨⟩
theorem tw17781303267335612146:True:=⟨⟩
theorem tw2644651641626131430:True:=⟨⟩
theorem tw18180144423803490616:True:=⟨⟩
theorem tw9832056781732461941:True:=⟨⟩
theorem tw14097234652513991747:True:=⟨⟩
theorem tw11348018023073998390:True:=⟨⟩
theorem tw4550035046911588555:True:=⟨⟩
theorem tw6320932222580011477:True:=⟨⟩
theorem tw10992514466524506399:True:=⟨⟩
theorem tw5796959157735236455:True:=⟨⟩
theorem tw14697699734304726283:True:=⟨⟩
theorem tw13196969666915865505:True:=⟨⟩
theorem tw12131317872369448079:True:=⟨⟩
theorem tw5607865822105533628:True:=⟨⟩
theorem tw13087281246532836168:True:=⟨⟩
theorem tw6824000506249326246:True:=⟨⟩
theorem tw111546326477862369:True:=⟨⟩
theorem tw16286918724275284882:True:=⟨⟩
theorem tw16860884689205716918:True:=⟨⟩
theorem tw8727667108320299775:True:=⟨⟩
theorem tw7658509947779841180:True:=⟨⟩
theorem tw4375906892051424938:True:=⟨⟩
theorem tw13402463208411066535:True:=⟨⟩
theorem tw17450395937662234594:True:=⟨⟩
theorem tw10434125093027528662:True:=⟨⟩
theorem tw11741434320885018302:True:=⟨⟩
theorem tw4623285746477562028:True:=⟨⟩
theorem tw10233666060508078369:True:=⟨⟩
theorem tw6460978787186490733:True:=⟨⟩
theorem tw3347410312272881613:True:=⟨⟩
theorem tw12743596489510053645:True:=⟨⟩
theorem tw6221079054649807420:True:=⟨⟩
theorem tw16944242912364828577:True:=⟨⟩
theorem tw4296428847393268015:True:=⟨⟩
theorem tw6485981637040151125:True:=⟨⟩
theorem tw10880409060437421226:True:=⟨⟩
theorem tw4081253272611829202:True:=⟨⟩
theorem tw6419797905837255333:True:=⟨⟩
theorem tw544475971508452734:True:=⟨⟩
theorem tw12550041162619217438:True:=⟨⟩
theorem tw8881671473166785278:True:=⟨⟩
theorem tw6160994869749936504:True:=⟨⟩
theorem tw12818411433330870687:True:=⟨⟩
theorem tw7131345151283635386:True:=⟨⟩
theorem tw6281909408904968593:True:=⟨⟩
theorem tw17757836630500892077:True:=⟨⟩
theorem tw1075957597729834196:True:=⟨⟩
theorem tw16388050389367394790:True:=⟨⟩
theorem tw11360576778643850371:True:=⟨⟩
theorem tw15095502374876317446:True:=⟨⟩
theorem tw16173628864195616456:True:=⟨⟩
theorem tw5237825547931441093:True:=⟨⟩
theorem tw8963048630334347588:True:=⟨⟩
theorem tw8900642344154208712:True:=⟨⟩
theorem tw7768640509428380919:True:=⟨⟩
theorem tw1054131064841590138:True:=⟨⟩
theorem tw1553813729885669219:True:=⟨⟩
theorem tw12681316328560361673:True:=⟨⟩
theorem tw13448041276807817888:True:=⟨⟩
theorem tw14165754247786040452:True:=⟨⟩
theorem tw15566914051779302518:True:=⟨⟩
theorem tw2786938332071873438:True:=⟨⟩
theorem tw11399602876531270477:True:=⟨⟩
theorem tw6097506437505313386:True:=⟨⟩
theorem tw13929231814776464398:True:=⟨⟩
theorem tw15442257051353007093:True:=⟨⟩
theorem tw14325206519930194771:True:=⟨⟩
theorem tw8620103239672924331:True:=⟨⟩
theorem tw14992232195248354908:True:=⟨⟩
theorem tw15705595122933558330:True:=⟨⟩
theorem tw8013880707349276964:True:=⟨⟩
theorem tw5548576111894612077:True:=⟨⟩
theorem tw8019660047247443435:True:=⟨⟩
theorem tw2387662786842123496:True:=⟨⟩
theorem tw238141349628542764:True:=⟨⟩
theorem tw10678605142855485319:True:=⟨⟩
theorem tw9694939778693159338:True:=⟨⟩
theorem tw16756705969568236158:True:=⟨⟩
theorem tw14878278106671640231:True:=⟨⟩
theorem tw15979409617952795954:True:=⟨⟩
theorem tw1805016574508456976:True:=⟨⟩
theorem tw7581254098206493910:True:=⟨⟩
theorem tw14274720738970439196:True:=⟨⟩
theorem tw5525084267535977515:True:=⟨⟩
theorem tw13787221883963101622:True:=⟨⟩
theorem tw6110623311750538367:True:=⟨⟩
theorem tw8340489694758900570:True:=⟨⟩
theorem tw352808059787073156:True:=⟨⟩
theorem tw13255749546867521346:True:=⟨⟩
theorem tw6911228322654564314:True:=⟨⟩
theorem tw2482952566818362047:True:=⟨⟩
theorem tw15685293092127445383:True:=⟨⟩
theorem tw5334076116460939554:True:=⟨⟩
theorem tw10881225870179457559:True:=⟨⟩
theorem tw14211521632297365093:True:=⟨⟩
theorem tw13098202795181942874:True:=⟨⟩
theorem tw10274861394021675155:True:=⟨⟩
theorem tw13524973769120841808:True:=⟨⟩
theorem tw15995355085539279031:True:=⟨⟩
theorem tw2599959690266954995:True:=⟨⟩
theorem tw5492478887153508600:True:=⟨⟩
theorem tw16020278923052997339:True:=⟨⟩
theorem tw5863705522440037420:True:=⟨⟩
theorem tw14331214192557018041:True:=⟨⟩
theorem tw15207185557956436935:True:=⟨⟩
theorem tw12083933308451421627:True:=⟨⟩
theorem tw2923438732063298647:True:=⟨⟩
theorem tw6618366665818011711:True:=⟨⟩
theorem tw11435346658872036566:True:=⟨⟩
theorem tw11999622886288009741:True:=⟨⟩
theorem tw12838945262907958650:True:=⟨⟩
theorem tw9601449112871841410:True:=⟨⟩
theorem tw7974861504713940196:True:=⟨⟩
theorem tw4038530631761614653:True:=⟨⟩
theorem tw7369510453468713215:True:=⟨⟩
theorem tw6490976294439471753:True:=⟨⟩
theorem tw16301263994033805663:True:=⟨⟩
theorem tw4274479345194418733:True:=⟨⟩
theorem tw14435465491771023496:True:=⟨⟩
theorem tw5518275251729341549:True:=⟨⟩
theorem tw18432187341903814483:True:=⟨⟩
theorem tw3068869385886603700:True:=⟨⟩
theorem tw13545984446609624316:True:=⟨⟩
theorem tw10555848106327549736:True:=⟨⟩
end PySem.W.Fast
open PySem PySem.W PyProof.Rows
set_option maxRecDepth 100000 in
set_option maxHeartbeats 0 in
theorem PySem.Challenge.cw_castoff_k62_the_first_lack_holds : PySem.Challenge.rw_castoff_k62_the_first_lack.Holds := by
 w_on;o_law;k_head;(case hw=>w_witness2)
 k_fill
 refine L2.walk_ofKT (l:=PySem.Challenge.rw_castoff_k62_the_first_lack) (n:=63) (k:=12) (x:="_law_script") (CX:=L2.CX0) (sp:=N62.sp62_law 1131) (tp:=1131) rfl (by decide) rfl ⟨rfl,by decide,by decide⟩ (fun w h Y=>PySem.W.km_in_of Y) (fun w h Y=>PySem.W.km_tabs_of Y _ (by simp)) (fun w=>by kernel_rfl) ?F ?S ?C
 case F=>
  intro w mg fa h KX G hmg
  refine' K62.all_mk KX G hmg ?a0 ?FF0 ?a1 ?FF1 ?a2 ?FF2 ?a3 ?FF3 ?a4 ?FF4 ?a5 ?FF5 ?MI6 ?FF6 ?MM7 ?FF7 ?MM8 ?FF8 ?MM9 ?FF9 ?a10 ?FF10 ?MI11 ?FF11 ?MM12 ?FF12 ?MM13 ?FF13 ?MM14 ?FF14 ?MM15 ?FF15 ?MM16 ?FF16 ?a17 ?FF17 ?a18 ?FF18 ?a19 ?FF19 ?a20 ?l20 ?c20 ?n20 ?k20 ?m20 ?kf20 ?fc20 ?sc20 ?rc20 ?a21 ?l21 ?c21 ?n21 ?k21 ?m21 ?kf21 ?fc21 ?sc21 ?rc21 ?MI22 ?FF22 ?MI23 ?FF23 ?MI24 ?FF24 ?MM25 ?FF25 ?MM26 ?FF26 ?MM27 ?FF27 ?a28 ?l28 ?c28 ?n28 ?k28 ?gv28 ?tv28 ?MM29 ?FF29 ?MM30 ?FF30 ?MM31 ?FF31 ?MM32 ?FF32 ?MM33 ?FF33 ?a34 ?l34 ?c34 ?n34 ?k34 ?gv34 ?tv34 ?MM35 ?FF35 ?MM36 ?FF36 ?MM37 ?FF37 ?MM38 ?FF38 ?MM39 ?FF39 ?MM40 ?FF40 ?MM41 ?FF41 ?a42 ?FF42 ?a43 ?FF43 ?a44 ?FF44 ?a45 ?FF45 ?a46 ?FF46 ?a47 ?FF47 ?a48 ?FF48 ?a49 ?FF49 ?a50 ?FF50 ?a51 ?FF51 ?a52 ?FF52 ?a53 ?FF53 ?a54 ?FF54 ?a55 ?FF55 ?a56 ?FF56 ?a57 ?FF57 ?a58 ?FF58 ?a59 ?FF59 ?a60 ?FF60 ?a61 ?FF61 ?a62 ?l62 ?c62 ?k62 ?mc62 ?mh62 ?a63 ?FF63 ?a64 ?l64 ?c64 ?k64 ?Z0e ?Ze ?Z2u ?Z3f ?Z47 ?Z14 ?Z3g ?Z4s ?Z11 ?Z2v ?Z0h ?Z4t ?Z4u ?Z3h ?Z1c ?Z4v ?Z12 ?Z1j ?Z0o ?Z0g ?Z0t ?Z02 ?Z0u ?Z48 ?EE_Stock ?Zc ?Z49 ?EE_Shelf ?Zr ?Zy ?Zh ?Z52 ?EE_Rule ?Z13 ?Z0v ?Z3r ?EE_Ranked ?Z0r ?Z0n ?Z0d ?Z0w ?Z3s ?EE_Oldest ?Zu ?Zp ?Zg ?Zs ?Z4a ?EE_First ?Z00 ?Zz ?Zl ?Z07 ?Zv ?Z53 ?EE_Hand ?Z08 ?Z01 ?Zd ?Zm ?Z29 ?Z2t ?Z1i ?Z1b ?Z3c ?Z3d ?Z3e ?Z4r ?Z1k ?Z1l ?Z1m ?wT0_MAKERS ?wT1_MAKERS ?wT2_MAKERS ?wT3_MAKERS ?wT4_MAKERS ?wT5_MAKERS ?wT6_MAKERS
  case Z48|Z49|Z52|Z3r|Z3s|Z4a|Z53|Z29|Z2t|Z1i|Z1b|Z3c|Z3d|Z3e|Z4r|a0|a1|a2|a3|a4|a5|a10|a17|a18|a19|a20|l20|c20|n20|k20|m20|kf20|fc20|sc20|rc20|a21|l21|c21|n21|k21|m21|kf21|fc21|sc21|rc21|a28|l28|c28|n28|k28|gv28|tv28|a34|l34|c34|n34|k34|gv34|tv34|a42|a43|a44|a45|a46|a47|a48|a49|a50|a51|a52|a53|a54|a55|a56|a57|a58|a59|a60|a61|a62|l62|c62|k62=>k_is
  case mc62=>rfl
  (case mh62=>kernel_rfl)
  case a63|a64|l64|c64|k64|Z0e|Ze|Z2u|Z3f|Z47|Z14|Z3g|Z4s|Z11|Z2v|Z0h|Z4t|Z4u|Z3h|Z1c|Z4v|Z12|Z1j|Z0o|Z0g|Z0t|Z02|Z0u|Zc|Zr|Zy|Zh|Z13|Z0v|Z0r|Z0n|Z0d|Z0w|Zu|Zp|Zg|Zs|Z00|Zz|Zl|Z07|Zv|Z08|Z01|Zd|Zm|Z1k=>k_is
  (case Z1l=>exact ⟨⟨_,_,rfl,rfl⟩,⟨_,_,rfl,rfl⟩,⟨_,_,rfl,rfl⟩,⟨_,_,rfl,rfl⟩,⟨_,_,rfl,rfl⟩,⟨_,_,rfl,rfl⟩,⟨_,_,rfl,rfl⟩,trivial⟩)
  (case Z1m=>first | k_is | rfl | decide)
  case wT0_MAKERS|wT1_MAKERS|wT2_MAKERS|wT3_MAKERS|wT4_MAKERS|wT5_MAKERS|wT6_MAKERS=>k_is
  case EE_Stock|EE_Shelf|EE_Rule|EE_Ranked|EE_Oldest|EE_First|EE_Hand|MI6|MI11|MI22|MI23|MI24=>refine' ⟨?j1,?j2,?j3,?j4⟩;case j1|j2|j3|j4=>k_is
  case MM7|MM8|MM9|MM12|MM13|MM14|MM15|MM16|MM25|MM26|MM27|MM29|MM30|MM31|MM32|MM33|MM35|MM36|MM37|MM38|MM39|MM40|MM41=>refine' ⟨?j1,?j2,?j3⟩;case j1|j2|j3=>k_is
  case FF0|FF1|FF2|FF3|FF4|FF5|FF6|FF7|FF8|FF9|FF10|FF11|FF12|FF13|FF14|FF15|FF16|FF17|FF18|FF19|FF22|FF23|FF24|FF25|FF26|FF27|FF29|FF30|FF31|FF32|FF33|FF35|FF36|FF37|FF38|FF39|FF40|FF41|FF42|FF43|FF44|FF45|FF46|FF47|FF48|FF49|FF50|FF51|FF52|FF53|FF54|FF55|FF56|FF57|FF58|FF59|FF60|FF61|FF63=>refine' L2.fun_mk ?l ?c ?k;case l|c|k=>k_is
 case S=>exact fun K H a ns hl hO hS=>⟨a,ns,rfl,hS,hl,hO.1,fun _=>rfl⟩
 case C=>exact fun H s e s' z=>z
