import PyProof.Rows.All
import KE.KSuperObj
import KE.KPairComp
import KE.KLam
import KE.KNestM
import KE.KItemsList
import KE.KUnpack
import KE.KEqDict
import KE.KFromBytes
import KE.KMinKey
import KE.KIntText
import KE.KRevIter
import KE.KDictOf
import KE.KTryMore
import KE.KBoundM
import KE.KNestM
import KE.KLam
import PySem.Challenge.RW_castoff_k38_walks_refused
set_option linter.all false
set_option Elab.async false
set_option maxRecDepth 100000
set_option maxHeartbeats 4000000
open PySem PySem.Spec PyProof.Rows
namespace L2
noncomputable abbrev Key:=Sum Int Str
noncomputable def keyIs:Key→Value→Bool
 | .inl k,v=>Value.isInt k v
 | .inr x,v=>Value.isStrOf x v
noncomputable def keyH(w:World):Key→Int
 | .inl k=>hashInt k
 | .inr x=>hashStr w x
theorem keyIs_shape:∀{k:Key} {v:Value},keyIs k v=true→(∃i t,k=Sum.inl i∧v=Value.int i t)∨(∃x t,k=Sum.inr x∧v=Value.str x t)
 | .inl i,v,h=>by
  obtain ⟨t,e⟩:=Value.isInt_shape (k:=i) (v:=v) h
  exact .inl ⟨i,t,rfl,e⟩
 | .inr x,v,h=>by
  obtain ⟨t,e⟩:=Value.isStrOf_shape (x:=x) (v:=v) h
  exact .inr ⟨x,t,rfl,e⟩
theorem keyIs_int(i:Int)(t:Tok):keyIs (.inl i) (.int i t)=true:=by simp [keyIs,Value.isInt]
theorem keyIs_str(x:Str)(t:Tok):keyIs (.inr x) (.str x t)=true:=by simp [keyIs,Value.isStrOf]
theorem key_ll(a b:Int):decide ((Sum.inl a:Key)=Sum.inl b)=(a==b):=by
 by_cases e:a=b
 · subst e;simp
 · have h:¬(Sum.inl a:Key)=Sum.inl b:=fun q=>e (Sum.inl.inj q)
   rw [decide_eq_false h]
   exact (beq_eq_false_iff_ne.mpr e).symm
theorem key_rr(a b:Str):decide ((Sum.inr a:Key)=Sum.inr b)=decide (a=b):=by
 by_cases e:a=b
 · subst e;simp
 · have h:¬(Sum.inr a:Key)=Sum.inr b:=fun q=>e (Sum.inr.inj q)
   rw [decide_eq_false h,decide_eq_false e]
theorem key_lr(a:Int)(b:Str):decide ((Sum.inl a:Key)=Sum.inr b)=false:=decide_eq_false (fun q=>nomatch q)
theorem key_rl(a:Str)(b:Int):decide ((Sum.inr a:Key)=Sum.inl b)=false:=decide_eq_false (fun q=>nomatch q)
noncomputable def mixKind(prog:Program)(w:World):PySem.KeyKind prog w Key where
 is:=keyIs
 hash:=keyH w
 inj:=fun v a b ha hb=>by
  rcases keyIs_shape ha with ⟨i,t,rfl,rfl⟩ | ⟨x,t,rfl,rfl⟩
  · rcases keyIs_shape hb with ⟨j,u,rfl,e⟩ | ⟨y,u,rfl,e⟩
    · injection e with e1 _;rw [e1]
    · exact nomatch e
  · rcases keyIs_shape hb with ⟨j,u,rfl,e⟩ | ⟨y,u,rfl,e⟩
    · exact nomatch e
    · injection e with e1 _;rw [e1]
 byValue:=fun k v h=>by
   rcases keyIs_shape h with ⟨i,t,rfl,rfl⟩ | ⟨x,t,rfl,rfl⟩ <;> rfl
 pyHash:=fun hv h=>by
  rcases keyIs_shape hv with ⟨i,t,rfl,rfl⟩ | ⟨x,t,rfl,rfl⟩
  · exact wpAny_pyHash_int h
  · exact wpAny_pyHash_str h
 eqBool:=fun hu hv h=>by
  rcases keyIs_shape hu with ⟨i,t,rfl,rfl⟩ | ⟨x,t,rfl,rfl⟩
  · rcases keyIs_shape hv with ⟨j,u,rfl,rfl⟩ | ⟨y,u,rfl,rfl⟩
    · rw [key_ll]at h;exact wpAny_eqBool_int h
    · rw [key_lr]at h;exact SeqAt.EqAt.int_str i t y u _ _ _ _ h
  · rcases keyIs_shape hv with ⟨j,u,rfl,rfl⟩ | ⟨y,u,rfl,rfl⟩
    · rw [key_rl]at h;exact SeqAt.EqAt.str_int x t j u _ _ _ _ h
    · rw [key_rr]at h;exact wpAny_eqBool_str h
 «strs»:=fun k x t v h=>by
  rcases keyIs_shape h with ⟨i,u,rfl,e⟩ | ⟨y,u,rfl,e⟩
  · exact nomatch e
  · injection e with e1 _
    subst e1
    cases v <;> rfl
theorem mixKind_int(prog:Program)(w:World)(i:Int)(t:Tok):(mixKind prog w).is (.inl i) (.int i t)=true:=keyIs_int i t
theorem mixKind_str(prog:Program)(w:World)(x:Str)(t:Tok):(mixKind prog w).is (.inr x) (.str x t)=true:=keyIs_str x t
end L2
namespace L2
inductive V where
 | non | bl (b:Bool) | int (i:Int) | str (x:Str) | byt (b:Array UInt8) | flt (b:UInt64) | ref (a:Addr) | ty (n:String)
 deriving DecidableEq
noncomputable def RelV:V→Value→Prop
 | .non,u=>u=Value.none
 | .bl b,u=>u=Value.bool b
 | .int i,u=>∃t,u=Value.int i t
 | .str x,u=>∃t,u=Value.str x t
 | .byt b,u=>∃t,u=Value.bytes b t
 | .flt b,u=>∃t,u=Value.float b t
 | .ref a,u=>u=Value.ref a
 | .ty n,u=>u=Value.type n
noncomputable abbrev Vals:List V→List Value→Prop:=Paired RelV
theorem Vals.length{xs:List V}{us:List Value}(r:Vals xs us):xs.length=us.length:=Paired.length r
theorem Vals.get:∀{xs:List V} {us:List Value} {i:Nat} {x:V},Vals xs us→xs[i]?=some x→∃u,us[i]?=some u∧RelV x u
 | _,_,_,_,.nil,e=>by simp at e
 | _,_,0,_,.cons r _,e=>by simp at e;subst e;exact ⟨_,rfl,r⟩
 | _,_,i+1,x,.cons _ t,e=>by
  obtain ⟨u,h1,h2⟩:=Vals.get (i:=i) (x:=x) t (by simpa using e)
  exact ⟨u,by simpa using h1,h2⟩
theorem Vals.set{x:V}{u:Value}(r:RelV x u):∀{xs:List V} {us:List Value} (i:Nat),Vals xs us→Vals (xs.set i x) (us.set i u)
 | _,_,_,.nil=> .nil
 | _,_,0,.cons _ t=> .cons r t
 | _,_,i+1,.cons q t=> .cons q (Vals.set r i t)
theorem Vals.append:∀{xs ys:List V} {us ws:List Value},Vals xs us→Vals ys ws→Vals (xs++ys) (us++ws)
 | _,_,_,_,.nil,s=>s
 | _,_,_,_,.cons r t,s=> .cons r (Vals.append t s)
theorem Vals.take:∀{xs:List V} {us:List Value} (n:Nat),Vals xs us→Vals (xs.take n) (us.take n)
 | _,_,0,_=> .nil
 | _,_,_+1,.nil=> .nil
 | _,_,n+1,.cons r t=> .cons r (Vals.take n t)
theorem Vals.drop:∀{xs:List V} {us:List Value} (n:Nat),Vals xs us→Vals (xs.drop n) (us.drop n)
 | _,_,0,r=>r
 | _,_,_+1,.nil=> .nil
 | _,_,n+1,.cons _ t=>Vals.drop n t
noncomputable def RelO:Option V→Option Value→Prop
 | some v,some u=>RelV v u
 | none,none=>True
 | _,_=>False
noncomputable def KV{κ:Type}:List (κ×V)→List (κ×Value)→Prop:=Paired fun (p:κ×V) (q:κ×Value)=>p.1=q.1∧RelV p.2 q.2
noncomputable def kV:Key→V
 | .inl i=> .int i
 | .inr x=> .str x
inductive HO where
 | lst (xs:List V)
 | tup (xs:List V)
 | dK (kvs:List (Key×V)) | dT (kvs:List (List Key×V))
 | set (S:Int→Bool) (n:Nat)
 | ins (C dx:Addr) (fs:List (Str×V))
 | own (x:Addr)
 | xd (fs:List (Str×V))
 | met (f x:Addr)
 | rng (lo hi:Int)
 | frz (o:Obj) (u:HO)
 | tbl (ps:Array Value)
 | ext (φ:Heap→Prop)
noncomputable abbrev Hp:=Addr→Option HO
noncomputable def upd(H:Hp)(a:Addr)(o:HO):Hp:=fun b=>if b=a then some o else H b
theorem upd_same{H:Hp}{a:Addr}{o:HO}:upd H a o a=some o:=by unfold upd;rw [if_pos rfl]
theorem upd_ne{H:Hp}{a b:Addr}{o:HO}(h:b≠a):upd H a o b=H b:=by unfold upd;rw [if_neg h]
theorem upd_upd{H:Hp}{a:Addr}{o u:HO}:upd (upd H a o) a u=upd H a u:=by
 funext b;unfold upd;split <;> rfl
theorem ne_of{H:Hp}{a b:Addr}{o u:HO}(h:H a=some o)(h':H b=some u)(d:o≠u):a≠b:=by
 intro e;subst e;rw [h]at h';exact d (Option.some.inj h')
theorem ne_of_none{H:Hp}{a b:Addr}{o:HO}(h:H a=some o)(h':H b=none):a≠b:=by
 intro e;subst e;rw [h]at h';cases h'
section
variable (P:Program) (w:World)
noncomputable def ObjOk(H:Hp)(h:Heap)(a:Addr):HO→Prop
 | .lst xs=>xs.length≤sizeLine∧∃(its:List Value) (n:Nat),Vals xs its∧h.get? a=some {cls:= .type "list",data:= .seq its.toArray n}
 | .tup xs=>xs.length≤sizeLine∧∃its:List Value,Vals xs its∧IsTup h a its.toArray
 | .dK kvs=>kvs.length≤sizeLine∧(a==sysModules)=false∧∃vs,KV kvs vs∧h.DictOf (mixKind P w) a vs
 | .dT kvs=>kvs.length≤sizeLine∧(a==sysModules)=false∧∃xs:List (List Key×Addr×Value),
  Paired (fun (p:List Key×V) (q:List Key×Addr×Value)=>p.1=q.1∧H q.2.1=some (.tup (p.1.map kV))∧RelV p.2 q.2.2) kvs xs∧
  ∃o es ep,h.get? a=some o∧o.ExactDict∧o.data= .dict es ep∧es.toList=xs.map (entryOfKey (tupleKind (mixKind P w)))∧(xs.map (·.1)).Nodup
 | .set S n=>h.SetOf (intKind P w) a S n
 | .ins C dx fs=>H dx=some (.own a)∧fs.length≤1000∧dx≠a∧h.get? a=some (PySem.W.instObj C dx)∧
  ∃mA,h.Ns1 dx mA∧(∀f,RelO (fs.lookup f) (mA f))∧PySem.Within mA (fs.map (·.1))
 | .own _=>∃o,h.get? a=some o
 | .xd fs=>∃mA,h.Ns1 a mA∧∀f,RelO (fs.lookup f) (mA f)
 | .rng lo hi=>∃t u v,h.get? a=some {cls:= .type "range",data:= .fields #[.int lo t,.int hi u,.int 1 v]}
 | .frz o u=>h.get? a=some o∧ObjOk H h a u
 | .tbl ps=>h.get? a=some {cls:= .none,data:= .fields ps}
 | .met f x=>h.get? a=some (PySem.W.methodObj (.ref f) (.ref x))
 | .ext φ=>φ h∧(∃o,h.get? a=some o)∧∀h1 h2:Heap,φ h1→(∀o,h1.get? a=some o→h2.get? a=some o)→φ h2
noncomputable def HOk(H:Hp)(h:Heap):Prop:=∀a o,H a=some o→ObjOk P w H h a o
end
section
variable {P:Program} {w:World} {H H':Hp} {h h':Heap} {a:Addr} {o:HO}
theorem ObjOk.lt(x:ObjOk P w H h a o):a < h.objs.size:=by
 cases o with
 | lst xs=>obtain ⟨_,_,_,_,e⟩:=x;exact Heap.lt_size e
 | tup xs=>obtain ⟨_,_,_,p⟩:=x;exact p.lt
 | dK kvs=>obtain ⟨_,_,_,_,o,_,_,e,_⟩:=x;exact Heap.lt_size e
 | dT kvs=>obtain ⟨_,_,_,_,o,_,_,e,_⟩:=x;exact Heap.lt_size e
 | set S n=>obtain ⟨o,_,_,_,e,_⟩:=x;exact Heap.lt_size e
 | ins C dx fs=>obtain ⟨_,_,_,e,_⟩:=x;exact Heap.lt_size e
 | own y=>obtain ⟨_,e⟩:=x;exact Heap.lt_size e
 | xd fs=>obtain ⟨_,⟨_,_,_,e,_⟩,_⟩:=x;exact Heap.lt_size e
 | rng lo hi=>obtain ⟨_,_,_,e⟩:=x;exact Heap.lt_size e
 | frz ob u=>obtain ⟨e,_⟩:=x;exact Heap.lt_size e
 | tbl ps=>exact Heap.lt_size (show h.get? a=some _ from x)
 | met f y=>exact Heap.lt_size (show h.get? a=some _ from x)
 | ext φ=>obtain ⟨_,⟨_,e⟩,_⟩:=x;exact Heap.lt_size e
theorem Paired.mapP{α β:Type}{F G:α→β→Prop}:∀{l₁:List α} {l₂:List β},Paired F l₁ l₂→(∀a b,F a b→G a b)→Paired G l₁ l₂
 | _,_,.nil,_=> .nil
 | _,_,.cons r t,f=> .cons (f _ _ r) (Paired.mapP t f)
theorem ObjOk.stay(x:ObjOk P w H h a o)(k:∀b u,(b=a∨H b=some (.own a))→h.get? b=some u→h'.get? b=some u)
 (ho:∀b,H b=some (.own a)→H' b=some (.own a)) (ht:∀b xs,H b=some (.tup xs)→H' b=some (.tup xs)):ObjOk P w H' h' a o:=by
 induction o with
 | lst xs=>obtain ⟨z,its,n,r,e⟩:=x;exact ⟨z,its,n,r,k _ _ (.inl rfl) e⟩
 | tup xs=>obtain ⟨z,its,r,ob,e,c⟩:=x;exact ⟨z,its,r,ob,k _ _ (.inl rfl) e,c⟩
 | dK kvs=>obtain ⟨z,y,vs,r,ob,es,ep,e,c⟩:=x;exact ⟨z,y,vs,r,ob,es,ep,k _ _ (.inl rfl) e,c⟩
 | dT kvs=>
  obtain ⟨z,y,xs,r,ob,es,ep,e,c⟩:=x
  exact ⟨z,y,xs,Paired.mapP r fun p q z=>⟨z.1,ht _ _ z.2.1,z.2.2⟩,ob,es,ep,k _ _ (.inl rfl) e,c⟩
 | set S n=>obtain ⟨ob,es,ep,t,e,c⟩:=x;exact ⟨ob,es,ep,t,k _ _ (.inl rfl) e,c⟩
 | ins C dx fs=>
  obtain ⟨d,z,ne,e,mA,⟨od,es,ep,e2,c⟩,r⟩:=x
  exact ⟨ho _ d,z,ne,k _ _ (.inl rfl) e,mA,⟨od,es,ep,k _ _ (.inr d) e2,c⟩,r⟩
 | own y=>obtain ⟨ob,e⟩:=x;exact ⟨ob,k _ _ (.inl rfl) e⟩
 | xd fs=>obtain ⟨mA,⟨od,es,ep,e,c⟩,r⟩:=x;exact ⟨mA,⟨od,es,ep,k _ _ (.inl rfl) e,c⟩,r⟩
 | rng lo hi=>obtain ⟨t,u,v,e⟩:=x;exact ⟨t,u,v,k _ _ (.inl rfl) e⟩
 | frz ob u ih=>obtain ⟨e,q⟩:=x;exact ⟨k _ _ (.inl rfl) e,ih q⟩
 | tbl ps=>
  have e:h.get? a=some {cls:= .none,data:= .fields ps}:=x
  show h'.get? a=some {cls:= .none,data:= .fields ps}
  exact k a _ (.inl rfl) e
 | met f y=>
  have e:h.get? a=some (PySem.W.methodObj (.ref f) (.ref y)):=x
  show h'.get? a=some (PySem.W.methodObj (.ref f) (.ref y))
  exact k a _ (.inl rfl) e
 | ext φ=>obtain ⟨p,⟨o,e⟩,st⟩:=x;exact ⟨st _ _ p fun o q=>k _ _ (.inl rfl) q,⟨o,k _ _ (.inl rfl) e⟩,st⟩
theorem HOk.lt(x:HOk P w H h)(e:H a=some o):a < h.objs.size:=(x a o e).lt
theorem HOk.fresh(x:HOk P w H h)(e:h.objs.size≤a):H a=none:=by
 cases q:H a with
 | none=>rfl
 | some u=>exact absurd (Nat.lt_of_lt_of_le (x.lt q) e) (Nat.lt_irrefl _)
theorem HOk.kept(x:HOk P w H h)(k:∀b u,h.get? b=some u→h'.get? b=some u):HOk P w H h':=fun a o e=>
 (x a o e).stay (fun b u _ q=>k b u q) (fun _ q=>q) fun _ _ q=>q
theorem HOk.laid(x:HOk P w H h)(k:∀b u,h.get? b=some u→h'.get? b=some u)(hp:h.objs.size≤a)(new:ObjOk P w (upd H a o) h' a o):HOk P w (upd H a o) h':=fun b u e=>by
 have hn:=x.fresh hp
 by_cases hb:b=a
 · subst hb;rw [upd_same]at e;cases e;exact new
 · rw [upd_ne hb]at e
   exact (x b u e).stay (fun c v _ q=>k c v q) (fun c q=>by rw [upd_ne (ne_of_none q hn)];exact q) fun c xs q=>by rw [upd_ne (ne_of_none q hn)];exact q
end
noncomputable def Rd(H:Hp)(a:Addr)(u:HO):Prop:=H a=some u∨∃o,H a=some (.frz o u)
theorem Rd.ok{P:Program}{w:World}{H:Hp}{h:Heap}{a:Addr}{u:HO}(r:Rd H a u)(x:HOk P w H h):ObjOk P w H h a u:=by
 rcases r with r | ⟨o,r⟩
 · exact x a u r
 · obtain ⟨_,q⟩:=x a _ r
   exact q
noncomputable def Mut:Option HO→Prop
 | some (.lst _)=>True
 | some (.dK _)=>True
 | some (.dT _)=>True
 | some (.set _ _)=>True
 | some (.ins _ _ _)=>True
 | some (.ext _)=>True
 | _=>False
section
variable {P:Program} {w:World} {H:Hp} {h h':Heap} {x e:Addr} {o':HO}
theorem HOk.write(ok:HOk P w H h)(mu:Mut (H x))(he:e=x∨H e=some (.own x))(k:∀b u,b≠e→h.get? b=some u→h'.get? b=some u)(heo:∃u,h'.get? e=some u)
 (new:ObjOk P w (upd H x o') h' x o'):HOk P w (upd H x o') h':=fun b u q=>by
 have nown:∀c y,H c=some (.own y)→c≠x:=fun c y r z=>by subst z;rw [r]at mu;exact mu
 have ntup:∀c xs,H c=some (.tup xs)→c≠x:=fun c xs r z=>by subst z;rw [r]at mu;exact mu
 by_cases hb:b=x
 · subst hb;rw [upd_same]at q;cases q;exact new
 · rw [upd_ne hb]at q
   by_cases hbe:b=e
   · have q':H b=some (.own x):=by
      rcases he with z | z
      · exact absurd (hbe.trans z) hb
      · rw [hbe];exact z
     rw [q]at q';cases q'
     obtain ⟨v,hv⟩:=heo
     exact ⟨v,by rw [hbe];exact hv⟩
   · refine (ok b u q).stay (fun c v hc r=>k c v ?_ r) (fun c r=>by rw [upd_ne (nown c b r)];exact r) fun c xs r=>by rw [upd_ne (ntup c xs r)];exact r
     rcases hc with rfl | hc
     · exact hbe
     · rintro rfl
       rcases he with z | z
       · exact nown c b hc z
       · rw [hc]at z;cases z;exact hb rfl
end
structure Un(fs ex:List Addr)(H H':Hp)(h h':Heap):Prop where
 keep:∀b o,h.get? b=some o→H b=none→b∉fs→b∉ex→h'.get? b=some o
 slot:∀b o,h.get? b=some o→H b=none→b∈fs→b∉ex→∃sl,h'.get? b=some {o with slots:=sl}
 free:∀b o,h.get? b=some o→H b=none→b∉ex→H' b=none
 there:∀b o,h.get? b=some o→b∉ex→∃o',h'.get? b=some o'
 tups:∀b xs,H b=some (.tup xs)→H' b=some (.tup xs)
 frzs:∀b o u,H b=some (.frz o u)→H' b=some (.frz o u)
 tbls:∀b ps,H b=some (.tbl ps)→∃more,H' b=some (.tbl (ps++more))
section
variable {fs fs' ex ex':List Addr} {H H1 H2:Hp} {h h1 h2 h':Heap} {a x e:Addr} {o:HO}
theorem Un.any(u:Un fs ex H H1 h h1){b:Addr}{ob:Obj}(q:h.get? b=some ob)(n:H b=none)(hx:b∉ex):∃sl,h1.get? b=some {ob with slots:=sl}:=by
 by_cases hb:b∈fs
 · exact u.slot b ob q n hb hx
 · exact ⟨ob.slots,u.keep b ob q n hb hx⟩
theorem Un.kept(k:∀b u,h.get? b=some u→h'.get? b=some u):Un fs ex H H h h':=
 ⟨fun b ob q _ _ _=>k b ob q,fun b ob q _ _ _=>⟨ob.slots,k b ob q⟩,fun _ _ _ n _=>n,fun b ob q _=>⟨ob,k b ob q⟩,fun _ _ q=>q,fun _ _ _ q=>q,fun _ ps q=>⟨#[],by rw [q];simp⟩⟩
theorem Un.refl:Un fs ex H H h h:=Un.kept fun _ _ q=>q
theorem Un.laid(k:∀b u,h.get? b=some u→h'.get? b=some u)(hp:h.objs.size≤a)(hn:H a=none):Un fs ex H (upd H a o) h h' where
 keep:=fun b u q _ _ _=>k b u q
 slot:=fun b u q _ _ _=>⟨u.slots,k b u q⟩
 free:=fun b u q n _=>by rw [upd_ne (Nat.ne_of_lt (Nat.lt_of_lt_of_le (Heap.lt_size q) hp))];exact n
 there:=fun b u q _=>⟨u,k b u q⟩
 tups:=fun b xs q=>by rw [upd_ne (ne_of_none q hn)];exact q
 frzs:=fun b u xs q=>by rw [upd_ne (ne_of_none q hn)];exact q
 tbls:=fun b ps q=>⟨#[],by rw [upd_ne (ne_of_none q hn),q];simp⟩
theorem Un.write(mu:Mut (H x))(he:e=x∨H e=some (.own x))(k:∀b u,b≠e→h.get? b=some u→h'.get? b=some u)(heo:∃u,h'.get? e=some u):Un fs ex H (upd H x o) h h':=by
 have hx:∀b,H b=none→b≠x:=fun b n z=>by subst z;rw [n]at mu;exact mu
 have hb:∀b,H b=none→b≠e:=fun b n z=>by
  subst z
  rcases he with r | r
  · exact hx b n r
  · rw [n]at r;cases r
 have hm:∀b u,H b=some u→¬Mut (some u)→b≠x:=fun b u q nm z=>by subst z;rw [q]at mu;exact nm mu
 refine ⟨fun b u q n _ _=>k b u (hb b n) q,fun b u q n _ _=>⟨u.slots,k b u (hb b n) q⟩,fun b u q n _=>by rw [upd_ne (hx b n)];exact n,fun b u q _=>?_,
  fun b xs q=>by rw [upd_ne (hm b _ q fun z=>z)];exact q,fun b u xs q=>by rw [upd_ne (hm b _ q fun z=>z)];exact q,fun b ps q=>⟨#[],by rw [upd_ne (hm b _ q fun z=>z),q];simp⟩⟩
 by_cases hbe:b=e
 · subst hbe;exact heo
 · exact ⟨u,k b u hbe q⟩
end
noncomputable def trk(h:Heap)(H:Hp):List Addr:=(List.range h.objs.size).filter fun a=>(H a).isSome
noncomputable def hidT(h:Heap)(H:Hp):Heap:=PySem.W.hideAll h (trk h H)
theorem hidT_size(h:Heap)(H:Hp):(hidT h H).objs.size=h.objs.size:=PySem.W.hideAll_size _ _
theorem hidT_get{h:Heap}{H:Hp}{b:Addr}{o:Obj}(e:h.get? b=some o)(n:H b=none):(hidT h H).get? b=some o:=
 PySem.W.hideAll_get _ e fun hm=>by
  have q:(H b).isSome=true:=(List.mem_filter.mp hm).2
  rw [n]at q;simp at q
theorem of_hidT{h:Heap}{H:Hp}{b:Addr}{o:Obj}(e:(hidT h H).get? b=some o):h.get? b=some o∧H b=none:=by
 have e':h.get? b=some o:=PySem.W.of_hideAll (trk h H) e
 refine ⟨e',?_⟩
 cases q:H b with
 | none=>rfl
 | some x=>
  have hm:b∈trk h H:=List.mem_filter.mpr ⟨List.mem_range.mpr (Heap.lt_size e'),by simp [q]⟩
  have z:(hidT h H).get? b=none:=PySem.W.hideAll_none (trk h H) hm
  rw [z]at e;cases e
noncomputable def allNews(g h:Heap)(L:Addr):List (Addr×Obj):=(List.range h.objs.size).filterMap fun a=>if a=L∨(g.get? a).isSome=true then none else (h.get? a).map fun o=>(a,o)
noncomputable def rest(g h:Heap)(L d:Addr):List (Addr×Obj):=(allNews g h L).filter fun p=>decide (p.1≠d)
end L2
namespace L2
structure Mod(K:PySem.W.Frag)(mg:Str→Option Value)(base:Heap):Prop where
 kin:K.In base
 glob:base.Ns mainGlobals mg
 blt:∃mb,base.Ns builtinsNs mb∧∀x:Str,x≠"__name__"→mb x=bootBuiltins x
 nolimit:base.NoLimit
structure Cx where
 prog:Program
 w:World
 K:PySem.W.Frag
 mg:Str→Option Value
 base:Heap
 A:Around
 N:List Str
 s₀:Shared
 H₀:Hp
 env:Env
 outer:List Env
 stack:List Env
 ex:List Addr
 fn:Str→Bool
 calm:Bool
 pn:List (Addr×Obj)
 xe:Value→Shared→Prop
noncomputable def frs(l:List Env):List Addr:=l.filterMap (·.frame)
noncomputable abbrev Cx.fs(X:Cx):List Addr:=frs X.outer
noncomputable def Vis(sc:Scope)(x:Str):Prop:=sc.names.lookup x=some .local∨sc.names.lookup x=some .cell∨sc.names.lookup x=some .free
noncomputable def Loc(sc:Scope)(x:Str):Prop:=sc.names.lookup x=some .local∨sc.names.lookup x=some .cell
noncomputable def Look(env:Env)(h:Heap)(m:Str→Option Value)(x:Str)(u:Value):Prop:=
 (env.kindOf x=some .local∧m x=some u)∨((env.kindOf x=some .cell∨env.kindOf x=some .free)∧∃c,env.cells.lookup x=some c∧h.IsCell c (some u))
structure Cx.Ok(X:Cx):Prop where
 mod:Mod X.K X.mg X.base
 kind:X.env.scope.kind= .function
 glob:X.env.globals=mainGlobals
 blt:X.env.builtins=builtinsNs
 above:X.s₀.heap.objs.size≤X.env.locals
 inj:∀x y c,X.env.cells.lookup x=some c→X.env.cells.lookup y=some c→x=y
 has:∀x,(X.env.kindOf x=some .cell∨X.env.kindOf x=some .free)→∃c,X.env.cells.lookup x=some c
 cab:∀x c,X.fn x=true→X.env.cells.lookup x=some c→X.s₀.heap.objs.size≤c
 hd:X.calm=true→X.A.handled=none
 frames:X.A.frames=some X.stack
 stk:X.stack=X.outer∨(X.stack=X.env::X.outer∧X.env.frame=some X.env.locals)
 exf:∀b∈X.ex,b≠X.env.locals∧∀x c,X.env.cells.lookup x=some c→c≠b
 bs:∀b o,X.base.get? b=some o→X.s₀.heap.get? b=some o∧X.H₀ b=none
 bsz:X.base.objs.size≤X.s₀.heap.objs.size
 noex:∀b o,X.base.get? b=some o→b∉X.ex
 exfs:∀b∈X.ex,b∉X.fs
 funs:X.s₀.heap.FunFrames X.base X.outer
 frf:∀b∈X.fs,X.H₀ b=none
structure Inv(X:Cx)(pins:List (Addr×Obj))(σ:List (Option V))(H:Hp)(s:Shared):Prop where
 ok:X.Ok
 os:s.os=X.s₀.os
 bare:AllBare s.gens
 base:Un X.fs X.ex X.H₀ H X.s₀.heap s.heap
 loc:∃m,s.heap.Ns X.env.locals m∧∀(i:Nat) (x:Str) (v:V),X.N[i]?=some x→σ[i]?=some (some v)→Vis X.env.scope x→∃u,RelV v u∧Look X.env s.heap m x u
 cell:∀x c,X.env.cells.lookup x=some c→∃v,s.heap.IsCell c v
 free:H X.env.locals=none
 freeC:∀x c,X.env.cells.lookup x=some c→H c=none
 pin:∀p∈X.pn++pins,s.heap.get? p.1=some p.2∧H p.1=none∧p.1≠X.env.locals∧p.1∉X.fs∧∀v,p.2.data≠ .cell v
 hok:HOk X.prog X.w H s.heap
 len:σ.length=X.N.length
section
variable {X:Cx} {pins:List (Addr×Obj)} {σ:List (Option V)} {H H':Hp} {s:Shared} {h':Heap}
theorem Cx.Ok.nofr(ok:X.Ok){b:Addr}{o:Obj}(e:X.base.get? b=some o):b∉X.fs:=fun hb=>by
 have:=(ok.funs.mem hb).1
 rw [e]at this;cases this
theorem Inv.bs(I:Inv X pins σ H s):∀b o,X.base.get? b=some o→s.heap.get? b=some o∧H b=none:=fun b o e=>
 ⟨I.base.keep b o (I.ok.bs b o e).1 (I.ok.bs b o e).2 (I.ok.nofr e) (I.ok.noex b o e),I.base.free b o (I.ok.bs b o e).1 (I.ok.bs b o e).2 (I.ok.noex b o e)⟩
theorem Inv.bk(I:Inv X pins σ H s):∀b o,X.base.get? b=some o→s.heap.get? b=some o:=fun b o e=>(I.bs b o e).1
theorem Inv.mod(I:Inv X pins σ H s):Mod X.K X.mg X.base:=I.ok.mod
theorem Inv.kIn(I:Inv X pins σ H s):X.K.In s.heap:=I.ok.mod.kin.keeps I.bk
theorem Inv.lt(I:Inv X pins σ H s):X.env.locals < s.heap.objs.size:=let ⟨_,hn,_⟩:=I.loc;hn.lt
theorem Inv.sz(I:Inv X pins σ H s):X.s₀.heap.objs.size≤s.heap.objs.size:=Nat.le_trans I.ok.above (Nat.le_of_lt I.lt)
theorem Inv.nofs(I:Inv X pins σ H s){a:Addr}(h:s.heap.objs.size≤a):a∉X.fs:=fun hb=>by
 obtain ⟨_,o,ho,_⟩:=I.ok.funs.mem hb
 exact absurd (Nat.lt_of_lt_of_le (Heap.lt_size ho) (Nat.le_trans I.sz h)) (Nat.lt_irrefl _)
theorem Inv.cne(I:Inv X pins σ H s):∀x c,X.env.cells.lookup x=some c→c≠X.env.locals:=fun x c e z=>by
 obtain ⟨v,o,ho,hd⟩:=I.cell x c e
 obtain ⟨m,⟨o',es,ep,ho',hd',_⟩,_⟩:=I.loc
 rw [z,ho']at ho;cases ho;rw [hd']at hd;cases hd
theorem Inv.funs(I:Inv X pins σ H s):s.heap.FunFrames X.base X.outer:=by
 have all:∀(l:List Env),(∀b∈frs l,b∈X.fs)→X.s₀.heap.FunFrames X.base l→s.heap.FunFrames X.base l:=by
  intro l
  induction l with
  | nil=>intro _ _;trivial
  | cons env r ih=>
   intro hs hl
   obtain ⟨hk,⟨L,o,hf,hn,ho,hd⟩,hr⟩:=hl
   have hL:L∈X.fs:=hs L (by unfold frs;rw [List.filterMap_cons,hf];exact List.mem_cons_self)
   obtain ⟨sl,e⟩:=I.base.slot L o ho (I.ok.frf L hL) hL fun z=>I.ok.exfs L z hL
   exact ⟨hk,⟨L,_,hf,hn,e,hd⟩,ih (fun b hb=>hs b (by unfold frs;rw [List.filterMap_cons,hf];exact List.mem_cons_of_mem _ hb)) hr⟩
 exact all X.outer (fun _ hb=>hb) I.ok.funs
theorem Inv.stack(I:Inv X pins σ H s):s.heap.FunFrames X.base X.stack:=by
 rcases I.ok.stk with e | ⟨e,hf⟩
 · rw [e];exact I.funs
 · rw [e]
   obtain ⟨m,hn,_⟩:=I.loc
   refine .cons (by rw [I.ok.kind];decide) hf hn ?_ I.funs
   exact Heap.get?_none_of_le (Nat.le_trans I.ok.bsz I.ok.above)
theorem Inv.stkSub(I:Inv X pins σ H s):∀b∈frs X.stack,b∈X.env.locals::X.fs:=fun b hb=>by
 rcases I.ok.stk with e | ⟨e,hf⟩
 · rw [e]at hb;exact List.mem_cons_of_mem _ hb
 · rw [e]at hb
   unfold frs at hb
   rw [List.filterMap_cons,hf]at hb
   exact hb
theorem Inv.stkFree(I:Inv X pins σ H s):∀b∈frs X.stack,H b=none:=fun b hb=>by
 rcases List.mem_cons.mp (I.stkSub b hb) with e | hb
 · rw [e];exact I.free
 · obtain ⟨_,o,ho,_⟩:=I.ok.funs.mem hb
   exact I.base.free b o ho (I.ok.frf b hb) fun z=>I.ok.exfs b z hb
theorem Inv.step{g':Array GenState}{t':Nat}{d':Drawn}{ch:List Addr}(I:Inv X pins σ H s)
 (hch:∀b∈ch,(b∈X.ex∨X.s₀.heap.objs.size≤b)∧b≠X.env.locals∧(∀x c,X.env.cells.lookup x=some c→c≠b)∧∀p∈X.pn++pins,p.1≠b)
 (keep:∀b o,b≠X.env.locals→b∉X.fs→b∉ch→s.heap.get? b=some o→H b=none→h'.get? b=some o)
 (slot:∀b o,b≠X.env.locals→b∈X.fs→b∉ch→s.heap.get? b=some o→H b=none→∃sl,h'.get? b=some {o with slots:=sl}) (free:∀b o,b∉ch→s.heap.get? b=some o→H b=none→H' b=none)
 (there:∀b o,b∉ch→s.heap.get? b=some o→∃o',h'.get? b=some o')
 (tups:∀b xs,H b=some (.tup xs)→H' b=some (.tup xs)) (frzs:∀b o u,H b=some (.frz o u)→H' b=some (.frz o u)) (tbls:∀b ps,H b=some (.tbl ps)→∃more,H' b=some (.tbl (ps++more)))
 (ns:∀m,s.heap.Ns X.env.locals m→h'.Ns X.env.locals m) (hok:HOk X.prog X.w H' h') (hg:AllBare g'):
 Inv X pins σ H' {s with heap:=h',gens:=g',drawn:=d',toks:=t'}:=by
 have neL:∀b o,X.s₀.heap.get? b=some o→b≠X.env.locals:=fun b o e=>Nat.ne_of_lt (Nat.lt_of_lt_of_le (Heap.lt_size e) I.ok.above)
 have neC:∀b o,X.s₀.heap.get? b=some o→b∉X.ex→b∉ch:=fun b o e hx hb=>by
  rcases (hch b hb).1 with z | z
  · exact hx z
  · exact absurd (Nat.lt_of_lt_of_le (Heap.lt_size e) z) (Nat.lt_irrefl _)
 have cellK:∀x c,X.env.cells.lookup x=some c→∀v,s.heap.IsCell c v→h'.IsCell c v:=fun x c e v ⟨o,ho,hd⟩=>by
  have nch:c∉ch:=fun z=>(hch c z).2.2.1 x c e rfl
  by_cases hc:c∈X.fs
  · obtain ⟨sl,q⟩:=slot c o (I.cne x c e) hc nch ho (I.freeC x c e)
    exact ⟨_,q,hd⟩
  · exact ⟨o,keep c o (I.cne x c e) hc nch ho (I.freeC x c e),hd⟩
 refine ⟨I.ok,I.os,hg,⟨fun b o e n hb hx=>?_,fun b o e n hb hx=>?_,fun b o e n hx=>?_,fun b o e hx=>?_,fun b xs e=>tups b xs (I.base.tups b xs e),fun b o xs e=>frzs b o xs (I.base.frzs b o xs e),fun b ps e=>?_⟩,?_,fun x c e=>?_,?_,fun x c e=>?_,fun p hp=>?_,hok,I.len⟩
 · exact keep b o (neL b o e) hb (neC b o e hx) (I.base.keep b o e n hb hx) (I.base.free b o e n hx)
 · obtain ⟨sl,e1⟩:=I.base.slot b o e n hb hx
   obtain ⟨sl',e2⟩:=slot b _ (neL b o e) hb (neC b o e hx) e1 (I.base.free b o e n hx)
   exact ⟨sl',e2⟩
 · obtain ⟨o',e1⟩:=I.base.there b o e hx
   exact free b o' (neC b o e hx) e1 (I.base.free b o e n hx)
 · obtain ⟨o',e1⟩:=I.base.there b o e hx
   exact there b o' (neC b o e hx) e1
 · obtain ⟨m1,e1⟩:=I.base.tbls b ps e
   obtain ⟨m2,e2⟩:=tbls b _ e1
   exact ⟨m1++m2,by rw [e2,Array.append_assoc]⟩
 · obtain ⟨m,hn,hl⟩:=I.loc
   refine ⟨m,ns m hn,fun i x v e1 e2 e3=>?_⟩
   obtain ⟨u,r,l⟩:=hl i x v e1 e2 e3
   refine ⟨u,r,?_⟩
   rcases l with l | ⟨k,c,e,z⟩
   · exact .inl l
   · exact .inr ⟨k,c,e,cellK x c e _ z⟩
 · obtain ⟨v,z⟩:=I.cell x c e
   exact ⟨v,cellK x c e v z⟩
 · obtain ⟨m,⟨o,_,_,ho,_⟩,_⟩:=I.loc
   exact free _ o (fun z=>(hch _ z).2.1 rfl) ho I.free
 · obtain ⟨v,o,ho,hd⟩:=I.cell x c e
   exact free c o (fun z=>(hch c z).2.2.1 x c e rfl) ho (I.freeC x c e)
 · obtain ⟨e,n,ne,nf,d⟩:=I.pin p hp
   have nch:p.1∉ch:=fun z=>(hch p.1 z).2.2.2 p hp rfl
   exact ⟨keep p.1 p.2 ne nf nch e n,free p.1 p.2 nch e n,ne,nf,d⟩
theorem Inv.un{t':Nat}(I:Inv X pins σ H s)(u:Un X.fs [] H H' s.heap h')(hok:HOk X.prog X.w H' h'):Inv X pins σ H' {s with heap:=h',toks:=t'}:=by
 obtain ⟨m,⟨o,es,ep,ho,r⟩,_⟩:=id I.loc
 obtain ⟨sl,hL⟩:=u.any ho I.free (by simp)
 exact I.step (g':=s.gens) (d':=s.drawn) (ch:=[]) (fun _ z=>nomatch z) (fun b o _ hb _ e n=>u.keep b o e n hb (by simp)) (fun b o _ hb _ e n=>u.slot b o e n hb (by simp)) (fun b o _ e n=>u.free b o e n (by simp)) (fun b o _ e=>u.there b o e (by simp)) u.tups u.frzs u.tbls (fun m' hm=>by
  obtain ⟨o',es',ep',ho',r'⟩:=hm
  rw [ho]at ho';cases ho'
  exact ⟨_,es',ep',hL,r'⟩) hok I.bare
theorem Inv.call{g':Array GenState}{t':Nat}{d':Drawn}{ch:List Addr}(I:Inv X pins σ H s)(u:Un (frs X.stack) ch H H' s.heap h')(hok:HOk X.prog X.w H' h')(hg:AllBare g')
 (hch:∀b∈ch,(b∈X.ex∨X.s₀.heap.objs.size≤b)∧b≠X.env.locals∧(∀x c,X.env.cells.lookup x=some c→c≠b)∧∀p∈X.pn++pins,p.1≠b):
 Inv X pins σ H' {s with heap:=h',gens:=g',drawn:=d',toks:=t'}:=by
 obtain ⟨m,⟨o,es,ep,ho,r⟩,_⟩:=id I.loc
 obtain ⟨sl,hL⟩:=u.any ho I.free fun z=>(hch _ z).2.1 rfl
 exact I.step (ch:=ch) hch (fun b o hL hb hc e n=>u.keep b o e n (fun z=>(List.mem_cons.mp (I.stkSub b z)).elim hL hb) hc) (fun b o _ _ hc e n=>u.any e n hc) (fun b o hc e n=>u.free b o e n hc) (fun b o hc e=>u.there b o e hc) u.tups u.frzs u.tbls (fun m' hm=>by
  obtain ⟨o',es',ep',ho',r'⟩:=hm
  rw [ho]at ho';cases ho'
  exact ⟨_,es',ep',hL,r'⟩) hok hg
theorem Inv.turned{t':Nat}{it:Addr}(I:Inv X pins σ H s)(k:∀b o,b≠it→s.heap.get? b=some o→h'.get? b=some o)(hn:H it=none)(hL:it≠X.env.locals)
 (h1:it∈X.ex∨X.s₀.heap.objs.size≤it) (h2:∀x c,X.env.cells.lookup x=some c→c≠it) (h3:∀p∈X.pn++pins,p.1≠it):Inv X pins σ H {s with heap:=h',toks:=t'}:=by
 have nit:∀b u,H b=some u→b≠it:=fun b u e z=>by rw [z,hn]at e;cases e
 refine I.step (g':=s.gens) (d':=s.drawn) (ch:=[it]) (fun b hb=>?_) (fun b o _ _ hc e _=>k b o (fun z=>hc (by simp [z])) e) (fun b o _ _ hc e _=>⟨o.slots,k b o (fun z=>hc (by simp [z])) e⟩) (fun _ _ _ _ n=>n)
  (fun b o hc e=>⟨o,k b o (fun z=>hc (by simp [z])) e⟩) (fun _ _ e=>e) (fun _ _ _ e=>e) (fun b ps e=>⟨#[],by rw [e];simp⟩) (fun m hm=>?_) (fun b u e=>?_) I.bare
 · have e:b=it:=by simpa using hb
   subst e
   exact ⟨h1,hL,h2,h3⟩
 · obtain ⟨o,es,ep,ho,r⟩:=hm
   exact ⟨o,es,ep,k _ o (Ne.symm hL) ho,r⟩
 · refine (I.hok b u e).stay (fun c v hc q=>k c v ?_ q) (fun _ q=>q) fun _ _ q=>q
   rcases hc with z | z
   · rw [z];exact nit b u e
   · exact nit c _ z
theorem Inv.tok(I:Inv X pins σ H s)(t:Nat):Inv X pins σ H {s with toks:=t}:=I.un (h':=s.heap) (t':=t) Un.refl I.hok
theorem Inv.kept{t':Nat}(I:Inv X pins σ H s)(k:∀b u,s.heap.get? b=some u→h'.get? b=some u):Inv X pins σ H {s with heap:=h',toks:=t'}:=I.un (Un.kept k) (I.hok.kept k)
theorem Inv.laid{a:Addr}{o:HO}{t':Nat}(I:Inv X pins σ H s)(k:∀b u,s.heap.get? b=some u→h'.get? b=some u)(hp:s.heap.objs.size≤a)(new:ObjOk X.prog X.w (upd H a o) h' a o):
 Inv X pins σ (upd H a o) {s with heap:=h',toks:=t'}:=I.un (Un.laid k hp (I.hok.fresh hp)) (I.hok.laid k hp new)
theorem Inv.write{x e:Addr}{o:HO}{t':Nat}(I:Inv X pins σ H s)(mu:Mut (H x))(he:e=x∨H e=some (.own x))(k:∀b u,b≠e→s.heap.get? b=some u→h'.get? b=some u)(heo:∃u,h'.get? e=some u)
 (new:ObjOk X.prog X.w (upd H x o) h' x o):Inv X pins σ (upd H x o) {s with heap:=h',toks:=t'}:=I.un (Un.write mu he k heo) (I.hok.write mu he k heo new)
theorem Inv.weak{σ':List (Option V)}(I:Inv X pins σ H s)(hl:σ'.length=σ.length)(w:∀(i:Nat) v,σ'[i]?=some (some v)→σ[i]?=some (some v)):Inv X pins σ' H s:=
 ⟨I.ok,I.os,I.bare,I.base,let ⟨m,hn,hl'⟩:=I.loc;⟨m,hn,fun i x v e1 e2 e3=>hl' i x v e1 (w i v e2) e3⟩,I.cell,I.free,I.freeC,I.pin,I.hok,hl.trans I.len⟩
theorem Inv.pins_of{pins':List (Addr×Obj)}(I:Inv X pins σ H s)(h:∀p∈pins',s.heap.get? p.1=some p.2∧H p.1=none∧p.1≠X.env.locals∧p.1∉X.fs∧∀v,p.2.data≠ .cell v):Inv X pins' σ H s:=
 ⟨I.ok,I.os,I.bare,I.base,I.loc,I.cell,I.free,I.freeC,fun p hp=>(List.mem_append.mp hp).elim (fun z=>I.pin p (List.mem_append_left _ z)) (h p),I.hok,I.len⟩
theorem nodup_ix{N:List Str}(hN:N.Nodup){i j:Nat}{x:Str}(a:N[i]?=some x)(b:N[j]?=some x):i=j:=by
 obtain ⟨h1,e1⟩:=List.getElem?_eq_some_iff.mp a
 obtain ⟨h2,e2⟩:=List.getElem?_eq_some_iff.mp b
 exact (List.getElem_inj hN).mp (e1.trans e2.symm)
theorem store_ok2{M:Model}{A:Around}{E:Value→Shared→Prop}{i:Nat}{x:Str}{v:V}{u:Value}{Q:Unit→Shared→Prop}(I:Inv X pins σ H s)(hN:X.N.Nodup)(hi:X.N[i]?=some x)(hx:Loc X.env.scope x)(r:RelV v u)
 (h:∀s',Inv X pins (σ.set i (some v)) H s'→(∃a,Heap.SameBut a s.heap s'.heap∧(a=X.env.locals∨X.env.cells.lookup x=some a))→Q () s') (hf:X.fn x=true∨X.env.scope.names.lookup x=some .local:=by first | exact .inl rfl | exact .inr rfl | assumption):wpAny M A (storeName X.env x u) Q E s:=by
 obtain ⟨m,hn,hl⟩:=id I.loc
 have hcls:(X.env.scope.kind== .class || (X.env.scope.kind== .module && X.env.locals !=X.env.globals))=false:=by rw [I.ok.kind];rfl
 have hiσ:i < σ.length:=by rw [I.len];exact (List.getElem?_eq_some_iff.mp hi).1
 have cne:=I.cne
 have tracked:∀{a:Addr} {h':Heap},(∃o,s.heap.get? a=some o∧H a=none)→Heap.SameBut a s.heap h'→HOk X.prog X.w H h':=fun {a h'} ha hs b ob e=>by
  obtain ⟨_,_,hfree⟩:=ha
  refine (I.hok b ob e).stay (fun c w' hc q=>(hs.2 c ?_).trans q) (fun _ q=>q) fun _ _ q=>q
  rintro rfl
  rcases hc with rfl | hc
  · rw [hfree]at e;cases e
  · rw [hfree]at hc;cases hc
 rcases hx with hk | hk
 · refine wpAny_storeName_local hk hn (fun h' hn' hs=>?_) hcls
   obtain ⟨oL,_,_,hoL,_⟩:=id hn
   refine h _ ⟨I.ok,I.os,I.bare,⟨fun b o e n hb hx=>?_,fun b o e n hb hx=>?_,I.base.free,fun b o e hx=>?_,I.base.tups,I.base.frzs,I.base.tbls⟩,⟨_,hn',fun j y v' e1 e2 e3=>?_⟩,fun y c e=>?_,I.free,I.freeC,fun p hp=>?_,tracked ⟨oL,hoL,I.free⟩ hs,by simpa using I.len⟩ ⟨_,hs,.inl rfl⟩
   · exact (hs.2 b (Nat.ne_of_lt (Nat.lt_of_lt_of_le (Heap.lt_size e) I.ok.above))).trans (I.base.keep b o e n hb hx)
   · obtain ⟨sl,e1⟩:=I.base.slot b o e n hb hx
     exact ⟨sl,(hs.2 b (Nat.ne_of_lt (Nat.lt_of_lt_of_le (Heap.lt_size e) I.ok.above))).trans e1⟩
   · obtain ⟨o',e1⟩:=I.base.there b o e hx
     exact ⟨o',(hs.2 b (Nat.ne_of_lt (Nat.lt_of_lt_of_le (Heap.lt_size e) I.ok.above))).trans e1⟩
   · by_cases hj:j=i
     · subst hj
       rw [hi]at e1;cases e1
       rw [List.getElem?_set_self hiσ]at e2
       cases e2
       exact ⟨u,r,.inl ⟨hk,by simp⟩⟩
     · rw [List.getElem?_set_ne (Ne.symm hj)]at e2
       obtain ⟨u',r',q⟩:=hl j y v' e1 e2 e3
       refine ⟨u',r',?_⟩
       rcases q with ⟨k,e⟩ | ⟨k,c,e,z⟩
       · refine .inl ⟨k,?_⟩
         have:y≠x:=fun e=>hj (nodup_ix hN e1 (e▸hi))
         simp [this,e]
       · exact .inr ⟨k,c,e,z.sameBut hs (cne y c e)⟩
   · obtain ⟨w',z⟩:=I.cell y c e
     exact ⟨w',z.sameBut hs (cne y c e)⟩
   · obtain ⟨e,n,ne,nf,d⟩:=I.pin p hp
     exact ⟨(hs.2 p.1 ne).trans e,n,ne,nf,d⟩
 · have hfn:X.fn x=true:=by
    rcases hf with z | z
    · exact z
    · rw [z]at hk;cases hk
   obtain ⟨c,hc⟩:=I.ok.has x (.inl hk)
   obtain ⟨w',z⟩:=I.cell x c hc
   refine wpAny_storeName_cell I.ok.kind hk hc z (fun h' hc' hs=>?_)
   obtain ⟨oc,hoc,hocd⟩:=id z
   refine h {s with heap:=h'} ⟨I.ok,I.os,I.bare,⟨fun b o e n hb hx=>?_,fun b o e n hb hx=>?_,I.base.free,fun b o e hx=>?_,I.base.tups,I.base.frzs,I.base.tbls⟩,⟨m,hn.sameBut hs (Ne.symm (cne x c hc)),fun j y v' e1 e2 e3=>?_⟩,fun y c' e=>?_,I.free,I.freeC,fun p hp=>?_,tracked ⟨oc,hoc,I.freeC x c hc⟩ hs,by simpa using I.len⟩ ⟨c,hs,.inr hc⟩
   · exact (hs.2 b (Nat.ne_of_lt (Nat.lt_of_lt_of_le (Heap.lt_size e) (I.ok.cab x c hfn hc)))).trans (I.base.keep b o e n hb hx)
   · obtain ⟨sl,e1⟩:=I.base.slot b o e n hb hx
     exact ⟨sl,(hs.2 b (Nat.ne_of_lt (Nat.lt_of_lt_of_le (Heap.lt_size e) (I.ok.cab x c hfn hc)))).trans e1⟩
   · obtain ⟨o',e1⟩:=I.base.there b o e hx
     exact ⟨o',(hs.2 b (Nat.ne_of_lt (Nat.lt_of_lt_of_le (Heap.lt_size e) (I.ok.cab x c hfn hc)))).trans e1⟩
   · by_cases hj:j=i
     · subst hj
       rw [hi]at e1;cases e1
       rw [List.getElem?_set_self hiσ]at e2
       cases e2
       exact ⟨u,r,.inr ⟨.inl hk,c,hc,hc'⟩⟩
     · rw [List.getElem?_set_ne (Ne.symm hj)]at e2
       obtain ⟨u',r',q⟩:=hl j y v' e1 e2 e3
       refine ⟨u',r',?_⟩
       rcases q with q | ⟨k,c',e,z'⟩
       · exact .inl q
       · refine .inr ⟨k,c',e,z'.sameBut hs ?_⟩
         rintro rfl
         exact hj (nodup_ix hN e1 (I.ok.inj _ _ _ e hc▸hi))
   · by_cases hcc:c'=c
     · subst hcc;exact ⟨_,hc'⟩
     · obtain ⟨w2,z2⟩:=I.cell y c' e
       exact ⟨w2,z2.sameBut hs hcc⟩
   · obtain ⟨e,n,ne,nf,d⟩:=I.pin p hp
     refine ⟨(hs.2 p.1 ?_).trans e,n,ne,nf,d⟩
     intro q
     rw [q,hoc]at e
     have q':oc=p.2:=Option.some.inj e
     exact d w' (by rw [← q'];exact hocd)
theorem store_ok{M:Model}{A:Around}{E:Value→Shared→Prop}{i:Nat}{x:Str}{v:V}{u:Value}{Q:Unit→Shared→Prop}(I:Inv X pins σ H s)(hN:X.N.Nodup)(hi:X.N[i]?=some x)(hx:Loc X.env.scope x)(r:RelV v u)
 (h:∀s',Inv X pins (σ.set i (some v)) H s'→Q () s') (hf:X.fn x=true∨X.env.scope.names.lookup x=some .local:=by first | exact .inl rfl | exact .inr rfl | assumption):wpAny M A (storeName X.env x u) Q E s:=
 store_ok2 I hN hi hx r (fun s' I' _=>h s' I') hf
theorem Inv.call'{s':Shared}{ch:List Addr}(I:Inv X pins σ H s)(ho:s'.os=s.os)(u:Un (frs X.stack) ch H H' s.heap s'.heap)(hok:HOk X.prog X.w H' s'.heap)(hg:AllBare s'.gens)
 (hch:∀b∈ch,(b∈X.ex∨X.s₀.heap.objs.size≤b)∧b≠X.env.locals∧(∀x c,X.env.cells.lookup x=some c→c≠b)∧∀p∈X.pn++pins,p.1≠b):Inv X pins σ H' s':=by
 obtain ⟨h',g',d',t',o'⟩:=s'
 have e:o'=s.os:=ho
 subst e
 exact I.call (g':=g') (t':=t') (d':=d') u hok hg hch
end
noncomputable abbrev XK:=Value→Option Addr→Hp→Prop
noncomputable abbrev St:=List (Option V)
noncomputable abbrev VK:=V→Hp→Prop
noncomputable abbrev TE:=St→Hp→VK→Prop
noncomputable abbrev TT:=St→Hp→(Bool→Hp→Prop)→Prop
noncomputable abbrev TA:=St→Hp→(List V→Hp→Prop)→Prop
structure Ends where
 nx:St→Hp→Prop
 rt:VK
 bk:St→Hp→Prop:=fun _ _=>False
 ct:St→Hp→Prop:=fun _ _=>False
noncomputable abbrev TS:=Ends→St→Hp→Prop
noncomputable def EP(X:Cx)(pins:List (Addr×Obj))(σ:St)(Q:VK)(u:Value)(s':Shared):Prop:=∃v H',Inv X pins σ H' s'∧RelV v u∧Q v H'
noncomputable def TP(X:Cx)(pins:List (Addr×Obj))(σ:St)(Q:Bool→Hp→Prop)(b:Bool)(s':Shared):Prop:=∃H',Inv X pins σ H' s'∧Q b H'
noncomputable def AP(X:Cx)(pins:List (Addr×Obj))(σ:St)(Q:List V→Hp→Prop)(us:List Value)(s':Shared):Prop:=∃vs H',Inv X pins σ H' s'∧Vals vs us∧Q vs H'
noncomputable def SP(X:Cx)(pins:List (Addr×Obj))(D:Ends)(f:Flow)(s':Shared):Prop:=
 match f with
 | .next=>∃σ' H',Inv X pins σ' H' s'∧D.nx σ' H'
 | .brk=>∃σ' H',Inv X pins σ' H' s'∧D.bk σ' H'
 | .cont=>∃σ' H',Inv X pins σ' H' s'∧D.ct σ' H'
 | .ret u=>∃v σ' H',Inv X pins σ' H' s'∧RelV v u∧D.rt v H'
noncomputable def PE(X:Cx)(e:Expr)(t:TE):Prop:=
 ∀(pins:List (Addr×Obj)) (s:Shared) (σ:St) (H:Hp) (Q:VK),Inv X pins σ H s→t σ H Q→wpAny (model X.prog X.w) X.A (eval e X.env) (EP X pins σ Q) X.xe s
noncomputable def PT(X:Cx)(e:Expr)(t:TT):Prop:=
 ∀(pins:List (Addr×Obj)) (s:Shared) (σ:St) (H:Hp) (Q:Bool→Hp→Prop),Inv X pins σ H s→t σ H Q→wpAny (model X.prog X.w) X.A (isTrue e X.env (eval e X.env)) (TP X pins σ Q) X.xe s
noncomputable def PW(X:Cx)(e:Expr)(t:TT):Prop:=
 ∀(whole:Sem Value) (pins:List (Addr×Obj)) (s:Shared) (σ:St) (H:Hp) (Q:Bool→Hp→Prop),Inv X pins σ H s→t σ H Q→wpAny (model X.prog X.w) X.A (isTrue e X.env whole) (TP X pins σ Q) X.xe s
theorem PW.pt{X:Cx}{e:Expr}{t:TT}(h:PW X e t):PT X e t:=h _
noncomputable def PA(X:Cx)(es:List Expr)(t:TA):Prop:=
 ∀(pos:Pos) (pins:List (Addr×Obj)) (s:Shared) (σ:St) (H:Hp) (Q:List V→Hp→Prop),Inv X pins σ H s→t σ H Q→wpAny (model X.prog X.w) X.A (spliced (backTo pos (starEach es X.env))) (AP X pins σ Q) X.xe s
noncomputable def PS(X:Cx)(st:Stmt)(t:TS):Prop:=
 ∀(pins:List (Addr×Obj)) (s:Shared) (σ:St) (H:Hp) (D:Ends),Inv X pins σ H s→t D σ H→wpAny (model X.prog X.w) X.A (exec st X.env) (SP X pins D) X.xe s
noncomputable def PSs(X:Cx)(st:List Stmt)(t:TS):Prop:=
 ∀(pins:List (Addr×Obj)) (s:Shared) (σ:St) (H:Hp) (D:Ends),Inv X pins σ H s→t D σ H→wpAny (model X.prog X.w) X.A (execs st X.env) (SP X pins D) X.xe s
theorem thn{α:Type}{t:Sem α}{Q Q':α→Shared→Prop}{M:Model}{A:Around}{E:Value→Shared→Prop}{s:Shared}(h:wpAny M A t Q E s)(hQ:∀a s,Q a s→Q' a s):wpAny M A t Q' E s:=wpAny_mono h hQ fun _ _ x=>x
end L2
namespace L2
section
variable {X:Cx}
noncomputable def tVar(i:Nat):TE:=fun σ H Q=>∃v,σ[i]?=some (some v)∧Q v H
noncomputable def tC(v:V):TE:=fun _ H Q=>Q v H
theorem pe_var{i:Nat}{x:Str}{pos:Pos}(hN:X.N[i]?=some x)(hv:Vis X.env.scope x)(hd:(x==("__debug__":Str))=false:=by decide)(hcd:(x==("__classdict__":Str))=false:=by decide):PE X (.Name x pos) (tVar i):=by
 intro pins s σ H Q I h
 obtain ⟨v,e,h⟩:=h
 obtain ⟨m,hn,hl⟩:=I.loc
 obtain ⟨u,r,l⟩:=hl i x v hN e hv
 have fin:EP X pins σ Q u s:=⟨v,H,I,r,h⟩
 rcases l with ⟨hk,hm⟩ | ⟨hk,c,hc,hcell⟩
 · exact wpAny_Name (wpAny_loadName_local I.ok.kind hk hn hm fin) hd
 · rcases hk with hk | hk
   · exact wpAny_Name (wpAny_loadName_cell I.ok.kind hk hc hcell fin) hd
   · exact wpAny_Name (wpAny_loadName_free I.ok.kind hk hc hcell fin hcd) hd
theorem pe_int{i j pos}:PE X (.Constant (.int i) j pos) (tC (.int i)):=fun _ _ _ H _ I h=>wpAny_Constant_int ⟨.int i,H,I.tok _,⟨_,rfl⟩,h⟩
theorem pe_bl{b j pos}:PE X (.Constant (.bool b) j pos) (tC (.bl b)):=fun _ _ _ H _ I h=>Constant_bool ⟨.bl b,H,I,rfl,h⟩
theorem pe_non{j pos}:PE X (.Constant .none j pos) (tC .non):=fun _ _ _ H _ I h=>Constant_none ⟨.non,H,I,rfl,h⟩
theorem pe_str{x j pos}:PE X (.Constant (.str x) j pos) (tC (.str x)):=fun _ _ _ H _ I h=>Calls.Constant_str ⟨.str x,H,I.tok _,⟨_,rfl⟩,h⟩
noncomputable def Gl(X:Cx)(x:Str):Prop:=X.env.kindOf x=some .globalImplicit
theorem ld_glob{E:Value→Shared→Prop}{pins:List (Addr×Obj)}{s:Shared}{σ:St}{H:Hp}{x:Str}{u:Value}{pos:Pos}{Q:Value→Shared→Prop}(I:Inv X pins σ H s)(hg:Gl X x)(hm:X.mg x=some u)(h:Q u s)
 (hd:(x==("__debug__":Str))=false:=by decide):wpAny (model X.prog X.w) X.A (eval (.Name x pos) X.env) Q E s:=
 Calls.Name_function_global I.ok.kind hg (Calls.loadGlobal_global (by rw [I.ok.glob];exact I.mod.glob.keeps I.bk) hm h) hd
theorem ld_blt{E:Value→Shared→Prop}{pins:List (Addr×Obj)}{s:Shared}{σ:St}{H:Hp}{x:Str}{u:Value}{pos:Pos}{Q:Value→Shared→Prop}(I:Inv X pins σ H s)(hg:Gl X x)(hm:X.mg x=none)(hv:bootBuiltins x=some u)(h:Q u s)
 (hn:x≠"__name__":=by decide) (hd:(x==("__debug__":Str))=false:=by decide):wpAny (model X.prog X.w) X.A (eval (.Name x pos) X.env) Q E s:=by
 obtain ⟨mb,h1,h2⟩:=I.mod.blt
 exact Calls.Name_function_global I.ok.kind hg (Calls.loadGlobal_builtin (by rw [I.ok.glob];exact I.mod.glob.keeps I.bk) hm (by rw [I.ok.blt];exact h1.keeps I.bk) ((h2 x hn).trans hv) h) hd
theorem pe_glob{x:Str}{v:V}{u:Value}{pos:Pos}(hg:Gl X x)(hm:X.mg x=some u)(r:RelV v u)(hd:(x==("__debug__":Str))=false:=by decide):PE X (.Name x pos) (tC v):=
 fun _ _ _ H _ I h=>ld_glob I hg hm ⟨v,H,I,r,h⟩ hd
theorem pe_bltn{x:Str}{v:V}{u:Value}{pos:Pos}(hg:Gl X x)(hm:X.mg x=none)(hv:bootBuiltins x=some u)(r:RelV v u)(hn:x≠"__name__":=by decide)(hd:(x==("__debug__":Str))=false:=by decide):PE X (.Name x pos) (tC v):=
 fun _ _ _ H _ I h=>ld_blt I hg hm hv ⟨v,H,I,r,h⟩ hn hd
variable {a b:Expr} {ta tb:TE} {pos:Pos}
noncomputable def PC(X:Cx)(op:CmpOp)(a b:Expr)(t:TE):Prop:=
 ∀(pins:List (Addr×Obj)) (s:Shared) (σ:St) (H:Hp) (Q:VK),Inv X pins σ H s→t σ H Q→
   wpAny (model X.prog X.w) X.A (eval a X.env) (fun v s₁=>wpAny (model X.prog X.w) X.A (eval b X.env) (fun u s₂=>wpAny (model X.prog X.w) X.A (compareOp op v u) (EP X pins σ Q) X.xe s₂) X.xe s₁) X.xe s
theorem nobehind(b:Expr){op:CmpOp}(h:op≠ .In)(h2:op≠ .NotIn):behindInMarks op b=false:=by
 have e1:(op==CmpOp.In)=false:=by cases op <;> first | rfl | exact absurd rfl h
 have e2:(op==CmpOp.NotIn)=false:=by cases op <;> first | rfl | exact absurd rfl h2
 cases b <;> simp [behindInMarks,e1,e2]
noncomputable def tB(t:TE):TT:=fun σ H Q=>t σ H fun x H1=>∃c,x= .bl c∧Q c H1
theorem pe_cmp{op:CmpOp}{t:TE}(h:PC X op a b t)(h1:behindInMarks op b=false:=by first | exact nobehind _ (by decide) (by decide) | rfl):PE X (.Compare a [op] [b] pos) t:=fun pins s σ H Q I hw=>wpAny_Compare1 (h pins s σ H Q I hw) h1
theorem pt_cmp{op:CmpOp}{t:TE}(h:PC X op a b t)(h1:behindInMarks op b=false:=by first | exact nobehind _ (by decide) (by decide) | rfl):PT X (.Compare a [op] [b] pos) (tB t):=by
 intro pins s σ H Q I hw
 refine wpAny_isTrue_Compare1 (thn (h pins s σ H _ I hw) fun v s1 h1=>thn h1 fun u s2 h2=>thn h2 fun c s3 hq_=>?_) h1
 obtain ⟨x,H1,I1,r1,q1⟩:=hq_
 obtain ⟨d,rfl,q⟩:=q1
 cases r1
 exact wpAny_truthy_bool ⟨H1,I1,q⟩
theorem pt_val{e:Expr}{t:TE}(h:PE X e t)(he:∀whole,isTrue e X.env whole=(do let v ← whole;standAt e.pos;holding [v] (truthy v)):=by intro _;rfl):PT X e (tB t):=by
 intro pins s σ H Q I hw
 refine isTrue_plain (thn (h pins s σ H _ I hw) fun v s1 hq_=>?_) (he _)
 obtain ⟨x,H1,I1,r1,q1⟩:=hq_
 obtain ⟨d,rfl,q⟩:=q1
 cases r1
 exact wpAny_truthy_bool ⟨H1,I1,q⟩
variable {tA tB':TT} {rest:List Expr}
noncomputable def tAnd(t u:TT):TT:=fun σ H Q=>t σ H fun c H1=>if c=true then u σ H1 Q else Q false H1
noncomputable def tOr(t u:TT):TT:=fun σ H Q=>t σ H fun c H1=>if c=true then Q true H1 else u σ H1 Q
noncomputable def tNot(t:TT):TT:=fun σ H Q=>t σ H fun c H1=>Q (!c) H1
theorem pw_and1(ha:PT X a tA):PW X (.BoolOp .And [a] pos) tA:=by
 intro wh pins s σ H Q I h
 refine isTrue_and (thn (ha pins s σ H Q I h) fun c s1 e=>?_)
 cases c with
 | true=>exact isTrue_and_nil e
 | false=>exact e
theorem pw_or1(ha:PT X a tA):PW X (.BoolOp .Or [a] pos) tA:=by
 intro wh pins s σ H Q I h
 refine isTrue_or (thn (ha pins s σ H Q I h) fun c s1 e=>?_)
 cases c with
 | false=>exact isTrue_or_nil e
 | true=>exact e
theorem pw_and(ha:PT X a tA)(hb:PW X (.BoolOp .And (b::rest) pos) tB'):PW X (.BoolOp .And (a::b::rest) pos) (tAnd tA tB'):=by
 intro wh pins s σ H Q I h
 refine isTrue_and (thn (ha pins s σ H _ I h) fun c s1 ⟨H1,I1,q1⟩=>?_)
 cases c with
 | true=>exact hb wh pins s1 σ H1 Q I1 q1
 | false=>exact ⟨H1,I1,q1⟩
theorem pw_or(ha:PT X a tA)(hb:PW X (.BoolOp .Or (b::rest) pos) tB'):PW X (.BoolOp .Or (a::b::rest) pos) (tOr tA tB'):=by
 intro wh pins s σ H Q I h
 refine isTrue_or (thn (ha pins s σ H _ I h) fun c s1 ⟨H1,I1,q1⟩=>?_)
 cases c with
 | true=>exact ⟨H1,I1,q1⟩
 | false=>exact hb wh pins s1 σ H1 Q I1 q1
theorem pt_not(ha:PT X a tA):PT X (.UnaryOp .Not a pos) (tNot tA):=by
 intro pins s σ H Q I h
 exact isTrue_not (ha pins s σ H (fun c H1=>Q (!c) H1) I h)
noncomputable def tAndV(ta tb:TE):TE:=fun σ H Q=>ta σ H fun x H1=>∃c,x= .bl c∧if c=true then tb σ H1 Q else Q (.bl false) H1
noncomputable def tNotV(ta:TE):TE:=fun σ H Q=>ta σ H fun x H1=>∃c,x= .bl c∧Q (.bl (!c)) H1
theorem pe_one{op}{t:TE}(h:PE X a t):PE X (.BoolOp op [a] pos) t:=fun pins s σ H Q I hw=>BoolOp_one (h pins s σ H Q I hw)
theorem pe_and(ha:PE X a ta)(hb:PE X (.BoolOp .And (b::rest) pos) tb):PE X (.BoolOp .And (a::b::rest) pos) (tAndV ta tb):=by
 intro pins s σ H Q I h
 refine BoolOp_and (thn (ha pins s σ H _ I h) fun v s1 hq_=>?_)
 obtain ⟨x,H1,I1,r1,q1⟩:=hq_
 obtain ⟨c,rfl,q1⟩:=q1
 cases r1
 refine wpAny_truthy_bool ?_
 cases c with
 | true=>exact hb pins s1 σ H1 Q I1 q1
 | false=>exact ⟨.bl false,H1,I1,rfl,q1⟩
theorem pe_not(ha:PE X a ta):PE X (.UnaryOp .Not a pos) (tNotV ta):=by
 intro pins s σ H Q I h
 refine UnaryOp_ (thn (ha pins s σ H _ I h) fun v s1 hq_=>?_)
 obtain ⟨x,H1,I1,r1,q1⟩:=hq_
 obtain ⟨c,rfl,q1⟩:=q1
 cases r1
 exact not_of (wpAny_truthy_bool ⟨.bl (!c),H1,I1,rfl,q1⟩)
noncomputable def tIf(t:TT)(ta tb:TE):TE:=fun σ H Q=>t σ H fun c H1=>if c=true then ta σ H1 Q else tb σ H1 Q
theorem pe_ifExp{c:Expr}(hc:PT X c tA)(ha:PE X a ta)(hb:PE X b tb):PE X (.IfExp c a b pos) (tIf tA ta tb):=by
 intro pins s σ H Q I h
 refine wpAny_IfExp (thn (hc pins s σ H _ I h) fun d s1 ⟨H1,I1,q1⟩=>?_)
 cases d with
 | true=>exact ha pins s1 σ H1 Q I1 q1
 | false=>exact hb pins s1 σ H1 Q I1 q1
end
end L2
namespace L2
noncomputable def SqL(K:PySem.W.Frag)(H:Hp)(a:Addr)(xs:List V):Prop:=
 Rd H a (.lst xs)∨
  ∃(o:Obj) (its:Array Value) (n:Nat),K.lookup a=some o∧o.cls= .type "list"∧o.dict=none∧o.data= .seq its n∧its.size≤sizeLine∧Vals xs its.toList
noncomputable def SqT(K:PySem.W.Frag)(H:Hp)(a:Addr)(xs:List V):Prop:=
 Rd H a (.tup xs)∨
  ∃(o:Obj) (its:Array Value) (n:Nat),K.lookup a=some o∧o.cls= .type "tuple"∧o.data= .seq its n∧its.size≤sizeLine∧Vals xs its.toList
noncomputable def absV:Value→Option V
 | .none=>some .non
 | .bool b=>some (.bl b)
 | .int i _=>some (.int i)
 | .str x _=>some (.str x)
 | .bytes b _=>some (.byt b)
 | .float b _=>some (.flt b)
 | .ref a=>some (.ref a)
 | .type n=>some (.ty n)
 | _=>none
theorem RelV.abs{x:V}{u:Value}(r:RelV x u):absV u=some x:=by
 cases x with
 | non=>cases r;rfl
 | bl _=>cases r;rfl
 | int _=>obtain ⟨t,rfl⟩:=r;rfl
 | str _=>obtain ⟨t,rfl⟩:=r;rfl
 | byt _=>obtain ⟨t,rfl⟩:=r;rfl
 | flt _=>obtain ⟨t,rfl⟩:=r;rfl
 | ref _=>cases r;rfl
 | ty _=>cases r;rfl
theorem RelV.inj{x y:V}{u:Value}(r:RelV x u)(q:RelV y u):x=y:=Option.some.inj (r.abs.symm.trans q.abs)
theorem Vals.inj:∀{xs ys:List V} {us:List Value},Vals xs us→Vals ys us→xs=ys
 | _,_,_,.nil,.nil=>rfl
 | _,_,_,.cons r t,.cons r' t'=>by rw [r.inj r',Vals.inj t t']
section
variable {X:Cx} {pins:List (Addr×Obj)} {σ:St} {H:Hp} {s:Shared} {a:Addr} {xs ys:List V}
theorem SqL.of{K:PySem.W.Frag}(h:H a=some (.lst xs)):SqL K H a xs:= .inl (.inl h)
theorem SqT.of{K:PySem.W.Frag}(h:H a=some (.tup xs)):SqT K H a xs:= .inl (.inl h)
theorem Inv.list(I:Inv X pins σ H s)(h:SqL X.K H a xs):∃its:List Value,Vals xs its∧PlainL s.heap a its.toArray∧xs.length≤sizeLine:=by
 rcases h with h | ⟨o,its,n,hk,hc,hd,hs,hz,r⟩
 · obtain ⟨z,its,n,r,e⟩:=h.ok I.hok
   exact ⟨its,r,⟨_,n,e,rfl,rfl,rfl⟩,z⟩
 · refine ⟨its.toList,r,⟨o,n,I.kIn a o hk,hc,hd,by simpa using hs⟩,?_⟩
   have e:=r.length
   simp only [Array.length_toList]at e
   omega
theorem Inv.tuple(I:Inv X pins σ H s)(h:SqT X.K H a xs):∃its:List Value,Vals xs its∧IsTup s.heap a its.toArray∧xs.length≤sizeLine:=by
 rcases h with h | ⟨o,its,n,hk,hc,hs,hz,r⟩
 · obtain ⟨z,its,r,p⟩:=h.ok I.hok
   exact ⟨its,r,p,z⟩
 · refine ⟨its.toList,r,⟨o,I.kIn a o hk,hc,n,by simpa using hs⟩,?_⟩
   have e:=r.length
   simp only [Array.length_toList]at e
   omega
theorem Inv.list_inj(I:Inv X pins σ H s)(h:SqL X.K H a xs)(h':SqL X.K H a ys):xs=ys:=by
 obtain ⟨its,r,⟨o,n,e,_,_,d⟩,_⟩:=I.list h
 obtain ⟨its',r',⟨o',n',e',_,_,d'⟩,_⟩:=I.list h'
 rw [e]at e';cases e'
 rw [d]at d'
 injection d' with d1 _
 have:its=its':=by simpa using congrArg Array.toList d1
 subst this
 exact r.inj r'
end
section
variable {X:Cx} {st:Stmt} {rest:List Stmt} {t u:TS} {e:Expr} {te:TE} {pos:Pos}
noncomputable def tNext:TS:=fun D σ H=>D.nx σ H
noncomputable def tSeq(t u:TS):TS:=fun D σ H=>t {D with nx:=u D} σ H
theorem pss_nil:PSs X [] tNext:=fun _ _ σ H _ I h=>wpAny_execs_nil ⟨σ,H,I,h⟩
theorem pss_cons(h1:PS X st t)(h2:PSs X rest u):PSs X (st::rest) (tSeq t u):=by
 intro pins s σ H D I h
 refine wpAny_execs_cons (thn (h1 pins s σ H {D with nx:=u D} I h) fun f s1 q=>?_)
 cases f with
 | next=>
  obtain ⟨σ',H',I',q⟩:=q
  exact h2 pins s1 σ' H' D I' q
 | ret v=>exact q
 | brk=>exact q
 | cont=>exact q
theorem pss_one(h1:PS X st t):PSs X [st] t:=by
 intro pins s σ H D I h
 refine wpAny_execs_cons (thn (h1 pins s σ H D I h) fun f s1 q=>?_)
 cases f with
 | next=>exact wpAny_execs_nil q
 | ret v=>exact q
 | brk=>exact q
 | cont=>exact q
theorem Inv.quiet{pins:List (Addr×Obj)}{σ:St}{H:Hp}{s:Shared}(I:Inv X pins σ H s):interactive X.env=false:=by simp [interactive,I.ok.kind]
noncomputable def tDrop(te:TE):TS:=fun D σ H=>te σ H fun _ H1=>D.nx σ H1
theorem ps_expr(he:PE X e te)(hs:swapsWith e none pos.line X.env=pure false:=by rfl):PS X (.Expr e pos) (tDrop te):=by
 intro pins s σ H D I h
 exact wpAny_Expr_any (thn (he pins s σ H _ I h) fun v s1 ⟨x,H1,I1,r1,q1⟩=>⟨σ,H1,I1,q1⟩) I.quiet hs
noncomputable def tRet(te:TE):TS:=fun D σ H=>te σ H D.rt
theorem ps_ret(he:PE X e te):PS X (.Return (some e) pos) (tRet te):=by
 intro pins s σ H D I h
 exact wpAny_Return_some (thn (he pins s σ H _ I h) fun v s1 ⟨x,H1,I1,r1,q1⟩=>⟨x,σ,H1,I1,r1,q1⟩)
noncomputable def tIfS(c:TT)(t u:TS):TS:=fun D σ H=>c σ H fun b H1=>if b=true then t D σ H1 else u D σ H1
theorem ps_if{c:Expr}{a b:List Stmt}{tc:TT}(hc:PT X c tc)(ha:PSs X a t)(hb:PSs X b u):PS X (.If c a b pos) (tIfS tc t u):=by
 intro pins s σ H D I h
 refine wpAny_If (thn (hc pins s σ H _ I h) fun d s1 ⟨H1,I1,q1⟩=>?_)
 cases d with
 | true=>exact ha pins s1 σ H1 D I1 q1
 | false=>exact hb pins s1 σ H1 D I1 q1
noncomputable def tNever:TS:=fun _ _ _=>False
theorem ps_never:PS X st tNever:=fun _ _ _ _ _ _ h=>h.elim
end
noncomputable abbrev TG:=V→St→Hp→(St→Hp→Prop)→Prop
noncomputable abbrev TGs:=List V→St→Hp→(St→Hp→Prop)→Prop
noncomputable def PG(X:Cx)(target:Expr)(t:TG):Prop:=
 ∀(pins:List (Addr×Obj)) (s:Shared) (σ:St) (H:Hp) (v:V) (u:Value) (Q:St→Hp→Prop),Inv X pins σ H s→RelV v u→t v σ H Q→
   wpAny (model X.prog X.w) X.A (assign target X.env u) (fun _ s'=>∃σ' H',Inv X pins σ' H' s'∧Q σ' H') X.xe s
noncomputable def PGs(X:Cx)(ts:List Expr)(t:TGs):Prop:=
 ∀(pins:List (Addr×Obj)) (s:Shared) (σ:St) (H:Hp) (vs:List V) (us:List Value) (Q:St→Hp→Prop),Inv X pins σ H s→Vals vs us→t vs σ H Q→
   wpAny (model X.prog X.w) X.A (assignInOrder ((assignEach ts X.env).map (·.2)) us) (fun _ s'=>∃σ' H',Inv X pins σ' H' s'∧Q σ' H') X.xe s
noncomputable abbrev TSet:=V→V→V→Hp→(Hp→Prop)→Prop
noncomputable def PSet(X:Cx)(t:TSet):Prop:=
 ∀(pins:List (Addr×Obj)) (s:Shared) (σ:St) (H:Hp) (o i v:V) (ov iv u:Value) (Q:Hp→Prop),Inv X pins σ H s→RelV o ov→RelV i iv→RelV v u→t o i v H Q→
   wpAny (model X.prog X.w) X.A (setItem ov iv u) (fun _ s'=>∃H',Inv X pins σ H' s'∧Q H') X.xe s
noncomputable abbrev TIp:=V→V→Hp→VK→Prop
noncomputable def PIp(X:Cx)(op:Operator)(t:TIp):Prop:=
 ∀(pins:List (Addr×Obj)) (s:Shared) (σ:St) (H:Hp) (x y:V) (v u:Value) (Q:VK),Inv X pins σ H s→RelV x v→RelV y u→t x y H Q→
   wpAny (model X.prog X.w) X.A (inplaceOp op v u) (EP X pins σ Q) X.xe s
section
variable {X:Cx} {pos:Pos}
noncomputable def gName(i:Nat):TG:=fun v σ H Q=>Q (σ.set i (some v)) H
theorem pg_name{i:Nat}{x:Str}(hN:X.N.Nodup)(hi:X.N[i]?=some x)(hx:Loc X.env.scope x)(hf:X.fn x=true∨X.env.scope.names.lookup x=some .local:=by first | exact .inl rfl | exact .inr rfl | assumption):PG X (.Name x pos) (gName i):=by
 intro pins s σ H v u Q I r h
 exact wpAny_assign_Name (store_ok I hN hi hx r (fun s' I'=>⟨_,H,I',h⟩) hf)
noncomputable def gNil:TGs:=fun vs σ H Q=>vs=[]∧Q σ H
noncomputable def gCons(t:TG)(u:TGs):TGs:=fun vs σ H Q=>∃v r,vs=v::r∧t v σ H fun σ' H'=>u r σ' H' Q
theorem pgs_nil:PGs X [] gNil:=by
 intro pins s σ H vs us Q I r h
 obtain ⟨e,h⟩:=h
 subst e
 cases r
 exact assignInOrder_nil ⟨σ,H,I,h⟩
theorem pgs_cons{e:Expr}{es:List Expr}{t:TG}{u:TGs}(h1:PG X e t)(h2:PGs X es u)
 (hs:(assignEach (e::es) X.env).map (·.2)=assign e X.env::(assignEach es X.env).map (·.2):=by rfl):PGs X (e::es) (gCons t u):=by
 intro pins s σ H vs us Q I r h
 obtain ⟨v,vr,e1,h⟩:=h
 subst e1
 cases r with
 | cons r rr=>
  rw [hs]
  refine assignInOrder_cons (thn (h1 pins s σ H _ _ _ I r h) fun _ s1 hq_=>?_)
  obtain ⟨σ1,H1,I1,q1⟩:=hq_
  exact h2 pins s1 σ1 H1 _ _ Q I1 rr q1
noncomputable def gTup(K:PySem.W.Frag)(n:Nat)(t:TGs):TG:=fun v σ H Q=>∃a xs,v= .ref a∧SqT K H a xs∧xs.length=n∧t xs σ H Q
theorem pg_tup{es:List Expr}{k:Nat}{t:TGs}{n:Nat}(hc:X.calm=true)(h:PGs X es t)
 (hn:(assignEach es X.env).length=n:=by rfl) (hst:(assignEach es X.env).findIdx? (·.1)=none:=by rfl):PG X (.Tuple es k pos) (gTup X.K n t):=by
 intro pins s σ H v u Q I r hw
 obtain ⟨a,xs,e1,hq,hl,hw⟩:=hw
 subst e1
 cases r
 obtain ⟨its,rv,ht,hz⟩:=I.tuple hq
 refine assign_Tuple_tuple (I.ok.hd hc) ht (by simp [hn,← hl,rv.length]) hst fun h' hx=>?_
 have I1:Inv X pins σ H {s with heap:=h'}:=I.kept (t':=s.toks) fun b o e=>hx b o (Nat.ne_of_lt (Heap.lt_size e)) e
 exact h pins _ σ H xs _ Q I1 (by simpa using rv) hw
noncomputable def tAsg(te:TE)(g:TG):TS:=fun D σ H=>te σ H fun x H1=>g x σ H1 D.nx
theorem ps_set{i:Nat}{x:Str}{e:Expr}{te:TE}{pos':Pos}(hN:X.N.Nodup)(hi:X.N[i]?=some x)(hx:Loc X.env.scope x)(he:PE X e te)(hs:swapsWith e (some (.Name x pos')) pos.line X.env=pure false:=by rfl)(hf:X.fn x=true∨X.env.scope.names.lookup x=some .local:=by first | exact .inl rfl | exact .inr rfl | assumption):
 PS X (.Assign [.Name x pos'] e pos) (tAsg te (gName i)):=by
 intro pins s σ H D I h
 refine wpAny_Assign_Name (thn (he pins s σ H _ I h) fun v s1 hq_=>?_) hs
 obtain ⟨y,H1,I1,r1,q1⟩:=hq_
 exact store_ok I1 hN hi hx r1 (fun s2 I2=>⟨_,H1,I2,q1⟩) hf
noncomputable def tAugS(to ti te:TE)(tget:V→V→Hp→VK→Prop)(tip:TIp)(tset:TSet):TS:=fun D σ H=>to σ H fun o H1=>ti σ H1 fun i H2=>tget o i H2 fun x H3=>te σ H3 fun y H4=>tip x y H4 fun z H5=>tset o i z H5 fun H6=>D.nx σ H6
noncomputable def PGet(X:Cx)(t:V→V→Hp→VK→Prop):Prop:=
 ∀(pins:List (Addr×Obj)) (s:Shared) (σ:St) (H:Hp) (o i:V) (ov iv:Value) (Q:VK),Inv X pins σ H s→RelV o ov→RelV i iv→t o i H Q→
   wpAny (model X.prog X.w) X.A (getItem ov iv) (EP X pins σ Q) X.xe s
theorem ps_augS{o i e:Expr}{to ti te:TE}{tget:V→V→Hp→VK→Prop}{tip:TIp}{tset:TSet}{op:Operator}{tpos:Pos}(ho:PE X o to)(hi:PE X i ti)(hg:PGet X tget)(he:PE X e te)(hp:PIp X op tip)(hs:PSet X tset)
 (ha:∀ov iv new,augStore i ov iv new=(do holding [new,ov,iv] (setItem ov iv new);release [new,ov,iv] [];pure .next):=by intros;rfl):PS X (.AugAssign (.Subscript o i tpos) op e pos) (tAugS to ti te tget tip tset):=by
 intro pins s σ H D I h
 refine wpAny_AugAssign_SubscriptAny (thn (ho pins s σ H _ I h) fun ov s1 hq_=>?_) ha
 obtain ⟨x1,H1,I1,r1,q1⟩:=hq_
 refine thn (hi pins s1 σ H1 _ I1 q1) fun iv s2 hq_=>?_
 obtain ⟨x2,H2,I2,r2,q2⟩:=hq_
 refine thn (hg pins s2 σ H2 x1 x2 ov iv _ I2 r1 r2 q2) fun old s3 hq_=>?_
 obtain ⟨x3,H3,I3,r3,q3⟩:=hq_
 refine thn (he pins s3 σ H3 _ I3 q3) fun v s4 hq_=>?_
 obtain ⟨x4,H4,I4,r4,q4⟩:=hq_
 refine thn (hp pins s4 σ H4 x3 x4 old v _ I4 r3 r4 q4) fun new s5 hq_=>?_
 obtain ⟨x5,H5,I5,r5,q5⟩:=hq_
 exact thn (hs pins s5 σ H5 x1 x2 x5 ov iv new _ I5 r1 r2 r5 q5) fun _ s6 ⟨H6,I6,q6⟩=>⟨σ,H6,I6,q6⟩
noncomputable def ipI(f:Int→Int→Int):TIp:=fun x y H Q=>∃i j,x= .int i∧y= .int j∧Q (.int (f i j)) H
theorem ip_add:PIp X .Add (ipI fun i j=>i+j):=by
 intro pins s σ H x y v u Q I r1 r2 h
 obtain ⟨i,j,e1,e2,q⟩:=h
 subst e1;subst e2
 obtain ⟨t,rfl⟩:=r1
 obtain ⟨t',rfl⟩:=r2
 exact iadd_int ⟨.int _,H,I.tok _,⟨_,rfl⟩,q⟩
end
structure It where
 go:Nat→Hp→Prop
 yld:Nat→Hp→V→Hp→Prop
 stop:Nat→Hp→Prop
noncomputable def FpOk(X:Cx)(pins:List (Addr×Obj))(H:Hp)(b:Addr):Prop:=
 H b=none∧b≠X.env.locals∧b∉X.fs∧(b∈X.ex∨X.s₀.heap.objs.size≤b)∧(∀x c,X.env.cells.lookup x=some c→c≠b)∧∀p∈X.pn++pins,p.1≠b
theorem Inv.fpOk{X:Cx}{pins:List (Addr×Obj)}{σ:St}{H H':Hp}{s:Shared}{b:Addr}(I:Inv X pins σ H s)(hb:s.heap.objs.size≤b)(hn:H' b=none):FpOk X pins H' b:=by
 refine ⟨hn,Nat.ne_of_gt (Nat.lt_of_lt_of_le I.lt hb),I.nofs hb,.inr (Nat.le_trans I.sz hb),fun x c e z=>?_,fun p hp z=>?_⟩
 · obtain ⟨v,q⟩:=I.cell x c e
   exact absurd (Nat.lt_of_lt_of_le q.lt (by rw [z];exact hb)) (Nat.lt_irrefl _)
 · exact absurd (Nat.lt_of_lt_of_le (Heap.lt_size (I.pin p hp).1) (by rw [z];exact hb)) (Nat.lt_irrefl _)
structure Turn(P:Program)(w:World)(K:PySem.W.Frag)(tg:Expr)(J:It)(fp:List Addr)(it:Addr)(tn:Nat→Heap→Prop):Prop where
 mem:it∈fp
 obj:∀i h,tn i h→∀b∈fp,∃o,h.get? b=some o∧∀v,o.data≠ .cell v
 keep:∀i h h',tn i h→(∀b∈fp,∀o,h.get? b=some o→h'.get? b=some o)→tn i h'
 item:∀(X:Cx),X.prog=P→X.w=w→X.K=K→X.calm=true→∀(i:Nat) (pins:List (Addr×Obj)) (s:Shared) (σ:St) (H:Hp) (E:Value→Shared→Prop),Inv X pins σ H s→(∀b∈fp,FpOk X pins H b)→tn i s.heap→J.go i H→
  wpAny (model P w) X.A (pyNext (.ref it)) (fun r s1=>∃u,r=some u∧
   wpAny (model P w) X.A (letOwnedTupleGo tg (.ref it) u) (fun _ s2=>∃x H',Inv X pins σ H' s2∧RelV x u∧J.yld i H x H'∧tn (i+1) s2.heap∧∀b∈fp,H' b=none) E s1) E s
 done:∀(X:Cx),X.prog=P→X.w=w→X.K=K→X.calm=true→∀(i:Nat) (pins:List (Addr×Obj)) (s:Shared) (σ:St) (H:Hp) (E:Value→Shared→Prop),Inv X pins σ H s→(∀b∈fp,FpOk X pins H b)→tn i s.heap→J.stop i H→
   wpAny (model P w) X.A (pyNext (.ref it)) (fun r s1=>r=none∧Inv X pins σ H s1) E s
 self:∀(A:Around) (i:Nat) (s:Shared) (Q:Value→Shared→Prop) (E:Value→Shared→Prop),tn i s.heap→Q (.ref it) s→wpAny (model P w) A (pyIter (.ref it)) Q E s
noncomputable abbrev TI:=St→Hp→(It→Hp→Prop)→Prop
noncomputable def PIE(X:Cx)(pins:List (Addr×Obj))(σ:St)(tg:Expr)(R:It→Hp→Prop)(itv:Value)(s2:Shared):Prop:=
 ∃(it:Addr) (fp:List Addr) (tn:Nat→Heap→Prop) (J:It) (H':Hp),itv= .ref it∧Inv X pins σ H' s2∧Turn X.prog X.w X.K tg J fp it tn∧tn 0 s2.heap∧(∀b∈fp,FpOk X pins H' b)∧R J H'
noncomputable def PI(X:Cx)(tg iter:Expr)(wi:TI):Prop:=
 ∀(pins:List (Addr×Obj)) (s:Shared) (σ:St) (H:Hp) (R:It→Hp→Prop),Inv X pins σ H s→wi σ H R→
   wpAny (model X.prog X.w) X.A (eval iter X.env) (fun v s1=>wpAny (model X.prog X.w) X.A (pyIter v) (PIE X pins σ tg R) X.xe s1) X.xe s
theorem go_of{M:Model}{A:Around}{E:Value→Shared→Prop}{s:Shared}{tg:Expr}{it:Addr}{u:Value}{o:Obj}{n:String}{vs:Array Value}{Q:Unit→Shared→Prop}(ho:s.heap.get? it=some o)(hc:o.cls= .type n)(hd:o.data= .fields vs)
 (hn:["enumerate","zip","dict_itemiterator","dict_reverseitemiterator","odict_iterator","itertools.zip_longest","itertools.pairwise"].contains n=false) (hQ:Q () s):wpAny M A (letOwnedTupleGo tg (.ref it) u) Q E s:=by
 unfold letOwnedTupleGo
 cases tg <;> first
  | exact wpAny_pure hQ
  | (cases u <;> first
   | exact wpAny_pure hQ
   | (refine wpAny_bind (wpAny_load ho ?_)
      rw [hc,hd]
      show wpAny M A (if (["enumerate","zip","dict_itemiterator","dict_reverseitemiterator","odict_iterator","itertools.zip_longest","itertools.pairwise"].contains n && vs[0]?==some (rawInt _))=true then _ else _) Q E s
      rw [if_neg (by intro h;rw [hn,Bool.false_and]at h;cases h)]
      exact wpAny_pure hQ))
noncomputable def Itl(K:PySem.W.Frag)(a:Addr):It:=
 ⟨fun i H=>∃xs x,SqL K H a xs∧xs[i]?=some x,fun i H x H'=>H'=H∧∀xs,SqL K H a xs→xs[i]?=some x,fun i H=>∃xs,SqL K H a xs∧xs.length≤i⟩
noncomputable def Itr(lo:Int)(n:Nat):It:=⟨fun i _=>i < n,fun i H x H'=>H'=H∧x= .int (lo+i),fun i _=>n≤i⟩
theorem turn_list{P:Program}{w:World}{K:PySem.W.Frag}{tg:Expr}(a it:Addr):Turn P w K tg (Itl K a) [it] it (fun i h=>h.IsListIter it a i) where
 mem:=by simp
 obj:=fun i h st b hb=>by
  have e:b=it:=by simpa using hb
  subst e
  obtain ⟨o,e,c,d⟩:=st
  exact ⟨o,e,fun v z=>by rw [d]at z;cases z⟩
 keep:=fun i h h' st k=>st.at fun o e=>k it (by simp) o e
 item:=by
  intro X hP hw hK hc i pins s σ H E I hf st hg
  subst hP hw hK
  obtain ⟨xs,x,hq,hx⟩:=hg
  obtain ⟨its,rv,p,hz⟩:=I.list hq
  obtain ⟨u,hu,ru⟩:=rv.get hx
  obtain ⟨f0,f1,f2,f3,f4,f5⟩:=hf it (by simp)
  refine wpAny_pyNext_list_item st p.isList (x:=u) (by simpa using hu) fun h' st' sb=>?_
  have I1:Inv X pins σ H {s with heap:=h'}:=I.turned (t':=s.toks) (fun b o hb e=>(sb.2 b hb).trans e) f0 f1 f3 f4 f5
  obtain ⟨o,e,c,d⟩:=id st'
  exact ⟨u,rfl,go_of (s:={s with heap:=h'}) e c d (by decide) ⟨x,H,I1,ru,⟨rfl,fun ys hy=>by rw [I.list_inj hy hq];exact hx⟩,st',fun b hb=>(hf b hb).1⟩⟩
 done:=by
   intro X hP hw hK hc i pins s σ H E I hf st hg
   subst hP hw hK
   obtain ⟨xs,hq,hx⟩:=hg
   obtain ⟨its,rv,p,hz⟩:=I.list hq
   obtain ⟨f0,f1,f2,f3,f4,f5⟩:=hf it (by simp)
   have hl:=rv.length
   exact wpAny_pyNext_list_end (I.ok.hd hc) st p.isList (by simp;omega) fun h' eb=>⟨rfl,I.turned (t':=s.toks) (fun b o hb e=>eb b o hb e) f0 f1 f3 f4 f5⟩
 self:=fun _ _ _ _ _ st h=>wpAny_pyIter_listiter st h
theorem turn_range{P:Program}{w:World}{K:PySem.W.Frag}{tg:Expr}(it:Addr)(lo:Int)(n:Nat):Turn P w K tg (Itr lo n) [it] it (fun i h=>IsRangeIter h it (lo+(i:Nat) * 1) ((n:Int) - (i:Nat)) 1) where
 mem:=by simp
 obj:=fun i h st b hb=>by
  have e:b=it:=by simpa using hb
  subst e
  exact ⟨_,st,fun v z=>by
   have z':Data.fields _=Data.cell v:=z
   cases z'⟩
 keep:=fun i h h' st k=>k it (by simp) _ st
 item:=by
  intro X hP hw hK hc i pins s σ H E I hf st hg
  subst hP hw hK
  obtain ⟨f0,f1,f2,f3,f4,f5⟩:=hf it (by simp)
  have W:=Walks.range (prog:=X.prog) (w:=X.w) (I.ok.hd hc) it lo 1 n
  refine W.item i s _ _ hg st fun v h' tk hv st' kk=>?_
  obtain ⟨t,rfl⟩:=hv
  have I1:Inv X pins σ H {s with heap:=h',toks:=tk}:=I.turned (fun b o hb e=>kk b o (by simpa using hb) e) f0 f1 f3 f4 f5
  refine ⟨_,rfl,go_of (s:={s with heap:=h',toks:=tk}) (n:="range_iterator") st' rfl rfl (by decide) ⟨.int (lo+i),H,I1,⟨t,?_⟩,⟨rfl,rfl⟩,st',fun b hb=>(hf b hb).1⟩⟩
  rw [Int.mul_one]
 done:=by
   intro X hP hw hK hc i pins s σ H E I hf st hg
   subst hP hw hK
   obtain ⟨f0,f1,f2,f3,f4,f5⟩:=hf it (by simp)
   exact wpAny_pyNext_range_end (I.ok.hd hc) st (by have:n≤i:=hg;omega) fun h' eb=>⟨rfl,I.turned (t':=s.toks) (fun b o hb e=>eb b o hb e) f0 f1 f3 f4 f5⟩
 self:=fun _ _ _ _ _ st h=>wpAny_pyIter_rangeiter st h
end L2
namespace L2
section
variable {X:Cx} {tg:Expr}
noncomputable def iList(K:PySem.W.Frag)(tl:TE):TI:=fun σ H R=>tl σ H fun x H1=>∃a,x= .ref a∧(∃xs,SqL K H1 a xs)∧R (Itl K a) H1
theorem pi_list{l:Expr}{tl:TE}(hl:PE X l tl):PI X tg l (iList X.K tl):=by
 intro pins s σ H R I h
 refine thn (hl pins s σ H _ I h) fun v s1 hq_=>?_
 obtain ⟨x,H1,I1,r1,q1⟩:=hq_
 obtain ⟨a,e,⟨xs,hq⟩,q⟩:=q1
 subst e
 cases r1
 obtain ⟨its,rv,p,hz⟩:=I1.list hq
 refine wpAny_pyIter_list p.isList ?_
 refine ⟨s1.heap.objs.size,[s1.heap.objs.size],_,_,H1,rfl,I1.kept (t':=s1.toks) fun b o e=>Heap.get?_push_of_some _ e,turn_list a _,⟨_,Heap.get?_push_size _ rfl,rfl,rfl⟩,fun b hb=>?_,q⟩
 have e:b=s1.heap.objs.size:=by simpa using hb
 subst e
 exact I1.fpOk (Nat.le_refl _) (I1.hok.fresh (Nat.le_refl _))
theorem range_it{pins:List (Addr×Obj)}{σ:St}{H:Hp}{s:Shared}{R:It→Hp→Prop}{E:Value→Shared→Prop}{lo hi:Int}{t u v:Tok}{tk:Nat}(I:Inv X pins σ H s)(h1:-(2 ^ 62)≤lo)(h2:lo < 2 ^ 62)(h3:-(2 ^ 62)≤hi)(h4:hi < 2 ^ 62)
 (q:R (Itr lo (hi - lo).toNat) H):wpAny (model X.prog X.w) X.A (pyIter (.ref s.heap.objs.size)) (PIE X pins σ tg R) E {s with heap:=s.heap.push {cls:= .type "range",data:= .fields #[.int lo t,.int hi u,.int 1 v]},toks:=tk}:=by
 refine wpAny_pyIter_range (IsRange.new ..) (small_one h1 h2 h3 h4) ?_
 have I1:Inv X pins σ H {s with heap:=s.heap.push {cls:= .type "range",data:= .fields #[.int lo t,.int hi u,.int 1 v]},toks:=tk}:=I.kept fun b o e=>Heap.get?_push_of_some _ e
 refine ⟨(s.heap.push {cls:= .type "range",data:= .fields #[.int lo t,.int hi u,.int 1 v]}).objs.size,[(s.heap.push {cls:= .type "range",data:= .fields #[.int lo t,.int hi u,.int 1 v]}).objs.size],_,_,H,rfl,
  I1.kept (t':=tk) fun b o e=>Heap.get?_push_of_some _ e,turn_range _ lo (hi - lo).toNat,?_,fun b hb=>?_,q⟩
 · have e1:lo+((0:Nat):Int) * 1=lo:=by simp
   have e2:(((hi - lo).toNat:Nat):Int) - ((0:Nat):Int)=Builtin.Range.rangeSize lo hi 1:=by rw [rangeSize_one];split <;> omega
   show IsRangeIter _ _ (lo+((0:Nat):Int) * 1) ((((hi - lo).toNat:Nat):Int) - ((0:Nat):Int)) 1
   rw [e1,e2]
   exact Heap.get?_push_size _ rfl
 · have e:b=(s.heap.push {cls:= .type "range",data:= .fields #[.int lo t,.int hi u,.int 1 v]}).objs.size:=by simpa using hb
   subst e
   exact I1.fpOk (Nat.le_refl _) (I1.hok.fresh (Nat.le_refl _))
noncomputable def iRng1(ta:TA):TI:=fun σ H R=>ta σ H fun vs H1=>∃j:Int,vs=[.int j]∧-(2 ^ 62)≤j∧j < 2 ^ 62∧R (Itr 0 j.toNat) H1
noncomputable def iRng2(ta:TA):TI:=fun σ H R=>ta σ H fun vs H1=>∃i j:Int,vs=[.int i,.int j]∧(-(2 ^ 62)≤i∧i < 2 ^ 62∧-(2 ^ 62)≤j∧j < 2 ^ 62)∧R (Itr i (j - i).toNat) H1
theorem pi_range1{a:Expr}{ta:TA}{p pos:Pos}(hg:Gl X "range")(hm:X.mg "range"=none)(ha:PA X [a] ta)(hs:starEach [a] X.env=[(false,eval a X.env)]:=by rfl):PI X tg (.Call (.Name "range" p) [a] [] pos) (iRng1 ta):=by
 intro pins s σ H R I h
 refine Call_ (ld_blt I hg hm boot_range (PyProof.Rows.callWith_type1 (thn (ha pos pins s σ H _ I h) fun us s1 hq_=>?_) hs rfl))
 obtain ⟨vs,H1,I1,r1,q1⟩:=hq_
 obtain ⟨j,e,q1,q2,q⟩:=q1
 subst e
 cases r1 with
 | cons r rr=>
  cases rr
  obtain ⟨t,rfl⟩:=r
  exact call_range_1 (range_it I1 (by omega) (by omega) q1 q2 (by simpa using q))
theorem pi_range2{a b:Expr}{ta:TA}{p pos:Pos}(hg:Gl X "range")(hm:X.mg "range"=none)(ha:PA X [a,b] ta)(hs:starEach [a,b] X.env=[(false,eval a X.env),(false,eval b X.env)]:=by rfl)(hs2:starEach [b] X.env=[(false,eval b X.env)]:=by rfl):
 PI X tg (.Call (.Name "range" p) [a,b] [] pos) (iRng2 ta):=by
 intro pins s σ H R I h
 refine Call_ (ld_blt I hg hm boot_range (PyProof.Rows.callWith_type1 (thn (ha pos pins s σ H _ I h) fun us s1 ⟨vs,H1,I1,r1,q1⟩=>?_) (by rw [hs,hs2]) (by rw [hs2];rfl)))
 obtain ⟨i,j,e,⟨q1,q2,q3,q4⟩,q⟩:=q1
 subst e
 cases r1 with
 | cons r rr=>
  cases rr with
  | cons r' rr=>
   cases rr
   obtain ⟨t,rfl⟩:=r
   obtain ⟨t',rfl⟩:=r'
   exact call_range_2 (range_it I1 q1 q2 q3 q4 q)
noncomputable def tFor(wi:TI)(g:TG)(tb:TS):TS:=fun D σ H=>wi σ H fun J H1=>∃W:Nat→Nat→St→Hp→Prop,(∃m,W 0 m σ H1)∧∀i m σ H,W i m σ H→
 (J.stop i H∧D.nx σ H)∨(J.go i H∧∃N:St→Hp→Prop,(∀σ' H',N σ' H'→∃m',m' < m∧W (i+1) m' σ' H')∧∀x H',J.yld i H x H'→g x σ H' fun σ2 H2=>tb {D with nx:=N,ct:=N,bk:=D.nx} σ2 H2)
noncomputable def pinsAt(fp:List Addr)(h:Heap):List (Addr×Obj):=fp.filterMap fun b=>(h.get? b).map fun o=>(b,o)
theorem mem_pinsAt{fp:List Addr}{h:Heap}{b:Addr}{o:Obj}(hb:b∈fp)(e:h.get? b=some o):(b,o)∈pinsAt fp h:=List.mem_filterMap.mpr ⟨b,hb,by rw [e];rfl⟩
theorem of_pinsAt{fp:List Addr}{h:Heap}{p:Addr×Obj}(hp:p∈pinsAt fp h):p.1∈fp∧h.get? p.1=some p.2:=by
 obtain ⟨b,hb,e⟩:=List.mem_filterMap.mp hp
 cases q:h.get? b with
 | none=>rw [q]at e;cases e
 | some o=>
  rw [q]at e
  have e':(b,o)=p:=Option.some.inj e
  subst e'
  exact ⟨hb,q⟩
theorem Inv.pinned{pins:List (Addr×Obj)}{σ:St}{H:Hp}{s:Shared}{fp:List Addr}(I:Inv X pins σ H s)(hf:∀b∈fp,FpOk X pins H b)(ho:∀b∈fp,∃o,s.heap.get? b=some o∧∀v,o.data≠ .cell v):Inv X (pins++pinsAt fp s.heap) σ H s:=
 I.pins_of fun p hp=>(List.mem_append.mp hp).elim (fun z=>I.pin p (List.mem_append_right _ z)) fun z=>by
  obtain ⟨hb,e⟩:=of_pinsAt z
  obtain ⟨f0,f1,f2,_⟩:=hf p.1 hb
  obtain ⟨o,e',d⟩:=ho p.1 hb
  rw [e]at e';cases e'
  exact ⟨e,f0,f1,f2,d⟩
theorem Inv.unpinned{pins pl:List (Addr×Obj)}{σ:St}{H:Hp}{s:Shared}(I:Inv X (pins++pl) σ H s):Inv X pins σ H s:=I.pins_of fun p hp=>I.pin p (List.mem_append_right _ (List.mem_append_left _ hp))
theorem ps_for{iter:Expr}{body:List Stmt}{wi:TI}{g:TG}{tb:TS}{pos:Pos}(hp:PassesOwn (model X.prog X.w) X.A X.env X.xe)(hc:X.calm=true)(hi:PI X tg iter wi)(hg:PG X tg g)(hb:PSs X body tb)
 (hs:∀x,foldedSetIterable iter X.env x=pure x:=by intro _;rfl):PS X (.For tg iter body [] pos) (tFor wi g tb):=by
 intro pins s σ H D I h
 refine wpAny_For (thn (hi pins s σ H _ I h) fun v s1 h1=>thn h1 fun itv s2 h2=>?_) hs
 obtain ⟨it,fp,tn,J,H2,e,I2,T,st2,f2,W,⟨m0,w0⟩,turn⟩:=h2
 subst e
 have stat:∀{H':Hp},(∀b∈fp,H' b=none)→∀b∈fp,FpOk X pins H' b:=fun hn b hb=>⟨hn b hb,(f2 b hb).2⟩
 refine codeAny_forLoop_any (fun n s'=>∃i σ' H',Inv X pins σ' H' s'∧tn i s'.heap∧(∀b∈fp,H' b=none)∧W i n σ' H') ?_ m0 ⟨0,σ,H2,I2,st2,fun b hb=>(f2 b hb).1,w0⟩
 rintro n s3 ⟨i,σ3,H3,I3,st3,fr3,w3⟩
 rcases turn i n σ3 H3 w3 with ⟨stop,qn⟩ | ⟨go,N,hN,step⟩
 · refine wpAny_passesOwn hp (thn (T.done X rfl rfl rfl hc i pins s3 σ3 H3 X.xe I3 (stat fr3) st3 stop) fun r s4 ⟨hr,I4⟩=>?_)
   subst hr
   exact wpAny_execs_nil ⟨σ3,H3,I4,qn⟩
 · refine wpAny_passesOwn hp (thn (T.item X rfl rfl rfl hc i pins s3 σ3 H3 X.xe I3 (stat fr3) st3 go) fun r s4 ⟨u,hr,h4⟩=>?_)
   subst hr
   refine wpAny_passesOwn hp (thn h4 fun _ s5 hq_=>?_)
   obtain ⟨x,H5,I5,r5,y5,st5,fr5⟩:=hq_
   have I5':=I5.pinned (stat fr5) (T.obj _ _ st5)
   refine wpAny_passesOwn hp (thn (hg _ s5 σ3 H5 x u _ I5' r5 (step x H5 y5)) fun _ s6 hq_=>?_)
   obtain ⟨σ6,H6,I6,q6⟩:=hq_
   refine wpAny_passesOwn hp (thn (hb _ s6 σ6 H6 _ I6 q6) fun f s7 q7=>?_)
   have again:∀{σ7:St} {H7:Hp},Inv X (pins++pinsAt fp s5.heap) σ7 H7 s7→N σ7 H7→∃m,m < n∧∃i σ' H',Inv X pins σ' H' s7∧tn i s7.heap∧(∀b∈fp,H' b=none)∧W i m σ' H':=fun {σ7 H7} I7 n7=>by
    obtain ⟨m',hm,w7⟩:=hN σ7 H7 n7
    refine ⟨m',hm,i+1,σ7,H7,I7.unpinned,T.keep _ _ _ st5 fun b hb o e=>(I7.pin (b,o) (List.mem_append_right _ (List.mem_append_right _ (mem_pinsAt hb e)))).1,fun b hb=>?_,w7⟩
    obtain ⟨o,e,d⟩:=T.obj _ _ st5 b hb
    exact (I7.pin (b,o) (List.mem_append_right _ (List.mem_append_right _ (mem_pinsAt hb e)))).2.1
   cases f with
   | next=>obtain ⟨σ7,H7,I7,n7⟩:=q7;exact again I7 n7
   | cont=>obtain ⟨σ7,H7,I7,n7⟩:=q7;exact again I7 n7
   | brk=>obtain ⟨σ7,H7,I7,q7⟩:=q7;exact ⟨σ7,H7,I7.unpinned,q7⟩
   | ret v=>obtain ⟨x7,σ7,H7,I7,r7,q7⟩:=q7;exact ⟨x7,σ7,H7,I7.unpinned,r7,q7⟩
end
theorem for_list{K:PySem.W.Frag}{a:Addr}{xs:List V}{g:TG}{tb:TS}{D:Ends}{σ:St}{H:Hp}(Pv:Nat→St→Hp→Prop)(h0:Pv 0 σ H)(hl:∀i σ H,i≤xs.length→Pv i σ H→SqL K H a xs)
 (hs:∀i x σ H,xs[i]?=some x→Pv i σ H→g x σ H fun σ2 H2=>tb {D with nx:=Pv (i+1),ct:=Pv (i+1),bk:=D.nx} σ2 H2) (hd:∀σ H,Pv xs.length σ H→D.nx σ H):
 ∃W:Nat→Nat→St→Hp→Prop,(∃m,W 0 m σ H)∧∀i m σ H,W i m σ H→
  ((Itl K a).stop i H∧D.nx σ H)∨((Itl K a).go i H∧∃N:St→Hp→Prop,(∀σ' H',N σ' H'→∃m',m' < m∧W (i+1) m' σ' H')∧∀x H',(Itl K a).yld i H x H'→g x σ H' fun σ2 H2=>tb {D with nx:=N,ct:=N,bk:=D.nx} σ2 H2):=by
 refine ⟨fun i m σ H=>m=xs.length - i∧i≤xs.length∧Pv i σ H,⟨xs.length,by simp,Nat.zero_le _,h0⟩,?_⟩
 rintro i m σ H ⟨rfl,hi,p⟩
 have q:=hl i σ H hi p
 by_cases hlt:i < xs.length
 · refine .inr ⟨⟨xs,xs[i],q,by simp [hlt]⟩,Pv (i+1),fun σ' H' p'=>⟨xs.length - (i+1),by omega,rfl,hlt,p'⟩,fun x H' y=>?_⟩
   obtain ⟨e,y⟩:=y
   subst e
   exact hs i x σ _ (y xs q) p
 · have e:i=xs.length:=by omega
   subst e
   exact .inl ⟨⟨xs,q,Nat.le_refl _⟩,hd σ H p⟩
theorem for_range{lo:Int}{n:Nat}{g:TG}{tb:TS}{D:Ends}{σ:St}{H:Hp}(Pv:Nat→St→Hp→Prop)(h0:Pv 0 σ H)
 (hs:∀i σ H,i < n→Pv i σ H→g (.int (lo+i)) σ H fun σ2 H2=>tb {D with nx:=Pv (i+1),ct:=Pv (i+1),bk:=D.nx} σ2 H2) (hd:∀σ H,Pv n σ H→D.nx σ H):
 ∃W:Nat→Nat→St→Hp→Prop,(∃m,W 0 m σ H)∧∀i m σ H,W i m σ H→
  ((Itr lo n).stop i H∧D.nx σ H)∨((Itr lo n).go i H∧∃N:St→Hp→Prop,(∀σ' H',N σ' H'→∃m',m' < m∧W (i+1) m' σ' H')∧∀x H',(Itr lo n).yld i H x H'→g x σ H' fun σ2 H2=>tb {D with nx:=N,ct:=N,bk:=D.nx} σ2 H2):=by
 refine ⟨fun i m σ H=>m=n - i∧i≤n∧Pv i σ H,⟨n,by simp,Nat.zero_le _,h0⟩,?_⟩
 rintro i m σ H ⟨rfl,hi,p⟩
 by_cases hlt:i < n
 · refine .inr ⟨hlt,Pv (i+1),fun σ' H' p'=>⟨n - (i+1),by omega,rfl,hlt,p'⟩,fun x H' y=>?_⟩
   obtain ⟨e,y⟩:=y
   subst e y
   exact hs i σ _ hlt p
 · have e:i=n:=by omega
   subst e
   exact .inl ⟨Nat.le_refl _,hd σ H p⟩
end L2
namespace L2
noncomputable abbrev R2:=V→V→Hp→VK→Prop
noncomputable def OpR(X:Cx)(f:Value→Value→Sem Value)(r:R2):Prop:=
 ∀(pins:List (Addr×Obj)) (s:Shared) (σ:St) (H:Hp) (x y:V) (v u:Value) (Q:VK),Inv X pins σ H s→RelV x v→RelV y u→r x y H Q→
   wpAny (model X.prog X.w) X.A (f v u) (EP X pins σ Q) X.xe s
noncomputable def CallR(X:Cx)(f:Value)(r:List V→Hp→VK→Prop):Prop:=
 ∀(pins:List (Addr×Obj)) (s:Shared) (σ:St) (H:Hp) (xs:List V) (us:List Value) (Q:VK),Inv X pins σ H s→Vals xs us→r xs H Q→
   wpAny (model X.prog X.w) X.A (call f us) (EP X pins σ Q) X.xe s
noncomputable def tOp(r:R2)(ta tb:TE):TE:=fun σ H Q=>ta σ H fun x H1=>tb σ H1 fun y H2=>r x y H2 Q
noncomputable def rI(C:Int→Int→Prop)(g:Int→Int→V):R2:=fun x y H Q=>∃i j,x= .int i∧y= .int j∧C i j∧Q (g i j) H
noncomputable def rI0(g:Int→Int→V):R2:=fun x y H Q=>∃i j,x= .int i∧y= .int j∧Q (g i j) H
section
variable {X:Cx} {a b c:Expr} {ta tb tc:TE} {pos:Pos}
theorem binT(ha:PE X a ta)(hb:PE X b tb){pins:List (Addr×Obj)}{s:Shared}{σ:St}{H:Hp}{R:V→V→Hp→Prop}(I:Inv X pins σ H s)
 (h:ta σ H fun x H1=>tb σ H1 fun y H2=>R x y H2) {Q:Value→Shared→Prop} {f:Value→Value→Sem Value}
 (hf:∀v u s2 x y H2,Inv X pins σ H2 s2→RelV x v→RelV y u→R x y H2→wpAny (model X.prog X.w) X.A (f v u) Q X.xe s2):
 wpAny (model X.prog X.w) X.A (eval a X.env) (fun v s₁=>wpAny (model X.prog X.w) X.A (eval b X.env) (fun u s₂=>wpAny (model X.prog X.w) X.A (f v u) Q X.xe s₂) X.xe s₁) X.xe s:=by
 refine thn (ha pins s σ H _ I h) fun v s1 hq_=>?_
 obtain ⟨x,H1,I1,r1,q1⟩:=hq_
 refine thn (hb pins s1 σ H1 _ I1 q1) fun u s2 hq_=>?_
 obtain ⟨y,H2,I2,r2,q2⟩:=hq_
 exact hf v u s2 x y H2 I2 r1 r2 q2
theorem pe_op{op:Operator}{r:R2}(ho:OpR X (binaryOp op) r)(ha:PE X a ta)(hb:PE X b tb):PE X (.BinOp a op b pos) (tOp r ta tb):=by
 intro pins s σ H Q I h
 exact wpAny_BinOp (binT ha hb I h fun v u s2 x y H2 I2 rx ry q=>ho pins s2 σ H2 x y v u Q I2 rx ry q)
theorem opI{f:Value→Value→Sem Value}{C:Int→Int→Prop}{g:Int→Int→Int}
 (rule:∀(i j:Int) (t u:Tok) (s:Shared) (Q:Value→Shared→Prop) (E:Value→Shared→Prop),C i j→Q (.int (g i j) s.toks) {s with toks:=s.toks+1}→wpAny (model X.prog X.w) X.A (f (.int i t) (.int j u)) Q E s):
 OpR X f (rI C fun i j=> .int (g i j)):=by
 intro pins s σ H x y v u Q I rx ry h
 obtain ⟨i,j,rfl,rfl,hc,q⟩:=h
 obtain ⟨t,rfl⟩:=rx
 obtain ⟨t',rfl⟩:=ry
 exact rule i j t t' s _ _ hc ⟨.int (g i j),H,I.tok _,⟨_,rfl⟩,q⟩
theorem opI0{f:Value→Value→Sem Value}{g:Int→Int→Int}
 (rule:∀(i j:Int) (t u:Tok) (s:Shared) (Q:Value→Shared→Prop) (E:Value→Shared→Prop),Q (.int (g i j) s.toks) {s with toks:=s.toks+1}→wpAny (model X.prog X.w) X.A (f (.int i t) (.int j u)) Q E s):
 OpR X f (rI0 fun i j=> .int (g i j)):=by
 intro pins s σ H x y v u Q I rx ry h
 obtain ⟨i,j,rfl,rfl,q⟩:=h
 obtain ⟨t,rfl⟩:=rx
 obtain ⟨t',rfl⟩:=ry
 exact rule i j t t' s _ _ ⟨.int (g i j),H,I.tok _,⟨_,rfl⟩,q⟩
theorem opB0{f:Value→Value→Sem Value}{g:Int→Int→Bool}
 (rule:∀(i j:Int) (t u:Tok) (s:Shared) (Q:Value→Shared→Prop) (E:Value→Shared→Prop),Q (.bool (g i j)) s→wpAny (model X.prog X.w) X.A (f (.int i t) (.int j u)) Q E s):
 OpR X f (rI0 fun i j=> .bl (g i j)):=by
 intro pins s σ H x y v u Q I rx ry h
 obtain ⟨i,j,rfl,rfl,q⟩:=h
 obtain ⟨t,rfl⟩:=rx
 obtain ⟨t',rfl⟩:=ry
 exact rule i j t t' s _ _ ⟨.bl (g i j),H,I,rfl,q⟩
noncomputable def CDiv(i j:Int):Prop:=0 < j∧j < 1073741824
noncomputable def CPow(i j:Int):Prop:=0≤j∧j≤1000000∧i.natAbs < 2 ^ 64
noncomputable def CMul(i j:Int):Prop:=(-(2 ^ 64) < i∧i < 2 ^ 64)∨(-(2 ^ 64) < j∧j < 2 ^ 64)
theorem CMul.ok{i j:Int}(h:CMul i j):IntMulOk i j:=by
 rcases h with ⟨h1,h2⟩ | ⟨h1,h2⟩
 · exact .of_left (intBits_le_64 h1 h2)
 · exact .of_right (intBits_le_64 h1 h2)
theorem op_add:OpR X (binaryOp .Add) (rI0 fun i j=> .int (i+j)):=opI0 fun _ _ _ _ _ _ _ q=>add_int q
theorem op_sub:OpR X (binaryOp .Sub) (rI0 fun i j=> .int (i - j)):=opI0 fun _ _ _ _ _ _ _ q=>sub_int q
theorem op_mul:OpR X (binaryOp .Mult) (rI CMul fun i j=> .int (i * j)):=opI fun _ _ _ _ _ _ _ hc q=>mul_int q hc.ok
theorem op_fdiv:OpR X (binaryOp .FloorDiv) (rI CDiv fun i j=> .int (i / j)):=opI fun i j _ _ _ _ _ hc q=>by
 have h1:(0:Int) < j:=hc.1
 have h2:j < 1073741824:=hc.2
 exact floordiv_int (by omega) (by rw [Int.fdiv_eq_ediv_of_nonneg i (by omega)];exact q) (.inl (PyProof.noPylong_small (by omega)))
theorem op_mod:OpR X (binaryOp .Mod) (rI (fun _ j=>0 < j) fun i j=> .int (i % j)):=opI fun i j _ _ _ _ _ hc q=>by
 have h1:(0:Int) < j:=hc
 exact mod_int' (by omega) (by rw [Int.fmod_eq_emod_of_nonneg i (by omega)];exact q)
theorem op_pow:OpR X (binaryOp .Pow) (rI CPow fun i j=> .int (i ^ j.toNat)):=opI fun _ _ _ _ _ _ _ hc q=>pow_int_small hc.1 hc.2.1 hc.2.2 q
end
noncomputable def scal:V→V→Bool
 | .non,.non=>true | .non,.int _=>true | .int _,.non=>true | .non,.bl _=>true | .bl _,.non=>true | .non,.str _=>true | .str _,.non=>true
 | .int _,.int _=>true | .bl _,.bl _=>true | .str _,.str _=>true | .byt _,.byt _=>true
 | .int _,.str _=>true | .str _,.int _=>true | .bl _,.str _=>true | .str _,.bl _=>true
 | _,_=>false
noncomputable def rEq:R2:=fun x y H Q=>scal x y=true∧Q (.bl (decide (x=y))) H
noncomputable def rNe:R2:=fun x y H Q=>scal x y=true∧Q (.bl (!decide (x=y))) H
theorem dec_int{i j:Int}:decide (V.int i=V.int j)=(i==j):=by
 rw [Bool.eq_iff_iff]
 simp
theorem dec_bl{i j:Bool}:decide (V.bl i=V.bl j)=(i==j):=by
 rw [Bool.eq_iff_iff]
 simp
theorem dec_str{i j:Str}:decide (V.str i=V.str j)=(i==j):=by
 rw [Bool.eq_iff_iff]
 simp
theorem dec_byt{i j:Array UInt8}:decide (V.byt i=V.byt j)=(i.toList==j.toList):=by
 rw [Bool.eq_iff_iff]
 cases i
 cases j
 simp
section
variable {X:Cx} {a b c:Expr} {ta tb tc:TE} {pos:Pos}
theorem fin_bl{pins:List (Addr×Obj)}{σ:St}{H:Hp}{s:Shared}{Q:VK}{k k':Bool}(I:Inv X pins σ H s)(q:Q (.bl k) H)(e:k=k'):EP X pins σ Q (.bool k') s:=by
 subst e
 exact ⟨.bl k,H,I,rfl,q⟩
theorem op_eq:OpR X (compareOp .Eq) rEq:=by
 intro pins s σ H x y v u Q I rx ry h
 obtain ⟨hs,q⟩:=h
 cases x with
 | non=>
  cases rx
  cases y with
  | non=>cases ry;exact PySem.EqNone.eq_none_none (fin_bl I q (by simp))
  | bl j=>cases ry;exact PySem.EqNone.eq_none_bool (fin_bl I q (by simp))
  | int j=>obtain ⟨t',rfl⟩:=ry;exact PySem.EqNone.eq_none_int (fin_bl I q (by simp))
  | str j=>obtain ⟨t',rfl⟩:=ry;exact PySem.EqNone.eq_none_str (fin_bl I q (by simp))
  | _=>exact absurd (show false=true from hs) Bool.false_ne_true
 | bl i=>
  cases rx
  cases y with
  | non=>cases ry;exact PySem.EqNone.eq_bool_none (fin_bl I q (by simp))
  | bl j=>cases ry;exact eq_bool (fin_bl I q dec_bl)
  | str j=>obtain ⟨t',rfl⟩:=ry;exact PySem.EqMixed.eq_bool_str (fin_bl I q (by simp))
  | _=>exact absurd (show false=true from hs) Bool.false_ne_true
 | int i=>
  obtain ⟨t,rfl⟩:=rx
  cases y with
  | non=>cases ry;exact PySem.EqNone.eq_int_none (fin_bl I q (by simp))
  | int j=>obtain ⟨t',rfl⟩:=ry;exact eq_int (fin_bl I q dec_int)
  | str j=>obtain ⟨t',rfl⟩:=ry;exact PySem.EqMixed.eq_int_str (fin_bl I q (by simp))
  | _=>exact absurd (show false=true from hs) Bool.false_ne_true
 | str i=>
  obtain ⟨t,rfl⟩:=rx
  cases y with
  | non=>cases ry;exact PySem.EqNone.eq_str_none (fin_bl I q (by simp))
  | bl j=>cases ry;exact PySem.EqMixed.eq_str_bool (fin_bl I q (by simp))
  | int j=>obtain ⟨t',rfl⟩:=ry;exact PySem.EqMixed.eq_str_int (fin_bl I q (by simp))
  | str j=>obtain ⟨t',rfl⟩:=ry;exact eq_str (fin_bl I q dec_str)
  | _=>exact absurd (show false=true from hs) Bool.false_ne_true
 | byt i=>
  obtain ⟨t,rfl⟩:=rx
  cases y with
  | byt j=>obtain ⟨t',rfl⟩:=ry;exact PySem.W.eq_bytes (fin_bl I q dec_byt)
  | _=>exact absurd (show false=true from hs) Bool.false_ne_true
 | _=>cases y <;> exact absurd (show false=true from hs) Bool.false_ne_true
theorem op_ne:OpR X (compareOp .NotEq) rNe:=by
 intro pins s σ H x y v u Q I rx ry h
 obtain ⟨hs,q⟩:=h
 cases x with
 | non=>
  cases rx
  cases y with
  | non=>cases ry;exact PySem.EqNone.ne_none_none (fin_bl I q (by simp))
  | bl j=>cases ry;exact PySem.EqNone.ne_none_bool (fin_bl I q (by simp))
  | int j=>obtain ⟨t',rfl⟩:=ry;exact PySem.EqNone.ne_none_int (fin_bl I q (by simp))
  | str j=>obtain ⟨t',rfl⟩:=ry;exact PySem.EqNone.ne_none_str (fin_bl I q (by simp))
  | _=>exact absurd (show false=true from hs) Bool.false_ne_true
 | bl i=>
  cases rx
  cases y with
  | non=>cases ry;exact PySem.EqNone.ne_bool_none (fin_bl I q (by simp))
  | bl j=>cases ry;exact ne_bool (fin_bl I q (congrArg not dec_bl))
  | str j=>obtain ⟨t',rfl⟩:=ry;exact PySem.EqMixed.ne_bool_str (fin_bl I q (by simp))
  | _=>exact absurd (show false=true from hs) Bool.false_ne_true
 | int i=>
  obtain ⟨t,rfl⟩:=rx
  cases y with
  | non=>cases ry;exact PySem.EqNone.ne_int_none (fin_bl I q (by simp))
  | int j=>obtain ⟨t',rfl⟩:=ry;exact ne_int (fin_bl I q (congrArg not dec_int))
  | str j=>obtain ⟨t',rfl⟩:=ry;exact PySem.EqMixed.ne_int_str (fin_bl I q (by simp))
  | _=>exact absurd (show false=true from hs) Bool.false_ne_true
 | str i=>
  obtain ⟨t,rfl⟩:=rx
  cases y with
  | non=>cases ry;exact PySem.EqNone.ne_str_none (fin_bl I q (by simp))
  | bl j=>cases ry;exact PySem.EqMixed.ne_str_bool (fin_bl I q (by simp))
  | int j=>obtain ⟨t',rfl⟩:=ry;exact PySem.EqMixed.ne_str_int (fin_bl I q (by simp))
  | str j=>obtain ⟨t',rfl⟩:=ry;exact ne_str (fin_bl I q (congrArg not dec_str))
  | _=>exact absurd (show false=true from hs) Bool.false_ne_true
 | byt i=>
  obtain ⟨t,rfl⟩:=rx
  cases y with
  | byt j=>obtain ⟨t',rfl⟩:=ry;exact PySem.W.ne_bytes (fin_bl I q (congrArg not dec_byt))
  | _=>exact absurd (show false=true from hs) Bool.false_ne_true
 | _=>cases y <;> exact absurd (show false=true from hs) Bool.false_ne_true
theorem op_lt:OpR X (compareOp .Lt) (rI0 fun i j=> .bl (decide (i < j))):=opB0 fun _ _ _ _ _ _ _ q=>lt_int q
theorem op_le:OpR X (compareOp .LtE) (rI0 fun i j=> .bl (decide (i≤j))):=opB0 fun _ _ _ _ _ _ _ q=>le_int q
theorem op_gt:OpR X (compareOp .Gt) (rI0 fun i j=> .bl (decide (j < i))):=opB0 fun _ _ _ _ _ _ _ q=>gt_int q
theorem op_in_str:OpR X (compareOp .In) (fun x y H Q=>∃i j,x= .str i∧y= .str j∧Q (.bl (!(Builtin.Str.occurrences j i 0 j.length 1).isEmpty)) H):=by
 intro pins s σ H x y v u Q I rx ry h
 obtain ⟨i,j,rfl,rfl,q⟩:=h
 obtain ⟨t,rfl⟩:=rx
 obtain ⟨t',rfl⟩:=ry
 exact in_str (fin_bl I q rfl)
theorem op_isN:OpR X (compareOp .Is) (fun x y H Q=>y= .non∧Q (.bl (decide (x= .non))) H):=by
 intro pins s σ H x y v u Q I rx ry h
 obtain ⟨rfl,q⟩:=h
 cases ry
 refine is_none_gen (fin_bl I q ?_)
 cases x <;> first
  | (cases rx;rfl)
  | (obtain ⟨t,rfl⟩:=rx;rfl)
theorem op_notN:OpR X (compareOp .IsNot) (fun x y H Q=>y= .non∧Q (.bl (!decide (x= .non))) H):=by
 intro pins s σ H x y v u Q I rx ry h
 obtain ⟨rfl,q⟩:=h
 cases ry
 refine isnot_none_gen (fin_bl I q ?_)
 cases x <;> first
  | (cases rx;rfl)
  | (obtain ⟨t,rfl⟩:=rx;rfl)
theorem nomark(b:Expr){op:CmpOp}(h:op≠ .In:=by decide)(h2:op≠ .NotIn:=by decide):behindInMarks op b=false:=by
 have e1:(op==CmpOp.In)=false:=by cases op <;> first | rfl | exact absurd rfl h
 have e2:(op==CmpOp.NotIn)=false:=by cases op <;> first | rfl | exact absurd rfl h2
 cases b <;> simp [behindInMarks,e1,e2]
theorem pe_cmpR{op:CmpOp}{r:R2}(ho:OpR X (compareOp op) r)(ha:PE X a ta)(hb:PE X b tb)(hm:behindInMarks op b=false):PE X (.Compare a [op] [b] pos) (tOp r ta tb):=by
 intro pins s σ H Q I h
 exact wpAny_Compare1 (binT ha hb I h fun v u s2 x y H2 I2 rx ry q=>ho pins s2 σ H2 x y v u Q I2 rx ry q) hm
noncomputable def tTest(t:TE):TT:=fun σ H Q=>t σ H fun x H'=>∃k,x= .bl k∧Q k H'
theorem pt_cmpR{op:CmpOp}{r:R2}(ho:OpR X (compareOp op) r)(ha:PE X a ta)(hb:PE X b tb)(hm:behindInMarks op b=false):PT X (.Compare a [op] [b] pos) (tTest (tOp r ta tb)):=by
 intro pins s σ H Q I h
 refine wpAny_isTrue_Compare1 (thn (ha pins s σ H _ I h) fun v s1 ⟨x,H1,I1,r1,q1⟩=>thn (hb pins s1 σ H1 _ I1 q1) fun u s2 ⟨y,H2,I2,r2,q2⟩=>
  thn (ho pins s2 σ H2 x y v u _ I2 r1 r2 q2) fun c s3 ⟨z,H3,I3,r3,k,e,q3⟩=>?_) hm
 subst e
 cases r3
 exact wpAny_truthy_bool ⟨H3,I3,q3⟩
noncomputable def tChain(r r':R2)(ta tb tc:TE):TE:=fun σ H Q=>ta σ H fun x H1=>tb σ H1 fun y H2=>r x y H2 fun z H3=>∃k,z= .bl k∧
 (if k=true then tc σ H3 fun w' H4=>r' y w' H4 Q else Q (.bl false) H3)
theorem pe_chain{op op':CmpOp}{r r':R2}(ho:OpR X (compareOp op) r)(ho':OpR X (compareOp op') r')(ha:PE X a ta)(hb:PE X b tb)(hc:PE X c tc)
 (hm:lastMarks [op,op'] [b,c]=false:=by with_unfolding_all rfl):PE X (.Compare a [op,op'] [b,c] pos) (tChain r r' ta tb tc):=by
 intro pins s σ H Q I h
 refine Compare_chain (thn (ha pins s σ H _ I h) fun v s1 ⟨x,H1,I1,r1,q1⟩=>chain_link (thn (hb pins s1 σ H1 _ I1 q1) fun u s2 ⟨y,H2,I2,r2,q2⟩=>
  thn (ho pins s2 σ H2 x y v u _ I2 r1 r2 q2) fun d s3 ⟨z,H3,I3,r3,k,e,q3⟩=>?_)) hm
 subst e
 cases r3
 refine wpAny_truthy_bool ?_
 cases k with
 | false=>exact ite_ff ⟨.bl false,H3,I3,rfl,q3⟩
 | true=>exact ite_tt (chain_last (thn (hc pins s3 σ H3 _ I3 q3) fun w' s4 ⟨z',H4,I4,r4,q4⟩=>ho' pins s4 σ H4 y z' u w' Q I4 r2 r4 q4))
theorem line63:(sizeLine:Nat) < 2 ^ 63:=by rw [sizeLine_eq];decide
theorem op_add_str:OpR X (binaryOp .Add) (fun x y H Q=>∃i j,x= .str i∧y= .str j∧i.length+j.length≤sizeLine∧Q (.str (i++j)) H):=by
 intro pins s σ H x y v u Q I rx ry h
 obtain ⟨i,j,rfl,rfl,hz,q⟩:=h
 obtain ⟨t,rfl⟩:=rx
 obtain ⟨t',rfl⟩:=ry
 exact add_str (fun t' tk=>⟨.str (i++j),H,I.tok _,⟨_,rfl⟩,q⟩) hz
theorem vals1{x:V}{us:List Value}(r:Vals [x] us):∃u,us=[u]∧RelV x u:=by
 cases r with
 | cons r1 r2=>cases r2;exact ⟨_,rfl,r1⟩
theorem vals2{x y:V}{us:List Value}(r:Vals [x,y] us):∃u w',us=[u,w']∧RelV x u∧RelV y w':=by
 cases r with
 | cons r1 r2=>
  cases r2 with
  | cons r3 r4=>cases r4;exact ⟨_,_,rfl,r1,r3⟩
end
end L2
namespace L2
structure ObjM(h:Heap)(x dx C:Addr)(mA:Str→Option Value):Prop where
 obj:h.get? x=some (PySem.W.instObj C dx)
 ns:h.Ns1 dx mA
 ne:dx≠x
theorem lookIn_ns{h:Heap}{dx:Addr}{mA:Str→Option Value}(n:h.Ns1 dx mA):∃od,h.get? dx=some od∧∀name,PySem.W.lookIn name od=some (mA name):=by
 obtain ⟨o,es,ep,ho,hd,hk,_,hm⟩:=n
 refine ⟨o,ho,fun name=>?_⟩
 have e:=hm name
 unfold nsFind findBy at e
 rw [← Array.find?_toList]at e
 unfold PySem.W.lookIn
 rw [hd]
 dsimp only
 split
 · rename_i y q
   rw [q]at e
   exact congrArg some e
 · rename_i q
   rw [q]at e
   have a:es.toList.any (·.refKey)=false:=by
    rw [List.any_eq_false]
    intro y hy
    obtain ⟨z,t,hkey⟩:=hk y (Array.mem_toList_iff.mp hy)
    simp [DictEntry.refKey,hkey]
   have a':¬es.toList.any (·.refKey)=true:=by rw [a];exact Bool.false_ne_true
   rw [if_neg a']
   exact congrArg some e
theorem ObjM.look{h:Heap}{x dx C:Addr}{mA:Str→Option Value}(I:ObjM h x dx C mA):∃od,PySem.W.InstAt h x (PySem.W.instObj C dx) C (some od)∧∀name,PySem.W.lookIn name od=some (mA name):=
 let ⟨od,ho,hl⟩:=lookIn_ns I.ns
 ⟨od,⟨I.obj,rfl,rfl,ho⟩,hl⟩
section
variable {prog:Program} {w:World} {A:Around} {E:Value→Shared→Prop} {s:Shared} {K:PySem.W.Frag} {x dx C f:Addr} {mA:Str→Option Value} {name:Str} {v:Value}
theorem get_map{expr:Bool}{Q:Value→Shared→Prop}(X:K.In s.heap)(I:ObjM s.heap x dx C mA)(hg:PySem.W.plainGet K C name=true)(hh:PySem.W.hasDictIn K C=true)
 (ha:PySem.W.findIn K (.ref C) name=some none) (hv:mA name=some v) (hv':PySem.W.handedIn v=true) (h:Q v {s with toks:=s.toks+1}):
 wpAny (model prog w) A (getAttr (.ref x) name expr) Q E s:=by
 obtain ⟨od,J,hl⟩:=I.look
 exact PySem.W.get_value X J (PySem.W.plainGet_of hg).1 (PySem.W.findObj_own hh ha rfl (by rw [hl,hv])) hv' h
theorem get_meth{pl:Sem Bool}{Q:Value×List Value→Shared→Prop}(X:K.In s.heap)(I:ObjM s.heap x dx C mA)(hg:PySem.W.plainGet K C name=true)
 (hf:PySem.W.findIn K (.ref C) name=some (some (.ref f))) (ht:PySem.W.isFn K (.ref f)=true) (hv:mA name=none) (h:Q (.ref f,[.ref x]) s):
 wpAny (model prog w) A (getMethod (.ref x) name pl) Q E s:=by
 obtain ⟨od,J,hl⟩:=I.look
 exact PySem.W.method_fn X J (PySem.W.plainGet_of hg).1 (PySem.W.plainGet_of hg).2 hf (beq_iff_eq.mp ht) (by show (PySem.W.lookIn name od).map (·.isSome)=some false;rw [hl,hv];rfl) h
theorem set_map{ns:List Str}{Q:Unit→Shared→Prop}(X:K.In s.heap)(I:ObjM s.heap x dx C mA)
 (hs:PySem.W.findIn K (.ref C) "__setattr__"=some (some (.builtin "object.__setattr__"))) (hp:PySem.W.plainOver K C=true) (ht:PySem.W.takerIn K C name=some none) (hh:PySem.W.hasDictIn K C=true)
 (hw:PySem.Within mA ns) (hsz:ns.length≤sizeLine)
 (h:∀h',ObjM h' x dx C (fun y=>if y=name then some v else mA y)→Heap.SameBut dx s.heap h'→Q () {s with heap:=h',toks:=s.toks+2}):
 wpAny (model prog w) A (setAttr (.ref x) name v) Q E s:=by
 obtain ⟨od,J,hl⟩:=I.look
 refine PySem.W.set_plain X J hs (PySem.W.osa_open (s:={s with toks:=s.toks+1}) (r:=none) X J hp ht fun b=>?_)
 obtain ⟨cd,hc,hd'⟩:=PySem.W.any_some hh
 have hx:s.heap.get? x=some ⟨.ref C,some dx,.plain,#[]⟩:=I.obj
 refine wpAny_bind (wpAny_pure (wpAny_bind (wpAny_bind (wpAny_loadPart hx (wpAny_bind (PySem.W.Looks.here (s:={s with toks:=s.toks+1}) (PySem.W.looks_clsIn X hc) ?_))))))
 rw [hd']
 refine wpAny_pure (a:=some dx) (wpAny_bind (wpAny_pure (wpAny_bind ?_)))
 refine wpAny_nsSet1 (s:={s with toks:=s.toks+1}) I.ns fun h' hn2 hs2=>?_
 obtain ⟨oD,esD,epD,hoD,hdD,hcD⟩:=hn2.count (PySem.Within.cons name v hw)
 refine wpAny_bind (wpAny_lookBehind hoD (by rw [hdD];exact pastItsLine_dict (Nat.le_trans hcD (by rw [List.length_cons];omega))) ?_)
 exact wpAny_pure (h _ ⟨(hs2.2 _ (Ne.symm I.ne)).trans I.obj,hn2,I.ne⟩ hs2)
theorem make_map{R:Result→Shared→Prop}{vs:List Value}{kw:List (Str×Value)}(X:K.In s.heap)(hm:PySem.W.makesIn K C=true)
 (hi:PySem.W.findIn K (.ref C) "__init__"=some (some (.ref f))) (hf:PySem.W.typeIn K (.ref f)=some (.type "function"))
 (h:codeAny (model prog w) (A.under (.builtin "type.__call__" ⟨.ref C::vs,kw⟩)) (.call (.ref f) ⟨.ref (s.heap.objs.size+1)::vs,kw⟩) (PySem.W.InitBack (s.heap.objs.size+1) R)
  {s with heap:=(s.heap.push PySem.W.emptyDict).push (PySem.W.instObj C s.heap.objs.size)}):
 codeAny (model prog w) A (.call (.ref C) ⟨vs,kw⟩) R s:=by
 obtain ⟨hh,g,d,t,os⟩:=s
 exact PySem.W.make_core (PySem.W.makes_of X hm) (PySem.W.looks_findIn X hi) (fun self=>PySem.W.bind_fn X self hf) (.inl rfl) h
end
noncomputable def putF(f:Str)(v:V):List (Str×V)→List (Str×V)
 | []=>[(f,v)]
 | (g,x)::r=>if g=f then (g,v)::r else (g,x)::putF f v r
theorem lookup_putF(f g:Str)(v:V):∀fs:List (Str×V),(putF f v fs).lookup g=if g=f then some v else fs.lookup g
 | []=>by
  show List.lookup g [(f,v)]=_
  by_cases h:g=f
  · have hb:(g==f)=true:=beq_iff_eq.mpr h
    simp only [List.lookup,hb,if_pos h]
  · have hb:(g==f)=false:=beq_eq_false_iff_ne.mpr h
    simp only [List.lookup,hb,if_neg h]
 | (k,x)::r=>by
  have ih:=lookup_putF f g v r
  rw [show putF f v ((k,x)::r)=(if k=f then (k,v)::r else (k,x)::putF f v r) from rfl]
  by_cases hk:k=f
  · rw [if_pos hk]
    by_cases h:g=k
    · have hb:(g==k)=true:=beq_iff_eq.mpr h
      simp only [List.lookup,hb,if_pos (h.trans hk)]
    · have hb:(g==k)=false:=beq_eq_false_iff_ne.mpr h
      simp only [List.lookup,hb,if_neg (fun e:g=f=>h (e.trans hk.symm))]
  · rw [if_neg hk]
    by_cases h:g=k
    · have hb:(g==k)=true:=beq_iff_eq.mpr h
      simp only [List.lookup,hb,if_neg (fun e:g=f=>hk (h.symm.trans e))]
    · have hb:(g==k)=false:=beq_eq_false_iff_ne.mpr h
      simp only [List.lookup,hb]
      exact ih
theorem keys_putF(f:Str)(v:V):∀fs:List (Str×V),f∈(putF f v fs).map (·.1)∧∀g,g∈fs.map (·.1)→g∈(putF f v fs).map (·.1)
 | []=>⟨by simp [putF],fun g h=>by simp at h⟩
 | (k,x)::r=>by
  obtain ⟨i1,i2⟩:=keys_putF f v r
  rw [show putF f v ((k,x)::r)=(if k=f then (k,v)::r else (k,x)::putF f v r) from rfl]
  by_cases hk:k=f
  · rw [if_pos hk]
    subst hk
    exact ⟨by simp,fun g h=>by simpa using h⟩
  · rw [if_neg hk]
    refine ⟨?_,fun g h=>?_⟩
    · rw [List.map_cons]
      exact List.mem_cons_of_mem _ i1
    · rw [List.map_cons]at h ⊢
      rcases List.mem_cons.mp h with e | e
      · exact List.mem_cons.mpr (.inl e)
      · exact List.mem_cons_of_mem _ (i2 g e)
theorem length_putF(f:Str)(v:V):∀fs:List (Str×V),(putF f v fs).length≤fs.length+1
 | []=>by simp [putF]
 | (k,x)::r=>by
  have ih:=length_putF f v r
  rw [show putF f v ((k,x)::r)=(if k=f then (k,v)::r else (k,x)::putF f v r) from rfl]
  by_cases hk:k=f
  · rw [if_pos hk,List.length_cons,List.length_cons];omega
  · rw [if_neg hk,List.length_cons,List.length_cons];omega
theorem RelO.some_of{v:V}{o:Option Value}(r:RelO (some v) o):∃u,o=some u∧RelV v u:=by
 cases o with
 | none=>exact (show False from r).elim
 | some u=>exact ⟨u,rfl,r⟩
theorem RelO.none_of{o:Option Value}(r:RelO none o):o=none:=by
 cases o with
 | none=>rfl
 | some u=>exact (show False from r).elim
theorem handed_of{v:V}{u:Value}(r:RelV v u):PySem.W.handedIn u=true:=by
 cases v with
 | non=>cases (show u=Value.none from r);rfl
 | bl b=>cases (show u=Value.bool b from r);rfl
 | int i=>obtain ⟨t,e⟩:=(show ∃t,u=Value.int i t from r);cases e;rfl
 | str x=>obtain ⟨t,e⟩:=(show ∃t,u=Value.str x t from r);cases e;rfl
 | byt b=>obtain ⟨t,e⟩:=(show ∃t,u=Value.bytes b t from r);cases e;rfl
 | flt b=>obtain ⟨t,e⟩:=(show ∃t,u=Value.float b t from r);cases e;rfl
 | ref a=>cases (show u=Value.ref a from r);rfl
 | ty n=>cases (show u=Value.type n from r);rfl
section
variable {P:Program} {w:World} {H H':Hp} {h h':Heap} {a C dx:Addr} {fs fs':List (Str×V)}
theorem ins_get(hok:HOk P w H h)(e:H a=some (.ins C dx fs)):∃mA,ObjM h a dx C mA∧(∀f,RelO (fs.lookup f) (mA f))∧PySem.Within mA (fs.map (·.1))∧fs.length≤1000∧H dx=some (.own a):=by
 obtain ⟨d,z,ne,ob,mA,n,r,q⟩:=(show ObjOk P w H h a (.ins C dx fs) from hok a _ e)
 exact ⟨mA,⟨ob,n,ne⟩,r,q,z,d⟩
end
structure Cls(K:PySem.W.Frag)(C:Addr):Prop where
 pg:PySem.W.plainGet K C Str.empty=true
 hd:PySem.W.hasDictIn K C=true
 po:PySem.W.plainOver K C=true
 sa:PySem.W.findIn K (.ref C) "__setattr__"=some (some (.builtin "object.__setattr__"))
theorem Cls.get{K:PySem.W.Frag}{C:Addr}(c:Cls K C)(f:Str):PySem.W.plainGet K C f=true:=c.pg
noncomputable def NoAttr(K:PySem.W.Frag)(C:Addr)(f:Str):Prop:=PySem.W.findIn K (.ref C) f=some none
theorem NoAttr.taker{K:PySem.W.Frag}{C:Addr}{f:Str}(n:NoAttr K C f):PySem.W.takerIn K C f=some none:=by
 unfold PySem.W.takerIn
 rw [show PySem.W.findIn K (.ref C) f=some none from n]
 rfl
structure Meth(K:PySem.W.Frag)(C:Addr)(m:Str)(f:Addr):Prop where
 at_:PySem.W.findIn K (.ref C) m=some (some (.ref f))
 fn:PySem.W.isFn K (.ref f)=true
 kp:PySem.W.keepIn K (.ref f)=true
section
variable {X:Cx} {pins:List (Addr×Obj)} {σ:St} {H:Hp} {s:Shared} {a C dx:Addr} {fs:List (Str×V)} {f:Str} {v:V} {A:Around} {E:Value→Shared→Prop}
theorem getattr_ok{b:Bool}{Q:Value→Shared→Prop}(I:Inv X pins σ H s)(e:H a=some (.ins C dx fs))(c:Cls X.K C)(n:NoAttr X.K C f)(l:fs.lookup f=some v)
 (h:∀u s',Inv X pins σ H s'→RelV v u→Q u s'):wpAny (model X.prog X.w) A (getAttr (.ref a) f b) Q E s:=by
 obtain ⟨mA,O,r,_,_,_⟩:=ins_get I.hok e
 obtain ⟨u,hu,ru⟩:=RelO.some_of (v:=v) (o:=mA f) (by rw [← l];exact r f)
 exact get_map I.kIn O (c.get f) c.hd n hu (handed_of ru) (h u _ (I.tok _) ru)
theorem getmeth_ok{m:Str}{g:Addr}{pl:Sem Bool}{Q:Value×List Value→Shared→Prop}(I:Inv X pins σ H s)(e:H a=some (.ins C dx fs))(c:Cls X.K C)(k:Meth X.K C m g)(l:fs.lookup m=none)
 (h:Q (.ref g,[.ref a]) s):wpAny (model X.prog X.w) A (getMethod (.ref a) m pl) Q E s:=by
 obtain ⟨mA,O,r,_,_,_⟩:=ins_get I.hok e
 have hn:mA m=none:=RelO.none_of (by rw [← l];exact r m)
 exact get_meth I.kIn O (c.get m) k.at_ k.fn hn h
theorem setattr_ok{y:V}{u:Value}{Q:Unit→Shared→Prop}(I:Inv X pins σ H s)(e:H a=some (.ins C dx fs))(c:Cls X.K C)(n:NoAttr X.K C f)(hl:fs.length < 1000)(ry:RelV y u)
 (h:∀s',Inv X pins σ (upd H a (.ins C dx (putF f y fs))) s'→Q () s'):wpAny (model X.prog X.w) A (setAttr (.ref a) f u) Q E s:=by
 obtain ⟨mA,O,r,wi,_,ho⟩:=ins_get I.hok e
 have hz:(fs.map (·.1)).length≤sizeLine:=by rw [List.length_map,sizeLine_eq];omega
 refine set_map I.kIn O c.sa c.po n.taker c.hd wi hz fun h' O' sb=>h _ ?_
 have hd:∃o,h'.get? dx=some o:=let ⟨o,_,_,e',_⟩:=O'.ns;⟨o,e'⟩
 refine I.write (x:=a) (e:=dx) (by rw [e];exact True.intro) (.inr ho) (fun b q hb z=>(sb.2 b hb).trans z) hd ?_
 refine ⟨by rw [upd_ne O.ne];exact ho,?_,O.ne,O'.obj,_,O'.ns,fun g=>?_,fun g hg=>?_⟩
 · have:=length_putF f y fs;omega
 · show RelO ((putF f y fs).lookup g) (if g=f then some u else mA g)
   rw [lookup_putF]
   by_cases q:g=f
   · rw [if_pos q,if_pos q];exact ry
   · rw [if_neg q,if_neg q];exact r g
 · by_cases q:g=f
   · rw [q];exact (keys_putF f y fs).1
   · refine (keys_putF f y fs).2 g (wi g fun z=>hg ?_)
     show (if g=f then some u else mA g)=none
     rw [if_neg q];exact z
theorem Inv.made(I:Inv X pins σ H s):Inv X pins σ (upd (upd H s.heap.objs.size (.own (s.heap.objs.size+1))) (s.heap.objs.size+1) (.ins C s.heap.objs.size []))
 {s with heap:=(s.heap.push PySem.W.emptyDict).push (PySem.W.instObj C s.heap.objs.size)}:=by
 have e1:(s.heap.push PySem.W.emptyDict).get? s.heap.objs.size=some PySem.W.emptyDict:=Heap.get?_push_size s.heap rfl
 have e2:((s.heap.push PySem.W.emptyDict).push (PySem.W.instObj C s.heap.objs.size)).get? (s.heap.objs.size+1)=some (PySem.W.instObj C s.heap.objs.size):=by
  have:=Heap.get?_push_size (s.heap.push PySem.W.emptyDict) (o:=PySem.W.instObj C s.heap.objs.size) rfl
  rwa [Heap.size_push]at this
 have e3:(s.heap.push PySem.W.emptyDict).Ns s.heap.objs.size (fun _=>none):=⟨PySem.W.emptyDict,#[],_,e1,rfl,(fun e he=>absurd he (by simp)),fun _=>rfl⟩
 have I1:=I.laid (a:=s.heap.objs.size) (o:= .own (s.heap.objs.size+1)) (h':=s.heap.push PySem.W.emptyDict) (t':=s.toks) (fun b u q=>Heap.get?_push_of_some _ q) (Nat.le_refl _) ⟨_,e1⟩
 refine I1.laid (a:=s.heap.objs.size+1) (o:= .ins C s.heap.objs.size []) (t':=s.toks) (fun b u q=>Heap.get?_push_of_some _ q) (Nat.le_of_eq (Heap.size_push _ _)) ?_
 have ne:s.heap.objs.size≠s.heap.objs.size+1:=Nat.ne_of_lt (Nat.lt_succ_self _)
 refine ⟨by rw [upd_ne ne,upd_same],Nat.zero_le _,ne,e2,fun _=>none,(Heap.Ns1.of_empty e3).at fun o q=>Heap.get?_push_of_some _ q,fun _=>True.intro,fun y hy=>absurd rfl hy⟩
theorem attr_of{prog:Program}{w:World}{env:Env}{e:Expr}{f:Str}{pos:Pos}{s:Shared}{Q:Value→Shared→Prop}(hb:attributeBase e f env (eval e env)=eval e env)
 (h:wpAny (model prog w) A (eval e env) (fun o s₁=>wpAny (model prog w) A (getAttr o f true) Q E s₁) E s):wpAny (model prog w) A (eval (.Attribute e f pos) env) Q E s:=
 Attribute_any_ h (by rw [arm_eval_Attribute,hb])
end
noncomputable def tFld(K:PySem.W.Frag)(ta:TE)(f:Str):TE:=fun σ H Q=>ta σ H fun x H1=>∃a C dx fs v,x= .ref a∧H1 a=some (.ins C dx fs)∧Cls K C∧NoAttr K C f∧fs.lookup f=some v∧Q v H1
noncomputable def sFld(K:PySem.W.Frag)(ta tv:TE)(f:Str):TS:=fun D σ H=>tv σ H fun y H1=>ta σ H1 fun x H2=>∃a C dx fs,x= .ref a∧H2 a=some (.ins C dx fs)∧Cls K C∧NoAttr K C f∧fs.length < 1000∧
 D.nx σ (upd H2 a (.ins C dx (putF f y fs)))
noncomputable def InOp(X:Cx)(op:Operator)(rd:V→V→Hp→VK→Prop):Prop:=
 ∀(pins:List (Addr×Obj)) (s:Shared) (σ:St) (H:Hp) (x y:V) (u v:Value) (Q:VK),Inv X pins σ H s→RelV x u→RelV y v→rd x y H Q→wpAny (model X.prog X.w) X.A (inplaceOp op u v) (EP X pins σ Q) X.xe s
noncomputable def sFldAug(K:PySem.W.Frag)(ta tv:TE)(rd:V→V→Hp→VK→Prop)(f:Str):TS:=fun D σ H=>ta σ H fun x H1=>∃a C dx fs v,x= .ref a∧H1 a=some (.ins C dx fs)∧Cls K C∧NoAttr K C f∧fs.lookup f=some v∧
 tv σ H1 fun y H2=>rd v y H2 fun z H3=>∃dx' fs',H3 a=some (.ins C dx' fs')∧fs'.length < 1000∧D.nx σ (upd H3 a (.ins C dx' (putF f z fs')))
section
variable {X:Cx} {o e value:Expr} {f:Str} {pos pos' tpos:Pos} {ta tv:TE}
theorem pe_fld(he:PE X e ta)(hb:attributeBase e f X.env (eval e X.env)=eval e X.env):PE X (.Attribute e f pos) (tFld X.K ta f):=by
 intro pins s σ H Q I h
 refine attr_of hb (thn (he pins s σ H _ I h) fun u s1 hq_=>?_)
 obtain ⟨x,H1,I1,rx,a,C,dx,fs,v,ex,ea,c,n,l,q⟩:=hq_
 subst ex
 obtain rfl:u=Value.ref a:=rx
 exact getattr_ok I1 ea c n l fun u' s2 I2 ru=>⟨v,H1,I2,ru,q⟩
theorem ps_fld(ha:PE X o ta)(hv:PE X value tv)(hs:swapsWith value (some (.Attribute o f pos')) pos.line X.env=pure false):PS X (.Assign [.Attribute o f pos'] value pos) (sFld X.K ta tv f):=by
 intro pins s σ H D I h
 refine plainObj_wpAny_Assign_Attribute (thn (hv pins s σ H _ I h) fun u s1 ⟨y,H1,I1,ry,q⟩=>thn (ha pins s1 σ H1 _ I1 q) fun ov s2 hq_=>?_) hs
 obtain ⟨x,H2,I2,rx,a,C,dx,fs,ex,ea,c,n,l,q2⟩:=hq_
 subst ex
 obtain rfl:ov=Value.ref a:=rx
 exact setattr_ok I2 ea c n l ry fun s3 I3=>⟨σ,_,I3,q2⟩
theorem ps_fldaug{op:Operator}{rd:V→V→Hp→VK→Prop}(ha:PE X o ta)(hv:PE X value tv)(hop:InOp X op rd):PS X (.AugAssign (.Attribute o f tpos) op value pos) (sFldAug X.K ta tv rd f):=by
 intro pins s σ H D I h
 refine wpAny_AugAssign_AttributeAny (thn (ha pins s σ H _ I h) fun ov s1 hq_=>?_)
 obtain ⟨x,H1,I1,rx,a,C,dx,fs,v,ex,ea,c,n,l,q⟩:=hq_
 subst ex
 obtain rfl:ov=Value.ref a:=rx
 refine getattr_ok I1 ea c n l fun u s2 I2 ru=>thn (hv pins s2 σ H1 _ I2 q) fun w3 s3 ⟨y,H2,I3,ry,q3⟩=>thn (hop pins s3 σ H2 v y u w3 _ I3 ru ry q3) fun w4 s4 hq_=>?_
 obtain ⟨z,H3,I4,rz,dx',fs',ea',l',q4⟩:=hq_
 exact setattr_ok I4 ea' c n l' rz fun s5 I5=>⟨σ,_,I5,q4⟩
noncomputable def rAdd:V→V→Hp→VK→Prop:=fun x y H Q=>∃i j,x= .int i∧y= .int j∧Q (.int (i+j)) H
theorem in_add:InOp X .Add rAdd:=by
 rintro pins s σ H x y u v Q I rx ry ⟨i,j,rfl,rfl,q⟩
 obtain ⟨t,rfl⟩:=(show ∃t,u=Value.int i t from rx)
 obtain ⟨t',rfl⟩:=(show ∃t',v=Value.int j t' from ry)
 exact PyProof.Rows.iadd_int ⟨.int (i+j),H,I.tok _,⟨_,rfl⟩,q⟩
end
section
variable {X:Cx} {pins:List (Addr×Obj)} {σ:St} {H:Hp} {s:Shared} {A:Around} {E:Value→Shared→Prop} {Q:Value→Shared→Prop} {c:Value} {b:Bool}
inductive TyOf(K:PySem.W.Frag)(H:Hp):V→Value→Prop where
 | non:TyOf K H .non (.type "NoneType")
 | bl (x:Bool):TyOf K H (.bl x) (.type "bool")
 | int (i:Int):TyOf K H (.int i) (.type "int")
 | str (x:Str):TyOf K H (.str x) (.type "str")
 | flt (x:UInt64):TyOf K H (.flt x) (.type "float")
 | lst {a:Addr} {xs:List V} (e:H a=some (.lst xs)):TyOf K H (.ref a) (.type "list")
 | frz {a:Addr} {o:Obj} {xs:List V} (e:H a=some (.frz o (.lst xs))):TyOf K H (.ref a) (.type "list")
 | tup {a:Addr} {xs:List V} (e:H a=some (.tup xs)):TyOf K H (.ref a) (.type "tuple")
 | dK {a:Addr} {kvs:List (Key×V)} (e:H a=some (.dK kvs)):TyOf K H (.ref a) (.type "dict")
 | dT {a:Addr} {kvs:List (List Key×V)} (e:H a=some (.dT kvs)):TyOf K H (.ref a) (.type "dict")
 | ins {a C dx:Addr} {fs:List (Str×V)} (e:H a=some (.ins C dx fs)) (cl:Cls K C) (ha:PySem.W.findIn K (.ref C) "__class__"=some (some (.builtin "object.__class__")))
  (hn:PySem.W.specialIn K (.builtin "object.__class__") "__get__"=some (some (.builtin "getset_descriptor.__get__"))) (htk:PySem.W.takesIn K (.builtin "object.__class__")=some true)
  (hm:PySem.W.mroIn K C (.type "object")=some true):TyOf K H (.ref a) (.ref C)
theorem isinst_ok{x:V}{u t:Value}(I:Inv X pins σ H s)(rx:RelV x u)(ty:TyOf X.K H x t)(e:PySem.W.kitOne X.K t c=some b)(h:∀tk,Q (.bool b) {s with toks:=tk}):
 wpAny (model X.prog X.w) A (call (.builtin "isinstance") [u,c]) Q E s:=by
 cases ty with
 | non=>cases (show u=Value.none from rx);exact PySem.W.kia_one PySem.W.kitx_none I.kIn True.intro e (fun z=>nomatch z) h
 | bl y=>cases (show u=Value.bool y from rx);exact PySem.W.kia_one PySem.W.kitx_bool I.kIn True.intro e (fun z=>nomatch z) h
 | int i=>obtain ⟨t,q⟩:=(show ∃t,u=Value.int i t from rx);cases q;exact PySem.W.kia_one PySem.W.kitx_int I.kIn True.intro e (fun z=>nomatch z) h
 | str y=>obtain ⟨t,q⟩:=(show ∃t,u=Value.str y t from rx);cases q;exact PySem.W.kia_one PySem.W.kitx_str I.kIn True.intro e (fun z=>nomatch z) h
 | flt y=>obtain ⟨t,q⟩:=(show ∃t,u=Value.float y t from rx);cases q;exact PySem.W.kia_one PySem.W.kitx_float I.kIn True.intro e (fun z=>nomatch z) h
 | @lst a xs ea=>
  cases (show u=Value.ref a from rx)
  obtain ⟨_,_,n,_,h1⟩:=(show ObjOk X.prog X.w H s.heap a (.lst xs) from I.hok a _ ea)
  exact PySem.W.kia_one PySem.W.kitx_list I.kIn ⟨_,h1,rfl⟩ e (fun z=>nomatch z) h
 | @frz a ob xs ea=>
  cases (show u=Value.ref a from rx)
  obtain ⟨_,_,_,n,_,h1⟩:=(show ObjOk X.prog X.w H s.heap a (.frz ob (.lst xs)) from I.hok a _ ea)
  exact PySem.W.kia_one PySem.W.kitx_list I.kIn ⟨_,h1,rfl⟩ e (fun z=>nomatch z) h
 | @tup a xs ea=>
  cases (show u=Value.ref a from rx)
  obtain ⟨_,_,_,p⟩:=(show ObjOk X.prog X.w H s.heap a (.tup xs) from I.hok a _ ea)
  obtain ⟨o,h1,h2,_⟩:=p
  exact PySem.W.kia_one PySem.W.kitx_tuple I.kIn ⟨o,h1,h2⟩ e (fun z=>nomatch z) h
 | @dK a kvs ea=>
  cases (show u=Value.ref a from rx)
  obtain ⟨_,_,vs,_,p⟩:=(show ObjOk X.prog X.w H s.heap a (.dK kvs) from I.hok a _ ea)
  obtain ⟨o,es,ep,h1,h2,_⟩:=p
  exact PySem.W.kia_one PySem.W.kitx_dict I.kIn ⟨o,h1,h2.1⟩ e (fun z=>nomatch z) h
 | @dT a kvs ea=>
  cases (show u=Value.ref a from rx)
  obtain ⟨_,_,xs,_,o,es,ep,h1,h2,_⟩:=(show ObjOk X.prog X.w H s.heap a (.dT kvs) from I.hok a _ ea)
  exact PySem.W.kia_one PySem.W.kitx_dict I.kIn ⟨o,h1,h2.1⟩ e (fun z=>nomatch z) h
 | @ins a C dx fs ea cl ha hn htk hm=>
  cases (show u=Value.ref a from rx)
  obtain ⟨mA,O,_⟩:=ins_get I.hok ea
  obtain ⟨od,J,_⟩:=O.look
  exact PySem.W.kia_one (PySem.W.kitx_own (cl.get _) cl.hd ha hn htk hm) I.kIn J e (fun z=>nomatch z) h
end
end L2
namespace L2
structure Room(k:Nat)(A:Around):Prop where
 hd:A.handled=none
 dp:A.depth+3 * k+5 < recursionLimit
 un:A.units+16 * k+200 < cLine
theorem Room.mono{j k:Nat}{A:Around}(r:Room k A)(h:j≤k):Room j A:=⟨r.hd,by have:=r.dp;omega,by have:=r.un;omega⟩
theorem Room.deeper{k:Nat}{A:Around}(r:Room (k+1) A)(env:Env):Room k (A.deeper env):=
 ⟨r.hd,by have:=r.dp;show A.depth+1+3 * k+5 < _;omega,by have:=r.un;show A.units+3+16 * k+200 < _;omega⟩
theorem make_depth{A:Around}{C:Addr}{us:List Value}{kw:List (Str×Value)}:(A.under (.builtin "type.__call__" ⟨.ref C::us,kw⟩)).depth=A.depth+1:=by
 first | rfl | simp [Around.under,Code.weight,Code.isCreation,Code.isGuard,Code.isCaller,Code.frames,Code.isFrame,guardIds]
theorem make_units{A:Around}{C:Addr}{us:List Value}{kw:List (Str×Value)}:(A.under (.builtin "type.__call__" ⟨.ref C::us,kw⟩)).units=A.units+1:=by
 first | rfl | simp [Around.under,Code.cUnits,Code.frames,Code.isFrame]
theorem Room.make{k:Nat}{A:Around}(r:Room (k+1) A)(C:Addr)(us:List Value)(kw:List (Str×Value)):Room k (A.under (.builtin "type.__call__" ⟨.ref C::us,kw⟩)):=
 ⟨r.hd,by have:=r.dp;rw [make_depth];omega,by have:=r.un;rw [make_units];omega⟩
theorem Room.depth{k:Nat}{A:Around}(r:Room k A):A.depth < recursionLimit:=by have:=r.dp;omega
theorem Room.units{k:Nat}{A:Around}(r:Room k A):A.units+64 < cLine:=by have:=r.un;omega
noncomputable def tNil:TA:=fun _ H Q=>Q [] H
noncomputable def tCons(ta:TE)(tr:TA):TA:=fun σ H Q=>ta σ H fun x H1=>tr σ H1 fun xs H2=>Q (x::xs) H2
section
variable {X:Cx} {e:Expr} {es:List Expr} {te:TE} {t:TA} {pos:Pos}
theorem pa_nil:PA X [] tNil:=fun _ _ _ _ H Q I h=>Calls.spliced_nil ⟨[],H,I,.nil,h⟩
theorem pa_cons(ha:PE X e te)(hr:PA X es t)(hs:starEach (e::es) X.env=(false,eval e X.env)::starEach es X.env:=by rfl):PA X (e::es) (tCons te t):=by
 intro pos pins s σ H Q I h
 rw [hs]
 show wpAny _ _ (spliced ((false,eval e X.env)::backTo pos (starEach es X.env))) _ _ s
 refine Calls.spliced_cons (thn (ha pins s σ H _ I h) fun u s1 hq_=>?_)
 obtain ⟨x,H1,I1,r1,q1⟩:=hq_
 exact thn (hr pos pins s1 σ H1 _ I1 q1) fun us s2 ⟨xs,H2,I2,r2,q2⟩=>⟨x::xs,H2,I2,.cons r1 r2,q2⟩
noncomputable def tTup(t:TA):TE:=fun σ H Q=>t σ H fun xs H1=>xs.length≤sizeLine∧∀p,H1 p=none→Q (.ref p) (upd H1 p (.tup xs))
noncomputable def tLst(t:TA):TE:=fun σ H Q=>t σ H fun xs H1=>xs.length≤sizeLine∧∀p,H1 p=none→Q (.ref p) (upd H1 p (.lst xs))
theorem pe_tup{x1}(h:PA X es t):PE X (.Tuple es x1 pos) (tTup t):=by
 intro pins s σ H Q I hq
 refine wpAny_Tuple_spliced (thn (h pos pins s σ H _ I hq) fun us s1 ⟨xs,H1,I1,r,z,q⟩=>⟨by rw [← r.length];exact z,?_⟩)
 have hf:H1 s1.heap.objs.size=none:=I1.hok.fresh (Nat.le_refl _)
 refine ⟨.ref s1.heap.objs.size,upd H1 s1.heap.objs.size (.tup xs),I1.laid (t':=s1.toks) (fun b u e=>Heap.get?_push_of_some _ e) (Nat.le_refl _) ?_,rfl,q _ hf⟩
 exact ⟨z,us,r,⟨_,Heap.get?_push_size _ rfl,rfl,_,rfl⟩⟩
theorem pe_lst(h:PA X es t):PE X (.List es pos) (tLst t):=by
 intro pins s σ H Q I hq
 refine wpAny_List_spliced (thn (h pos pins s σ H _ I hq) fun us s1 ⟨xs,H1,I1,r,z,q⟩=>⟨by rw [← r.length];exact z,?_⟩)
 have hf:H1 s1.heap.objs.size=none:=I1.hok.fresh (Nat.le_refl _)
 refine ⟨.ref s1.heap.objs.size,upd H1 s1.heap.objs.size (.lst xs),I1.laid (t':=s1.toks) (fun b u e=>Heap.get?_push_of_some _ e) (Nat.le_refl _) ?_,rfl,q _ hf⟩
 exact ⟨z,us,0,r,Heap.get?_push_size _ rfl⟩
end
noncomputable abbrev Sp:=List V→Hp→VK→XK→Prop
noncomputable abbrev CXT:=List Env→Hp→Shared→XK→Value→Shared→Prop
structure Env0(P:Program)(w:World)(K:PySem.W.Frag)(mg:Str→Option Value)(base:Heap)(A:Around)(outer:List Env)(s:Shared)(H:Hp):Prop where
 frames:A.frames=some outer
 mod:Mod K mg base
 bs:∀b o,base.get? b=some o→s.heap.get? b=some o∧H b=none
 bsz:base.objs.size≤s.heap.objs.size
 funs:s.heap.FunFrames base outer
 frf:∀b∈frs outer,H b=none
 hok:HOk P w H s.heap
 bare:AllBare s.gens
noncomputable def CE(outer:List Env)(P:Program)(w:World)(H:Hp)(s:Shared)(Q:VK)(u:Value)(s':Shared):Prop:=
 ∃v H',s'.os=s.os∧AllBare s'.gens∧Un (frs outer) [] H H' s.heap s'.heap∧HOk P w H' s'.heap∧RelV v u∧Q v H'
noncomputable def CR(CX:CXT)(outer:List Env)(P:Program)(w:World)(H:Hp)(s:Shared)(Q:VK)(E:XK)(r:Result)(s':Shared):Prop:=
 match r with
 | .ok (.ret u)=>CE outer P w H s Q u s'
 | .ok _=>False
 | .error e=>CX outer H s E e s'
structure FnOk(P:Program)(w:World)(K:PySem.W.Frag)(mg:Str→Option Value)(base:Heap)(CX:CXT)(k:Nat)(f:Addr)(fd:FuncData)(ps:List Str)(sp:Sp):Prop where
 len:∀vs H Q E,sp vs H Q E→vs.length=ps.length
 run:∀(A:Around) (outer:List Env) (s:Shared) (H:Hp) (args:Args) (us:List Value) (vs:List V) (Q:VK) (E:XK),Room k A→Env0 P w K mg base A outer s H→BindsTo s fd args (ps.zip us)→Vals vs us→sp vs H Q E→
  codeAny (model P w) A (.call (.ref f) args) (CR CX outer P w H s Q E) s
theorem FnOk.mono{P:Program}{w:World}{K:PySem.W.Frag}{mg:Str→Option Value}{base:Heap}{CX:CXT}{j k:Nat}{f:Addr}{fd:FuncData}{ps:List Str}{sp:Sp}(F:FnOk P w K mg base CX j f fd ps sp)(h:j≤k):
 FnOk P w K mg base CX k f fd ps sp:=⟨F.len,fun A outer s H args us vs Q E hr=>F.run A outer s H args us vs Q E (hr.mono h)⟩
theorem FnOk.imp{P:Program}{w:World}{K:PySem.W.Frag}{mg:Str→Option Value}{base:Heap}{CX:CXT}{k:Nat}{f:Addr}{fd:FuncData}{ps:List Str}{sp sp':Sp}(F:FnOk P w K mg base CX k f fd ps sp)
 (h:∀vs H Q E,sp' vs H Q E→sp vs H Q E):FnOk P w K mg base CX k f fd ps sp':=
 ⟨fun vs H Q E q=>F.len vs H Q E (h _ _ _ _ q),fun A outer s H args us vs Q E hr he hb hv hs=>F.run A outer s H args us vs Q E hr he hb hv (h _ _ _ _ hs)⟩
theorem Env0.make{P:Program}{w:World}{K:PySem.W.Frag}{mg:Str→Option Value}{base:Heap}{A:Around}{outer:List Env}{s:Shared}{H:Hp}(e:Env0 P w K mg base A outer s H)(C:Addr)(us:List Value)(kw:List (Str×Value)):
 Env0 P w K mg base (A.under (.builtin "type.__call__" ⟨.ref C::us,kw⟩)) outer s H:=⟨by first | exact e.frames | (simpa [Around.under,Code.envs,Code.isFrame,pushEnvs] using e.frames),e.mod,e.bs,e.bsz,e.funs,e.frf,e.hok,e.bare⟩
section
variable {X:Cx} {pins:List (Addr×Obj)} {σ:St} {H:Hp} {s s':Shared}
theorem Inv.env0(I:Inv X pins σ H s):Env0 X.prog X.w X.K X.mg X.base X.A X.stack s H:=
 ⟨I.ok.frames,I.ok.mod,I.bs,Nat.le_trans I.ok.bsz I.sz,I.stack,I.stkFree,I.hok,I.bare⟩
theorem Inv.after{Q:VK}{u:Value}(I:Inv X pins σ H s)(h:CE X.stack X.prog X.w H s Q u s'):EP X pins σ Q u s':=by
 obtain ⟨v,H',os,bare,un,hok,r,q⟩:=h
 obtain ⟨hh,g,d,t,os'⟩:=s'
 obtain rfl:os'=s.os:=os
 exact ⟨v,H',I.call (h':=hh) (g':=g) (d':=d) (t':=t) (ch:=[]) un hok bare (fun b z=>absurd z (by simp)),r,q⟩
end
noncomputable def tCall(sp:Sp)(dvs:List V)(E:XK)(t:TA):TE:=fun σ H Q=>t σ H fun vs H1=>sp (vs++dvs) H1 Q E
noncomputable def Binds(K:PySem.W.Frag)(fd:FuncData)(ps:List Str)(ds:List Value):Prop:=
 ∀(s:Shared) (us:List Value),K.In s.heap→(us++ds).length=ps.length→BindsTo s fd ⟨us,[]⟩ (ps.zip (us++ds))
theorem Binds.all{K:PySem.W.Frag}{fd:FuncData}{ps:List Str}(h:∀us:List Value,us.length=ps.length→bindArgs fd ⟨us,[]⟩=pure (ps.zip us)):Binds K fd ps []:=fun s us _ hl=>by
 rw [List.append_nil]at hl ⊢
 exact .of_eq (h us hl)
noncomputable def Passes(CX:CXT)(X:Cx)(E:XK):Prop:=∀(pins:List (Addr×Obj)) (σ:St) (H:Hp) (s:Shared) (e:Value) (s':Shared),Inv X pins σ H s→CX X.stack H s E e s'→X.xe e s'
section
variable {X:Cx} {CX:CXT} {k:Nat} {f C:Addr} {fd:FuncData} {ps:List Str} {sp:Sp} {dvs:List V} {ds:List Value} {E:XK} {x m:Str} {p pos apos:Pos} {e o:Expr} {es:List Expr} {ta:TE} {t:TA}
theorem run_fn{pins:List (Addr×Obj)}{σ:St}{H:Hp}{s:Shared}{Q:VK}{us:List Value}{vs:List V}(F:FnOk X.prog X.w X.K X.mg X.base CX k f fd ps sp)(hr:Room k X.A)(hb:Binds X.K fd ps ds)(hd:Vals dvs ds)(hx:Passes CX X E)
 (I:Inv X pins σ H s) (r:Vals vs us) (h:sp (vs++dvs) H Q E):wpAny (model X.prog X.w) X.A (call (.ref f) us) (EP X pins σ Q) X.xe s:=by
 have r2:Vals (vs++dvs) (us++ds):=r.append hd
 have hl:(us++ds).length=ps.length:=by rw [← r2.length];exact F.len _ _ _ _ h
 refine wpAny_call (codeAny_mono (F.run X.A X.stack s H ⟨us,[]⟩ (us++ds) (vs++dvs) Q E hr I.env0 (hb s us I.kIn hl) r2 h) fun r s' hq=>?_)
 cases r with
 | error e=>exact hx pins σ H s e s' I hq
 | ok fl=>
  cases fl with
  | ret u=>exact I.after hq
  | next=>exact False.elim hq
  | brk=>exact False.elim hq
  | cont=>exact False.elim hq
theorem pe_call(F:FnOk X.prog X.w X.K X.mg X.base CX k f fd ps sp)(hr:Room k X.A)(hg:Gl X x)(hm:X.mg x=some (.ref f))(hk:PySem.W.keepIn X.K (.ref f)=true)(hb:Binds X.K fd ps ds)(hd:Vals dvs ds)(hx:Passes CX X E)
 (ha:PA X (e::es) t) (hdb:(x==("__debug__":Str))=false:=by decide) (he:starEach (e::es) X.env=(false,eval e X.env)::starEach es X.env:=by rfl) (hpl:(backTo pos (starEach es X.env)).any (·.1)=false:=by rfl):
 PE X (.Call (.Name x p) (e::es) [] pos) (tCall sp dvs E t):=by
 intro pins s σ H Q I h
 refine wpAny_Call_Name_kw (ld_glob I hg hm ?_ hdb)
 refine PySem.W.callWith_K (h₀:=X.base) I.ok.mod.kin hk (thn (ha pos pins s σ H _ I h) fun us s1 ⟨vs,H1,I1,r,q⟩=>⟨I1.kIn,?_⟩) he hpl
 exact run_fn F hr hb hd hx I1 r q
structure Mk(K:PySem.W.Frag)(C f:Addr):Prop where
 makes:PySem.W.makesIn K C=true
 init:PySem.W.findIn K (.ref C) "__init__"=some (some (.ref f))
 fn:PySem.W.isFn K (.ref f)=true
 kp:PySem.W.keepIn K (.ref C)=true
end
section
variable {X:Cx} {CX:CXT} {k:Nat} {f C:Addr} {fd:FuncData} {ps ks:List Str} {sp:Sp} {E:XK} {x m:Str} {p pos apos kpos:Pos} {e o:Expr} {es:List Expr} {kws:List Keyword} {te ta:TE} {t tk:TA} {nm:Option Str}
structure KBinds(K:PySem.W.Frag)(fd:FuncData)(ps ks:List Str)(g:List Value→List Value→List Value)(gV:List V→List V→List V):Prop where
 to:∀(s:Shared) (us ws:List Value),K.In s.heap→(g us ws).length=ps.length→BindsTo s fd ⟨us,ks.zip ws⟩ (ps.zip (g us ws))
 rel:∀{vs:List V} {us:List Value} {zs:List V} {ws:List Value},Vals vs us→Vals zs ws→Vals (gV vs zs) (g us ws)
variable {g:List Value→List Value→List Value} {gV:List V→List V→List V}
end
structure FnScope(N P:List Str)(sc:Scope):Prop where
 kind:sc.kind= .function
 co:sc.isCoroutine=false
 gen:sc.isGenerator=false
 nd:N.Nodup
 pre:N.take P.length=P
 par:∀x∈P,sc.names.lookup x=some .local∨sc.names.lookup x=some .cell
 nofree:∀y∈sc.names,y.2≠ .free
theorem bindL_out{kindOf:Str→Option NameKind}{x:Str}:∀{binds:List (Str×Value)} {m:Str→Option Value},(∀v,(x,v)∉binds)→bindL kindOf binds m x=m x
 | [],_,_=>rfl
 | (n,v)::r,m,h=>by
  unfold bindL
  rw [bindL_out fun w hw=>h w (List.mem_cons_of_mem _ hw)]
  split
  · have:x≠n:=by rintro rfl;exact h v List.mem_cons_self
    simp [this]
  · rfl
theorem bindC_out{kindOf:Str→Option NameKind}{x:Str}:∀{binds:List (Str×Value)} {m:Str→Option Value},(∀v,(x,v)∉binds)→bindC kindOf binds m x=m x
 | [],_,_=>rfl
 | (n,v)::r,m,h=>by
  unfold bindC
  rw [bindC_out fun w hw=>h w (List.mem_cons_of_mem _ hw)]
  split
  · rfl
  · have:x≠n:=by rintro rfl;exact h v List.mem_cons_self
    simp [this]
theorem bindL_get{kindOf:Str→Option NameKind}{x:Str}{v:Value}:∀{P:List Str} {vs:List Value} {i:Nat} {m:Str→Option Value},P.Nodup→P[i]?=some x→vs[i]?=some v→kindOf x=some .local→
 bindL kindOf (P.zip vs) m x=some v
 | [],_,_,_,_,h,_,_=>by simp at h
 | _::_,[],_,_,_,_,h,_=>by simp at h
 | p::P,w::vs,0,m,nd,h1,h2,hk=>by
  simp at h1 h2;subst h1;subst h2
  show bindL kindOf ((p,w)::P.zip vs) m p=_
  unfold bindL
  rw [bindL_out fun v hv=>(List.nodup_cons.mp nd).1 (List.of_mem_zip hv).1,if_pos hk]
  simp
 | p::P,w::vs,i+1,m,nd,h1,h2,hk=>by
  show bindL kindOf ((p,w)::P.zip vs) m x=_
  unfold bindL
  exact bindL_get (i:=i) (List.nodup_cons.mp nd).2 (by simpa using h1) (by simpa using h2) hk
theorem bindC_get{kindOf:Str→Option NameKind}{x:Str}{v:Value}:∀{P:List Str} {vs:List Value} {i:Nat} {m:Str→Option Value},P.Nodup→P[i]?=some x→vs[i]?=some v→kindOf x≠some .local→
 bindC kindOf (P.zip vs) m x=some v
 | [],_,_,_,_,h,_,_=>by simp at h
 | _::_,[],_,_,_,_,h,_=>by simp at h
 | p::P,w::vs,0,m,nd,h1,h2,hk=>by
  simp at h1 h2;subst h1;subst h2
  show bindC kindOf ((p,w)::P.zip vs) m p=_
  unfold bindC
  rw [bindC_out fun v hv=>(List.nodup_cons.mp nd).1 (List.of_mem_zip hv).1,if_neg hk]
  simp
 | p::P,w::vs,i+1,m,nd,h1,h2,hk=>by
  show bindC kindOf ((p,w)::P.zip vs) m x=_
  unfold bindC
  exact bindC_get (i:=i) (List.nodup_cons.mp nd).2 (by simpa using h1) (by simpa using h2) hk
noncomputable def start(N:List Str)(vs:List V):St:=vs.map some++List.replicate (N.length - vs.length) none
noncomputable def cxOf(CX:CXT)(P:Program)(w:World)(K:PySem.W.Frag)(mg:Str→Option Value)(base:Heap)(N:List Str)(qual:Str)(scope:Scope)(f:Addr)(cd:Value)(A:Around)(outer:List Env)(s:Shared)(H:Hp)(E:XK):Cx where
 prog:=P
 w:=w
 K:=K
 mg:=mg
 base:=base
 A:=A.deeper (envOfC qual scope s.heap.objs.size f cd)
 N:=N
 s₀:=s
 H₀:=H
 env:=envOfC qual scope s.heap.objs.size f cd
 outer:=outer
 stack:=envOfC qual scope s.heap.objs.size f cd::outer
 ex:=[]
 calm:=true
 fn:=fun _=>true
 pn:=[]
 xe:=fun e s'=>wpAny (model P w) (A.deeper (envOfC qual scope s.heap.objs.size f cd)) (leaving (envOfC qual scope s.heap.objs.size f cd) e) (fun _ s''=>CX outer H s E e s'') (fun e' s''=>CX outer H s E e' s'') s'
theorem cell_has{sc:Scope}{n:Nat}{x:Str}(h:sc.names.lookup x=some .cell):∃c,(cellsFrom n sc.names []).lookup x=some c:=by
 have q:=PySem.W.cellsFrom_some sc.names n [] (.inl h)
 exact Option.isSome_iff_exists.mp q
theorem inv_start{CX:CXT}{P:Program}{w:World}{K:PySem.W.Frag}{mg:Str→Option Value}{base:Heap}{N ps:List Str}{qual:Str}{scope:Scope}{f:Addr}{cd:Value}{A:Around}{outer:List Env}{s s1:Shared}{H:Hp}{E:XK}{us:List Value}{vs:List V}
 (S:FnScope N ps scope) (hd:A.handled=none) (e0:Env0 P w K mg base A outer s H) (hl:vs.length=ps.length) (r:Vals vs us)
 (x:InCallC s s.heap.objs.size (bindL (envOfC qual scope s.heap.objs.size f cd).kindOf (ps.zip us) fun _=>none) (cellsFrom (s.heap.objs.size+1) scope.names []) (bindC (envOfC qual scope s.heap.objs.size f cd).kindOf (ps.zip us) fun _=>none) s1):
 Inv (cxOf CX P w K mg base N qual scope f cd A outer s H E) [] (start N vs) H s1:=by
 have hpl:ps.length≤N.length:=by have:=congrArg List.length S.pre;rw [List.length_take]at this;omega
 obtain ⟨h1,tk,rfl,hk⟩:=x.done
 have noA:∀b:Addr,b∉(cxOf CX P w K mg base N qual scope f cd A outer s H E).ex:=fun b z=>absurd (show b∈([]:List Addr) from z) (by simp)
 refine ⟨⟨e0.mod,S.kind,rfl,rfl,Nat.le_refl _,fun y z c h1 h2=>?_,fun y hy=>?_,fun y c _ h=>?_,fun _=>hd,Around.frames_deeper e0.frames,.inr ⟨rfl,rfl⟩,fun b z=>absurd z (noA b),e0.bs,e0.bsz,fun b _ _=>noA b,fun b z=>absurd z (noA b),e0.funs,e0.frf⟩,
  rfl,e0.bare,Un.kept hk,⟨_,x.toInCall.ns,fun i y v h1 h2 h3=>?_⟩,fun y c h=>⟨_,x.cell y c h⟩,e0.hok.fresh (Nat.le_refl _),fun y c h=>?_,fun p hp=>absurd (show p∈([]:List (Addr×Obj)) from hp) (by simp),e0.hok.kept hk,?_⟩
 · exact name_of_addr x.apart (PySem.mem_of_lookup h1) (PySem.mem_of_lookup h2)
 · have hy:scope.names.lookup y=some .cell∨scope.names.lookup y=some .free:=hy
   rcases hy with hy | hy
   · exact cell_has hy
   · exact absurd rfl (S.nofree _ (PySem.mem_of_lookup hy))
 · exact Nat.le_of_lt (x.above y c (PySem.mem_of_lookup h))
 · have hi:i < vs.length:=by
    unfold start at h2
    by_cases hi:i < vs.length
    · exact hi
    · rw [List.getElem?_append_right (by simpa using hi)]at h2
      rw [List.getElem?_replicate]at h2
      split at h2 <;> cases h2
   have ha:vs[i]?=some v:=by
    unfold start at h2
    rw [List.getElem?_append_left (by simpa using hi),List.getElem?_map]at h2
    cases e:vs[i]? with
    | none=>rw [e]at h2;cases h2
    | some a=>rw [e]at h2;cases h2;rfl
   obtain ⟨u,hu,rv⟩:=r.get ha
   have hp:ps[i]?=some y:=by
    rw [← S.pre,List.getElem?_take_of_lt (by omega)];exact h1
   have ndP:ps.Nodup:=by rw [← S.pre];exact S.nd.sublist (List.take_sublist _ _)
   refine ⟨u,rv,?_⟩
   rcases S.par y (List.mem_of_getElem? hp) with k | k
   · exact .inl ⟨k,bindL_get ndP hp hu k⟩
   · obtain ⟨c,e⟩:=cell_has (n:=s.heap.objs.size+1) k
     refine .inr ⟨.inl k,c,e,?_⟩
     have q:=x.cell y c e
     rw [bindC_get ndP hp hu (by show scope.names.lookup y≠_;rw [k];decide)]at q
     exact q
 · exact e0.hok.fresh (Nat.le_of_lt (x.above y c (PySem.mem_of_lookup h)))
 · unfold start
   show _=N.length
   rw [List.length_append,List.length_map,List.length_replicate]
   omega
theorem fn_of{CX:CXT}{P:Program}{w:World}{K:PySem.W.Frag}{mg:Str→Option Value}{base:Heap}{k:Nat}{f:Addr}{name qual:Str}{params:Arguments}{body:List Stmt}{scope:Scope}{dV kV doc pm cdv ct oc:Value}{an od:Option Addr}
 {osl:Array (Option Value)} {N ps:List Str} {sp:Sp} (lk:K.lookup f=some ⟨oc,od,.func (PySem.W.fnOf name qual params body scope dV kV doc pm an cdv ct),osl⟩) (hcd:PySem.W.codeIn K cdv qual=true) (S:FnScope N ps scope)
 (len:∀vs H Q E,sp vs H Q E→vs.length=ps.length)
 (hbody:∀(A:Around) (outer:List Env) (s:Shared) (H:Hp) (vs:List V) (Q:VK) (E:XK),Room k (A.deeper (envOfC qual scope s.heap.objs.size f cdv))→sp vs H Q E→
  ∃t,PSs (cxOf CX P w K mg base N qual scope f cdv A outer s H E) body t∧t {nx:=fun _ H'=>Q .non H',rt:=Q} (start N vs) H):
 FnOk P w K mg base CX (k+1) f (PySem.W.fnOf name qual params body scope dV kV doc pm an cdv ct) ps sp:=by
 refine ⟨len,fun A outer s H args us vs Q E hr e0 hb r hsp=>?_⟩
 have hl:=len _ _ _ _ hsp
 have KX:K.In s.heap:=e0.mod.kin.keeps fun b o e=>(e0.bs b o e).1
 have lim:s.heap.NoLimit:=e0.mod.nolimit.keeps fun b o e=>(e0.bs b o e).1
 have hkind:∀y∈ps.zip us,scope.names.lookup y.1=some .local∨(scope.names.lookup y.1=some .cell∧((cellsFrom (s.heap.objs.size+1) scope.names []).lookup y.1).isSome=true):=fun ⟨n,v⟩ hy=>by
  rcases S.par n (List.of_mem_zip hy).1 with q | q
  · exact .inl q
  · exact .inr ⟨q,PySem.W.cellsFrom_some _ _ _ (.inl q)⟩
 refine codeAny_call_function hr.depth (KX _ _ lk) rfl S.co S.gen rfl (PySem.W.codeRec_of KX hcd) (hb _ _ _ _ ?_)
 refine wpAny_newFunctionEnv_cells S.kind hkind fun env he s1 x=>?_
 subst he
 refine ⟨lim.keeps x.toInCall.keep,codeAny_func ?_⟩
 obtain ⟨t,ht,hq⟩:=hbody A outer s H vs Q E (hr.deeper _) hsp
 have I:Inv (cxOf CX P w K mg base N qual scope f cdv A outer s H E) [] (start N vs) H s1:=inv_start S hr.hd e0 hl r x
 refine wpAny_mono (ht [] s1 (start N vs) H _ I hq) (fun fl s' hs=>?_) fun e s' hs=>hs
 have fin:∀{σ':St} {H':Hp} {v:V} {u:Value},Inv (cxOf CX P w K mg base N qual scope f cdv A outer s H E) [] σ' H' s'→RelV v u→Q v H'→CE outer P w H s Q u s':=
  fun {σ' H' v u} J rv q=>⟨v,H',J.os,J.bare,J.base,J.hok,rv,q⟩
 cases fl with
 | ret u=>
  obtain ⟨v,σ',H',J,rv,q⟩:=hs
  exact fin J rv q
 | next=>
  obtain ⟨σ',H',J,q⟩:=hs
  exact fin (v:=V.non) (u:=Value.none) J rfl q
 | brk=>
  obtain ⟨_,_,_,q⟩:=hs
  exact False.elim q
 | cont=>
  obtain ⟨_,_,_,q⟩:=hs
  exact False.elim q
end L2
namespace L2
section
variable {X:Cx} {x:Str} {p pos:Pos} {e:Expr} {es:List Expr} {t:TA} {id T:String} {r:List V→Hp→VK→Prop}
noncomputable def tCB(r:List V→Hp→VK→Prop)(t:TA):TE:=fun σ H Q=>t σ H fun vs H1=>r vs H1 Q
theorem pe_callB(hc:CallR X (.builtin id) r)(hg:Gl X x)(hm:X.mg x=none)(hv:bootBuiltins x=some (.builtin id))(ha:PA X (e::es) t)(hn:x≠"__name__":=by decide)(hdb:(x==("__debug__":Str))=false:=by decide)
 (he:starEach (e::es) X.env=(false,eval e X.env)::starEach es X.env:=by rfl) (hpl:(backTo pos (starEach es X.env)).any (·.1)=false:=by rfl):PE X (.Call (.Name x p) (e::es) [] pos) (tCB r t):=by
 intro pins s σ H Q I h
 refine wpAny_Call_Name_kw (ld_blt I hg hm hv ?_ hn hdb)
 exact PyProof.Rows.callWith_builtin1 (thn (ha pos pins s σ H _ I h) fun us s1 ⟨vs,H1,I1,r1,q1⟩=>hc pins s1 σ H1 vs us Q I1 r1 q1) he hpl
theorem pe_callTy(hc:CallR X (.type T) r)(hg:Gl X x)(hm:X.mg x=none)(hv:bootBuiltins x=some (.type T))(ha:PA X (e::es) t)(hn:x≠"__name__":=by decide)(hdb:(x==("__debug__":Str))=false:=by decide)
 (he:starEach (e::es) X.env=(false,eval e X.env)::starEach es X.env:=by rfl) (hpl:(backTo pos (starEach es X.env)).any (·.1)=false:=by rfl):PE X (.Call (.Name x p) (e::es) [] pos) (tCB r t):=by
 intro pins s σ H Q I h
 refine wpAny_Call_Name_kw (ld_blt I hg hm hv ?_ hn hdb)
 exact PyProof.Rows.callWith_type1 (thn (ha pos pins s σ H _ I h) fun us s1 ⟨vs,H1,I1,r1,q1⟩=>hc pins s1 σ H1 vs us Q I1 r1 q1) he hpl
end
end L2
namespace HT
open PySem PyProof.Rows
noncomputable def lexLt:List Int→List Int→Bool
 | [],[]=>false
 | [],_::_=>true
 | _::_,[]=>false
 | x::xs,y::ys=>if x=y then lexLt xs ys else decide (x < y)
theorem lexLt_cons(x y:Int)(xs ys:List Int):lexLt (x::xs) (y::ys)=if x=y then lexLt xs ys else decide (x < y):=rfl
theorem lexLt_nil_nil:lexLt [] []=false:=rfl
theorem lexLt_nil_cons(y:Int)(ys:List Int):lexLt [] (y::ys)=true:=rfl
theorem lexLt_cons_nil(x:Int)(xs:List Int):lexLt (x::xs) []=false:=rfl
theorem eqAt_int(A:Around)(s:Shared)(a:Int)(t:Tok)(c:Int)(u:Tok):∃e,SeqAt.EqAt A s (.int a t) (.int c u) e∧(e=true↔a=c):=
 ⟨(a==c),SeqAt.EqAt.int_int a t c u,by simp⟩
section
variable {prog:Program} {w:World} {A:Around} {E:Value→Shared→Prop} {s:Shared}
noncomputable def sIx(n d:Nat):Option Int→Nat
 | none=>d
 | some v=>if v < 0 then (v+(n:Int)).toNat else min v.toNat n
theorem sIx_none(n d:Nat):sIx n d none=d:=rfl
theorem sIx_nat(n d k:Nat):sIx n d (some (k:Int))=min k n:=by
 show (if (k:Int) < 0 then ((k:Int)+(n:Int)).toNat else min (k:Int).toNat n)=min k n
 rw [if_neg (by omega),Int.toNat_natCast]
end
end HT
namespace L2
noncomputable abbrev TO:=St→Hp→(Option Int→Hp→Prop)→Prop
noncomputable def PO(X:Cx)(e:Option Expr)(t:TO):Prop:=
 ∀(pins:List (Addr×Obj)) (s:Shared) (σ:St) (H:Hp) (Q:Option Int→Hp→Prop),Inv X pins σ H s→t σ H Q→
   wpAny (model X.prog X.w) X.A (evalPart e X.env) (fun u s'=>∃o H',Inv X pins σ H' s'∧IsPart u o∧Q o H') X.xe s
noncomputable def tNoPart:TO:=fun _ H Q=>Q none H
noncomputable def tPart(t:TE):TO:=fun σ H Q=>t σ H fun x H1=>∃i,x= .int i∧Q (some i) H1
theorem intsAre_of{ns:List Int}:∀{us:List Value},Vals (ns.map V.int) us→IntsAre us ns:=by
 induction ns with
 | nil=>intro us r;rw [List.map_nil]at r;cases r;exact .nil
 | cons n ns ih=>
  intro us r
  rw [List.map_cons]at r
  cases r with
  | cons r1 r2=>
   obtain ⟨t,e⟩:=r1
   subst e
   exact .cons n t (ih r2)
section
variable {X:Cx} {e:Expr} {te:TE} {lo hi:Option Expr} {tl th:TO} {pos p2:Pos}
theorem po_none:PO X none tNoPart:=by
 intro pins s σ H Q I h
 rw [evalPart_none]
 exact wpAny_pure ⟨none,H,I,.none,h⟩
theorem po_some(h:PE X e te):PO X (some e) (tPart te):=by
 intro pins s σ H Q I hw
 rw [evalPart_some]
 refine thn (h pins s σ H _ I hw) fun u s1 hq_=>?_
 obtain ⟨x,H1,I1,r1,q1⟩:=hq_
 obtain ⟨i,rfl,q⟩:=q1
 obtain ⟨t,rfl⟩:=r1
 exact ⟨some i,H1,I1,.int i t,q⟩
noncomputable def SlR(X:Cx)(r:V→Option Int→Option Int→Hp→VK→Prop):Prop:=
 ∀(pins:List (Addr×Obj)) (s:Shared) (σ:St) (H:Hp) (x:V) (v vl vu:Value) (lo hi:Option Int) (sl:Addr) (Q:VK),Inv X pins σ H s→RelV x v→s.heap.IsSliceOf sl vl vu .none→IsPart vl lo→IsPart vu hi→r x lo hi H Q→
   ∃T id,typeLookup (.type T) "__getitem__"=pure (some (.builtin id))∧s.TypeIs v T∧wpAny (model X.prog X.w) X.A (getItem v (.ref sl)) (EP X pins σ Q) X.xe s
noncomputable def tSl(r:V→Option Int→Option Int→Hp→VK→Prop)(te:TE)(tl th:TO):TE:=fun σ H Q=>te σ H fun x H1=>tl σ H1 fun l H2=>th σ H2 fun u H3=>r x l u H3 Q
theorem pe_slice{r:V→Option Int→Option Int→Hp→VK→Prop}(hr:SlR X r)(he:PE X e te)(hl:PO X lo tl)(hu:PO X hi th):PE X (.Subscript e (.Slice lo hi none p2) pos) (tSl r te tl th):=by
 intro pins s σ H Q I h
 refine Subscript_ (thn (he pins s σ H _ I h) fun v s1 hq_=>?_)
 obtain ⟨x,H1,I1,r1,q1⟩:=hq_
 refine wpAny_Slice (thn (hl pins s1 σ H1 _ I1 q1) fun vl s2 ⟨l,H2,I2,pl,q2⟩=>thn (hu pins s2 σ H2 _ I2 q2) fun vu s3 hq_=>?_)
 obtain ⟨u,H3,I3,pu,q3⟩:=hq_
 rw [evalPart_none]
 refine wpAny_pure ?_
 have I4:Inv X pins σ H3 {s3 with heap:=s3.heap.push {cls:= .type "slice",data:= .fields #[vl,vu,.none]}}:=I3.kept (t':=s3.toks) fun b ob q=>Heap.get?_push_of_some _ q
 obtain ⟨T,id,hT,ht,hg⟩:=hr pins {s3 with heap:=s3.heap.push {cls:= .type "slice",data:= .fields #[vl,vu,.none]}} σ H3 x v vl vu l u s3.heap.objs.size Q I4 r1 (Heap.IsSliceOf.new ..) pl pu q3
 show wpAny (model X.prog X.w) X.A (subscriptTail e (.Slice lo hi none p2) v (.ref s3.heap.objs.size)) (EP X pins σ Q) X.xe {s3 with heap:=s3.heap.push {cls:= .type "slice",data:= .fields #[vl,vu,.none]}}
 exact tail_any (ops:=[.ref s3.heap.objs.size,v]) ht hT hg (by with_unfolding_all rfl)
noncomputable def cutV(xs:List V)(lo hi:Option Int):List V:=(xs.drop (HT.sIx xs.length 0 lo)).take (HT.sIx xs.length xs.length hi - HT.sIx xs.length 0 lo)
theorem cutV_length(xs:List V)(lo hi:Option Int):(cutV xs lo hi).length≤xs.length:=by
 unfold cutV
 rw [List.length_take,List.length_drop]
 omega
end
end L2
namespace L2
noncomputable def ixN(n:Nat)(i:Int):Option Nat:=if 0≤i then (if i < n then some i.toNat else none) else if -(n:Int)≤i then some (i+n).toNat else none
noncomputable def atI{α:Type}(xs:List α)(i:Int):Option α:=(ixN xs.length i).bind fun j=>xs[j]?
theorem ixN_seq{n:Nat}{i:Int}{j:Nat}(h:ixN n i=some j):seqIndex? i n=some j∧j < n∧-(n:Int)≤i∧i < n:=by
 unfold ixN at h
 by_cases h0:0≤i
 · rw [if_pos h0]at h
   by_cases h1:i < n
   · rw [if_pos h1]at h
     have e:i.toNat=j:=Option.some.inj h
     exact ⟨by rw [seqIndex_of h0 h1,e],by omega,by omega,h1⟩
   · rw [if_neg h1]at h;cases h
 · rw [if_neg h0]at h
   by_cases h1:-(n:Int)≤i
   · rw [if_pos h1]at h
     have e:(i+n).toNat=j:=Option.some.inj h
     exact ⟨by rw [seqIndex_neg (by omega) h1,e],by omega,h1,by omega⟩
   · rw [if_neg h1]at h;cases h
theorem atI_get{α:Type}{xs:List α}{i:Int}{v:α}(h:atI xs i=some v):∃j,seqIndex? i xs.length=some j∧xs[j]?=some v∧j < xs.length∧-(xs.length:Int)≤i∧i < xs.length:=by
 unfold atI at h
 cases e:ixN xs.length i with
 | none=>rw [e]at h;cases h
 | some j=>
  rw [e]at h
  obtain ⟨h1,h2,h3,h4⟩:=ixN_seq e
  exact ⟨j,h1,h,h2,h3,h4⟩
theorem atI_nat{α:Type}{xs:List α}{j:Nat}{v:α}(h:xs[j]?=some v):atI xs (j:Int)=some v:=by
 have hj:j < xs.length:=(List.getElem?_eq_some_iff.mp h).1
 have e:ixN xs.length (j:Int)=some j:=by
  unfold ixN
  rw [if_pos (by omega),if_pos (by omega)];simp
 unfold atI;rw [e];exact h
noncomputable def PlainIx(b:Expr):Prop:=∀o i,subscripted b false o i=operate [o,i] (getItem o i)
noncomputable def IxR(X:Cx)(r:R2):Prop:=
 ∀(value slice:Expr) (pins:List (Addr×Obj)) (s:Shared) (σ:St) (H:Hp) (x y:V) (v u:Value) (Q:VK),Inv X pins σ H s→RelV x v→RelV y u→r x y H Q→
   subscripted slice false v u=operate [v,u] (getItem v u)→wpAny (model X.prog X.w) X.A (subscriptTail value slice v u) (EP X pins σ Q) X.xe s
noncomputable def MtR(X:Cx)(id:String)(r:V→List V→Hp→VK→Prop):Prop:=
 ∀(pins:List (Addr×Obj)) (s:Shared) (σ:St) (H:Hp) (x:V) (xs:List V) (v:Value) (us:List Value) (Q:VK),Inv X pins σ H s→RelV x v→Vals xs us→r x xs H Q→
   wpAny (model X.prog X.w) X.A (call (.builtin id) (v::us)) (EP X pins σ Q) X.xe s
section
variable {X:Cx} {a b:Expr} {ta tb:TE} {pos:Pos}
theorem pe_ix{r:R2}(hr:IxR X r)(ha:PE X a ta)(hb:PE X b tb)(hs:PlainIx b):PE X (.Subscript a b pos) (tOp r ta tb):=by
 intro pins s σ H Q I h
 exact Subscript_ (binT ha hb I h fun v u s2 x y H2 I2 rx ry q=>hr a b pins s2 σ H2 x y v u Q I2 rx ry q (hs _ _))
noncomputable def rIxL(K:PySem.W.Frag):R2:=fun x y H Q=>∃p xs i v,x= .ref p∧y= .int i∧SqL K H p xs∧atI xs i=some v∧Q v H
noncomputable def rIxT(K:PySem.W.Frag):R2:=fun x y H Q=>∃p xs i v,x= .ref p∧y= .int i∧SqT K H p xs∧atI xs i=some v∧Q v H
noncomputable def rIxS:R2:=fun x y H Q=>∃z i c,x= .str z∧y= .int i∧z.length≤sizeLine∧atI z.cps.toList i=some c∧Q (.str ⟨#[c]⟩) H
theorem ix_list:IxR X (rIxL X.K):=by
 intro value slice pins s σ H x y v u Q I rx ry h hs
 obtain ⟨p,xs,i,z,rfl,rfl,hq,he,q⟩:=h
 cases rx
 obtain ⟨t,rfl⟩:=ry
 obtain ⟨its,r,pl,hz⟩:=I.list hq
 obtain ⟨j,h1,h2,h3,h4,h5⟩:=atI_get he
 obtain ⟨w,ew,rw'⟩:=r.get h2
 have hl:=r.length
 have hn:=line63
 have fin:EP X pins σ Q w s:=⟨z,H,I,rw',q⟩
 by_cases h0:0≤i
 · have hj:i.toNat=j:=by
    rw [seqIndex_of h0 h5]at h1
    exact Option.some.inj h1
   exact item_listR pl.isList h0 (by omega) (by rw [hj];simpa using ew) fin hs
 · have hj:(i+(its.toArray.size:Int)).toNat=j:=by
    rw [seqIndex_neg (by omega) h4]at h1
    rw [List.size_toArray,← hl]
    exact Option.some.inj h1
   exact subscriptTail_builtinR (x:=w) pl.isList.typeIs slot_list_getitem.lookup
    (wpAny_getItem_list_neg (Q:=fun r s'=>r=w∧EP X pins σ Q r s') pl.isList (by omega) (by rw [List.size_toArray] <;> omega) (by omega) (by rw [hj];simpa using ew) ⟨rfl,fin⟩) hs
theorem ix_tup:IxR X (rIxT X.K):=by
 intro value slice pins s σ H x y v u Q I rx ry h hs
 obtain ⟨p,xs,i,z,rfl,rfl,hq,he,q⟩:=h
 cases rx
 obtain ⟨t,rfl⟩:=ry
 obtain ⟨its,r,pl,hz⟩:=I.tuple hq
 obtain ⟨j,h1,h2,h3,h4,h5⟩:=atI_get he
 obtain ⟨w,ew,rw'⟩:=r.get h2
 have hl:=r.length
 have hn:=line63
 have fin:EP X pins σ Q w s:=⟨z,H,I,rw',q⟩
 exact subscriptTail_builtinR (x:=w) pl.typeIs slot_tuple_getitem.lookup
  (getItem_tuple (j:=j) (Q:=fun r s'=>r=w∧EP X pins σ Q r s') pl (by omega) (by omega) (by rw [List.size_toArray,← hl];exact h1) (by simpa using ew) ⟨rfl,fin⟩) hs
theorem ix_str:IxR X rIxS:=by
 intro value slice pins s σ H x y v u Q I rx ry h hs
 obtain ⟨z,i,c,rfl,rfl,hz,he,q⟩:=h
 obtain ⟨t,rfl⟩:=rx
 obtain ⟨t',rfl⟩:=ry
 obtain ⟨j,h1,h2,h3,h4,h5⟩:=atI_get he
 have hl:z.cps.toList.length=z.length:=by simp [Str.length]
 rw [hl]at h1 h4 h5
 have hn:=line63
 exact tail_any (typeIs_str s z t) slot_str_getitem.lookup (getItem_str (c:=c) (by
  have e1:decide (i < -(2 ^ 63:Int))=false:=decide_eq_false (by omega)
  have e2:decide (i ≥ 2 ^ 63)=false:=decide_eq_false (by omega)
  rw [e1,e2,Bool.or_false]) (by rw [h1];simpa using h2) ⟨.str ⟨#[c]⟩,H,I.tok _,⟨_,rfl⟩,q⟩) hs
theorem mapSeq_set(its:List Value)(n j:Nat)(u:Value):Obj.mapSeq (·.setIfInBounds j u) {cls:= .type "list",data:= .seq its.toArray n}={cls:= .type "list",data:= .seq (its.set j u).toArray n}:=by
 simp [Obj.mapSeq]
theorem Inv.lst{pins:List (Addr×Obj)}{σ:St}{H:Hp}{s:Shared}{p:Addr}{xs:List V}(I:Inv X pins σ H s)(h:H p=some (.lst xs)):
 ∃(its:List Value) (n:Nat),Vals xs its∧s.heap.get? p=some {cls:= .type "list",data:= .seq its.toArray n}∧xs.length≤sizeLine:=by
 obtain ⟨z,its,n,r,e⟩:=I.hok p _ h
 exact ⟨its,n,r,e,z⟩
theorem Inv.lstUpd{pins:List (Addr×Obj)}{σ:St}{H:Hp}{s:Shared}{p:Addr}{xs ys:List V}{its its':List Value}{n n':Nat}{f:Obj→Obj}(I:Inv X pins σ H s)(h:H p=some (.lst xs))
 (ho:s.heap.get? p=some {cls:= .type "list",data:= .seq its.toArray n}) (hf:f {cls:= .type "list",data:= .seq its.toArray n}={cls:= .type "list",data:= .seq its'.toArray n'}) (r:Vals ys its') (hz:ys.length≤sizeLine) (t:Nat):
 Inv X pins σ (upd H p (.lst ys)) {s with heap:=s.heap.update p f,toks:=t}:=by
 have e:(s.heap.update p f).get? p=some {cls:= .type "list",data:= .seq its'.toArray n'}:=by
  rw [Heap.get?_update_self f ho (by rw [hf] <;> rfl),hf]
 refine I.write (x:=p) (e:=p) (by rw [h];trivial) (.inl rfl) (fun b u hb q=>(Heap.get?_update_other _ _ (Ne.symm hb)).trans q) ⟨_,e⟩ ?_
 exact ⟨hz,its',n',r,e⟩
noncomputable def rSetL:V→V→V→Hp→(Hp→Prop)→Prop:=fun o i v H Q=>∃p xs k j,o= .ref p∧i= .int k∧H p=some (.lst xs)∧ixN xs.length k=some j∧Q (upd H p (.lst (xs.set j v)))
theorem set_list:PSet X rSetL:=by
 intro pins s σ H o i v ov iv u Q I ro ri rv h
 obtain ⟨p,xs,k,j,rfl,rfl,hp,hj,q⟩:=h
 cases ro
 obtain ⟨t,rfl⟩:=ri
 obtain ⟨its,n,r,ho,hz⟩:=I.lst hp
 obtain ⟨h1,h2,h3,h4⟩:=ixN_seq hj
 have hl:=r.length
 have hn:=line63
 have I':Inv X pins σ (upd H p (.lst (xs.set j v))) {s with heap:=s.heap.update p (Obj.mapSeq (·.setIfInBounds j u))}:=
  I.lstUpd hp ho (mapSeq_set its n j u) (r.set rv j) (by rw [List.length_set];exact hz) s.toks
 by_cases h0:0≤k
 · have hk:k.toNat=j:=by
    rw [seqIndex_of h0 h4]at h1
    exact Option.some.inj h1
   exact PySem.W.ki_setAt ho h0 (by omega) (by rw [List.size_toArray,← hl];exact h4) (by rw [hk];exact ⟨_,I',q⟩)
 · have hk:(k+(its.toArray.size:Int)).toNat=j:=by
    rw [seqIndex_neg (by omega) h3]at h1
    rw [List.size_toArray,← hl]
    exact Option.some.inj h1
   exact PySem.W.ki_setBack ho (by omega) (by rw [List.size_toArray,← hl];exact h3) (by omega) (by rw [hk];exact ⟨_,I',q⟩)
theorem slice_bounds(lo hi:Option Int)(n:Nat):(sliceBounds lo hi none n).1=((HT.sIx n 0 lo:Nat):Int)∧(sliceBounds lo hi none n).2.1=((HT.sIx n n hi:Nat):Int)∧(sliceBounds lo hi none n).2.2=1:=by
 refine ⟨?_,?_,rfl⟩
 · cases lo with
   | none=>simp [sliceBounds,HT.sIx]
   | some i=>
    simp only [sliceBounds,HT.sIx,Option.getD_none,show (1:Int) > 0 by decide,if_true]
    by_cases h:i < 0
    · simp only [h,if_true] <;> omega
    · simp only [h,if_false] <;> omega
 · cases hi with
   | none=>simp [sliceBounds,HT.sIx]
   | some i=>
    simp only [sliceBounds,HT.sIx,Option.getD_none,show (1:Int) > 0 by decide,if_true]
    by_cases h:i < 0
    · simp only [h,if_true] <;> omega
    · simp only [h,if_false] <;> omega
theorem slicePick_cut(its:List Value)(lo hi:Option Int):slicePick its.toArray lo hi none=((its.drop (HT.sIx its.length 0 lo)).take (HT.sIx its.length its.length hi - HT.sIx its.length 0 lo)).toArray:=by
 obtain ⟨h1,h2,h3⟩:=slice_bounds lo hi its.toArray.size
 unfold slicePick
 rw [h1,h2,h3]
 simp only [sliceRange_one,pick_run,List.size_toArray] <;> rfl
noncomputable def rSlL(K:PySem.W.Frag):V→Option Int→Option Int→Hp→VK→Prop:=fun x lo hi H Q=>∃a xs,x= .ref a∧SqL K H a xs∧∀p,H p=none→Q (.ref p) (upd H p (.lst (cutV xs lo hi)))
theorem sl_list:SlR X (rSlL X.K):=by
 intro pins s σ H x v vl vu lo hi sl Q I rx hs pl pu h
 obtain ⟨a,xs,rfl,hx,q⟩:=h
 cases rx
 obtain ⟨its,r,ht,hz⟩:=I.list hx
 have hlen:=r.length
 refine ⟨"list",_,slot_list_getitem.lookup,ht.isList.typeIs,?_⟩
 refine wpAny_getItem_list_slice ht.isList hs pl pu .none (by simp) ?_ (by rw [List.size_toArray] <;> omega)
 rw [slicePick_cut,← hlen]
 refine ⟨.ref s.heap.objs.size,_,I.laid (t':=s.toks) (o:= .lst (cutV xs lo hi)) (fun b ob q=>Heap.get?_push_of_some _ q) (Nat.le_refl _) ?_,rfl,q _ (I.hok.fresh (Nat.le_refl _))⟩
 exact ⟨Nat.le_trans (cutV_length xs lo hi) hz,_,0,(r.drop (HT.sIx xs.length 0 lo)).take (HT.sIx xs.length xs.length hi - HT.sIx xs.length 0 lo),Heap.get?_push_size _ rfl⟩
noncomputable def flatV:V→Bool
 | .non=>true
 | .bl _=>true
 | .int _=>true
 | .str _=>true
 | _=>false
noncomputable def eqV:V→V→Bool
 | .non,.non=>true
 | .bl a,.bl b=>a==b
 | .bl a,.int b=>(if a then 1 else 0)==b
 | .int a,.bl b=>a==(if b then 1 else 0)
 | .int a,.int b=>a==b
 | .str a,.str b=>a==b
 | _,_=>false
theorem eqAt_V{A:Around}{s:Shared}{y x:V}{u v:Value}(ry:RelV y u)(rx:RelV x v)(fy:flatV y=true)(fx:flatV x=true):SeqAt.EqAt A s u v (eqV y x):=by
 cases y with
 | non=>
  cases ry
  cases x with
  | non=>cases rx;exact SeqAt.EqAt.same _
  | bl b=>cases rx;exact SeqAt.EqAt.none_bool b
  | int b=>obtain ⟨t,rfl⟩:=rx;exact SeqAt.EqAt.none_int b t
  | str b=>obtain ⟨t,rfl⟩:=rx;exact SeqAt.EqAt.none_str b t
  | _=>exact absurd (show false=true from fx) Bool.false_ne_true
 | bl a=>
  cases ry
  cases x with
  | non=>cases rx;exact SeqAt.EqAt.bool_none a
  | bl b=>cases rx;exact SeqAt.EqAt.bool_bool a b
  | int b=>obtain ⟨t,rfl⟩:=rx;exact SeqAt.EqAt.bool_int a b t
  | str b=>obtain ⟨t,rfl⟩:=rx;exact SeqAt.EqAt.bool_str a b t
  | _=>exact absurd (show false=true from fx) Bool.false_ne_true
 | int a=>
  obtain ⟨t',rfl⟩:=ry
  cases x with
  | non=>cases rx;exact SeqAt.EqAt.int_none a t'
  | bl b=>cases rx;exact SeqAt.EqAt.int_bool a t' b
  | int b=>obtain ⟨t,rfl⟩:=rx;exact SeqAt.EqAt.int_int a t' b t
  | str b=>obtain ⟨t,rfl⟩:=rx;exact SeqAt.EqAt.int_str a t' b t
  | _=>exact absurd (show false=true from fx) Bool.false_ne_true
 | str a=>
  obtain ⟨t',rfl⟩:=ry
  cases x with
  | non=>cases rx;exact SeqAt.EqAt.str_none a t'
  | bl b=>cases rx;exact SeqAt.EqAt.str_bool a t' b
  | int b=>obtain ⟨t,rfl⟩:=rx;exact SeqAt.EqAt.str_int a t' b t
  | str b=>obtain ⟨t,rfl⟩:=rx;exact SeqAt.EqAt.str_str a t' b t
  | _=>exact absurd (show false=true from fx) Bool.false_ne_true
 | _=>exact absurd (show false=true from fy) Bool.false_ne_true
noncomputable def eqU(x:V)(u:Value):Bool:=match u with
 | .none=>eqV .non x
 | .bool b=>eqV (.bl b) x
 | .int i _=>eqV (.int i) x
 | .str z _=>eqV (.str z) x
 | _=>false
theorem eqU_of{x y:V}{u:Value}(r:RelV y u)(f:flatV y=true):eqU x u=eqV y x:=by
 cases y with
 | non=>cases r;rfl
 | bl b=>cases r;rfl
 | int i=>obtain ⟨t,rfl⟩:=r;rfl
 | str z=>obtain ⟨t,rfl⟩:=r;rfl
 | _=>exact absurd (show false=true from f) Bool.false_ne_true
theorem any_eqU{x:V}:∀{xs:List V} {us:List Value},Vals xs us→xs.all flatV=true→us.any (eqU x)=xs.any fun y=>eqV y x
 | _,_,.nil,_=>rfl
 | y::xs,u::us,.cons r t,f=>by
  rw [List.all_cons,Bool.and_eq_true]at f
  rw [List.any_cons,List.any_cons,eqU_of r f.1,any_eqU t f.2]
theorem mem_eqAt{A:Around}{s:Shared}{x:V}{v:Value}(rx:RelV x v)(fx:flatV x=true):∀{xs:List V} {us:List Value},Vals xs us→xs.all flatV=true→∀u∈us,SeqAt.EqAt A s u v (eqU x u)
 | _,_,.nil,_=>fun u hu=>by cases hu
 | y::xs,u::us,.cons r t,f=>fun u' hu=>by
  rw [List.all_cons,Bool.and_eq_true]at f
  rcases List.mem_cons.mp hu with rfl | hu
  · rw [eqU_of r f.1];exact eqAt_V r rx f.1 fx
  · exact mem_eqAt rx fx t f.2 u' hu
noncomputable def inV(x:V)(xs:List V):Bool:=xs.any fun y=>eqV y x
noncomputable def rIn(K:PySem.W.Frag)(neg:Bool):R2:=fun x y H Q=>∃p xs,y= .ref p∧(SqL K H p xs∨SqT K H p xs)∧flatV x=true∧xs.all flatV=true∧Q (.bl (if neg then !inV x xs else inV x xs)) H
theorem op_in_seq:OpR X (compareOp .In) (rIn X.K false):=by
 intro pins s σ H x y v u Q I rx ry h
 obtain ⟨p,xs,rfl,hq,fx,fs,q⟩:=h
 cases ry
 rcases hq with hq | hq
 · obtain ⟨its,r,pl,hz⟩:=I.list hq
   refine SeqAt.in_listAt (eqU x) pl.isList (fun w hw=>mem_eqAt rx fx r fs w (by simpa using hw)) ⟨.bl _,H,I,rfl,?_⟩
   rw [show its.toArray.any (eqU x)=its.any (eqU x) by simp,any_eqU r fs]
   exact q
 · obtain ⟨its,r,pl,hz⟩:=I.tuple hq
   refine SeqAt.in_tupleAt (eqU x) pl (fun w hw=>mem_eqAt rx fx r fs w (by simpa using hw)) ⟨.bl _,H,I,rfl,?_⟩
   rw [show its.toArray.any (eqU x)=its.any (eqU x) by simp,any_eqU r fs]
   exact q
theorem op_notIn_seq:OpR X (compareOp .NotIn) (rIn X.K true):=by
 intro pins s σ H x y v u Q I rx ry h
 obtain ⟨p,xs,rfl,hq,fx,fs,q⟩:=h
 cases ry
 rcases hq with hq | hq
 · obtain ⟨its,r,pl,hz⟩:=I.list hq
   refine SeqAt.notIn_listAt (eqU x) pl.isList (fun w hw=>mem_eqAt rx fx r fs w (by simpa using hw)) ⟨.bl _,H,I,rfl,?_⟩
   rw [show its.toArray.any (eqU x)=its.any (eqU x) by simp,any_eqU r fs]
   exact q
 · obtain ⟨its,r,pl,hz⟩:=I.tuple hq
   refine SeqAt.notIn_tupleAt (eqU x) pl (fun w hw=>mem_eqAt rx fx r fs w (by simpa using hw)) ⟨.bl _,H,I,rfl,?_⟩
   rw [show its.toArray.any (eqU x)=its.any (eqU x) by simp,any_eqU r fs]
   exact q
theorem call_len_seq:CallR X (.builtin "len") (fun xs H Q=>∃p ys,xs=[.ref p]∧(SqL X.K H p ys∨SqT X.K H p ys)∧Q (.int ys.length) H):=by
 intro pins s σ H xs us Q I r h
 obtain ⟨p,ys,rfl,hq,q⟩:=h
 obtain ⟨u,rfl,rx⟩:=vals1 r
 cases rx
 have hn:=line63
 rcases hq with hq | hq
 · obtain ⟨its,r',pl,hz⟩:=I.list hq
   have hlen:=r'.length
   exact Calls.call_len_list pl.isList (by simp only [List.size_toArray] <;> omega) ⟨.int ys.length,H,I.tok _,⟨s.toks+1,by rw [List.size_toArray,hlen]⟩,q⟩
 · obtain ⟨its,r',pl,hz⟩:=I.tuple hq
   have hlen:=r'.length
   exact len_tuple pl (by simp only [List.size_toArray] <;> omega) ⟨.int ys.length,H,I.tok _,⟨s.toks+1,by rw [List.size_toArray,hlen]⟩,q⟩
theorem call_len_str:CallR X (.builtin "len") (fun xs H Q=>∃z,xs=[.str z]∧z.length≤sizeLine∧Q (.int z.length) H):=by
 intro pins s σ H xs us Q I r h
 obtain ⟨z,rfl,hz,q⟩:=h
 obtain ⟨u,rfl,t,rfl⟩:=vals1 r
 have hn:=line63
 exact len_str (by omega) ⟨.int z.length,H,I.tok _,⟨_,rfl⟩,q⟩
theorem call_list_of:CallR X (.type "list") (fun xs H Q=>∃p ys,xs=[.ref p]∧(SqL X.K H p ys∨SqT X.K H p ys)∧∀l,H l=none→Q (.ref l) (upd H l (.lst ys))):=by
 intro pins s σ H xs us Q I r h
 obtain ⟨p,ys,rfl,hq,q⟩:=h
 obtain ⟨u,rfl,rx⟩:=vals1 r
 cases rx
 have fin:∀(its:List Value),Vals ys its→ys.length≤sizeLine→∀(h':Heap) (c':Nat),(∀b o',s.heap.get? b=some o'→h'.get? b=some o')→
  h'.get? s.heap.objs.size=some {cls:= .type "list",dict:=none,data:= .seq its.toArray c',slots:=#[]}→EP X pins σ Q (.ref s.heap.objs.size) {s with heap:=h'}:=fun its r' hz h' c' kp e=>
  ⟨.ref s.heap.objs.size,_,I.laid (t':=s.toks) kp (Nat.le_refl _) (show ObjOk X.prog X.w _ h' _ (.lst ys) from ⟨hz,its,c',r',e⟩),rfl,q _ (I.hok.fresh (Nat.le_refl _))⟩
 rcases hq with hq | hq
 · obtain ⟨its,r',pl,hz⟩:=I.list hq
   have hlen:=r'.length
   obtain ⟨o,ho,hc,n,hd⟩:=pl.isList
   exact call_list_seq p (.inl rfl) ho hc hd (fun h' c' kp e=>fin its r' hz h' c' kp e) (by simp only [List.size_toArray] <;> omega)
 · obtain ⟨its,r',pl,hz⟩:=I.tuple hq
   have hlen:=r'.length
   obtain ⟨o,ho,hc,n,hd⟩:=pl
   exact call_list_seq p (.inr rfl) ho hc hd (fun h' c' kp e=>fin its r' hz h' c' kp e) (by simp only [List.size_toArray] <;> omega)
noncomputable def tyV(K:PySem.W.Frag)(T:String)(x:V)(H:Hp):Prop:=match x with
 | .str _=>T="str"
 | .int _=>T="int"
 | .ref p=>(T="list"∧∃xs,SqL K H p xs)∨(T="tuple"∧∃o,K.lookup p=some o∧o.cls= .type "tuple"∧o.dict=none)∨
  (T="dict"∧((∃kvs,H p=some (.dK kvs))∨∃kvs,H p=some (.dT kvs)))∨(T="set"∧∃S n,H p=some (.set S n))
 | _=>False
theorem tyV_is{pins:List (Addr×Obj)}{σ:St}{H:Hp}{s:Shared}{T:String}{x:V}{v:Value}(I:Inv X pins σ H s)(r:RelV x v)(ty:tyV X.K T x H):
 s.TypeIs v T∧∀a,v= .ref a→∃ob,s.heap.get? a=some ob∧ob.dict=none:=by
 cases x with
 | str z=>
  obtain ⟨t,rfl⟩:=r
  cases (show T="str" from ty)
  exact ⟨typeIs_str s z t,fun _ e=>nomatch e⟩
 | int i=>
  obtain ⟨t,rfl⟩:=r
  cases (show T="int" from ty)
  exact ⟨typeIs_int s i t,fun _ e=>nomatch e⟩
 | ref p=>
  cases r
  rcases ty with ⟨rfl,xs,hq⟩ | ⟨rfl,o,hk,hc,hd⟩ | ⟨rfl,hk⟩ | ⟨rfl,S,n,hk⟩
  · obtain ⟨its,_,pl,_⟩:=I.list hq
    refine ⟨pl.isList.typeIs,fun a e=>?_⟩
    cases e
    obtain ⟨o,n,e,c,hd,_⟩:=pl
    exact ⟨o,e,hd⟩
  · refine ⟨⟨o,I.kIn p o hk,hc⟩,fun a e=>?_⟩
    cases e
    exact ⟨o,I.kIn _ o hk,hd⟩
  · have z:∃o,s.heap.get? p=some o∧o.ExactDict:=by
     rcases hk with ⟨kvs,hk⟩ | ⟨kvs,hk⟩
     · obtain ⟨_,_,_,_,o,_,_,e,ex,_⟩:=I.hok p _ hk
       exact ⟨o,e,ex⟩
     · obtain ⟨_,_,_,_,o,_,_,e,ex,_⟩:=I.hok p _ hk
       exact ⟨o,e,ex⟩
    obtain ⟨o,e,ex⟩:=z
    refine ⟨⟨o,e,ex.1⟩,fun a e2=>?_⟩
    cases e2
    exact ⟨o,e,ex.2.1⟩
  · obtain ⟨o,_,_,_,e,ex,_⟩:=I.hok p _ hk
    refine ⟨⟨o,e,ex.1⟩,fun a e2=>?_⟩
    cases e2
    exact ⟨o,e,ex.2.1⟩
 | _=>exact False.elim ty
noncomputable def tBM(K:PySem.W.Frag)(T:String)(r:V→List V→Hp→VK→Prop)(to:TE)(t:TA):TE:=fun σ H Q=>to σ H fun x H1=>tyV K T x H1∧t σ H1 fun xs H2=>r x xs H2 Q
variable {o e:Expr} {es:List Expr} {to:TE} {t:TA} {name:Str} {apos cpos:Pos} {T id:String} {r:V→List V→Hp→VK→Prop}
theorem pe_bm(pa:PlainAttrs T)(slot:Slot T name id)(hty:typeOf (.builtin id)=pure (.type "method_descriptor"))(hm:MtR X id r)(ho:PE X o to)(ha:PA X (e::es) t)
 (hbase:attributeBase o name X.env (eval o X.env)=eval o X.env:=by rfl)
 (hfew:((backTo cpos (starEach (e::es) X.env)).all (fun x=>!x.1) && (backToKw cpos (keywordEach [] X.env)).all (fun x=>x.1.isSome)
  && decide ((e::es).length+([]:List Keyword).length+(if ([]:List Keyword).isEmpty then 0 else 1) < 30))=true:=by rfl)
 (hline:(apos.endLine==cpos.line)=true:=by rfl) (hs:starEach (e::es) X.env=(false,eval e X.env)::starEach es X.env:=by rfl) (hplain:(backTo cpos (starEach es X.env)).any (·.1)=false:=by rfl):
 PE X (.Call (.Attribute o name apos) (e::es) [] cpos) (tBM X.K T r to t):=by
 intro pins s σ H Q I h
 refine wpAny_Call_method_late hbase hfew hline rfl (thn (ho pins s σ H _ I h) fun v s1 hq_=>?_)
 obtain ⟨x,H1,I1,r1,ty,q1⟩:=hq_
 obtain ⟨h1,h2⟩:=tyV_is I1 r1 ty
 refine ⟨T,id,pa,slot,hty,h1,h2,?_⟩
 have hA:=ha cpos pins s1 σ H1 _ I1 q1
 rw [hs]at hA ⊢
 refine Calls.callWith_builtin (by show (false || (backTo cpos (starEach es X.env)).any (·.1))=false;rw [hplain] <;> rfl) (Calls.evalArgs_plain ?_)
 exact thn hA fun us s2 ⟨vs,H2,I2,r2,q2⟩=>hm pins s2 σ H2 x vs v us Q I2 r1 r2 q2
end
end L2
namespace L2
noncomputable def MtM(X:Cx)(id:String)(r:V→List V→Hp→VK→Prop):Prop:=
 ∀(pins:List (Addr×Obj)) (s:Shared) (σ:St) (H:Hp) (x:V) (xs:List V) (v:Value) (us:List Value) (Q:VK),Inv X pins σ H s→RelV x v→Vals xs us→r x xs H Q→
   wpAny (model X.prog X.w) X.A (call (.builtin id) (v::us)) (EP X pins σ Q) X.xe s
theorem Vals.one:∀{x:V} {us:List Value},Vals [x] us→∃u,us=[u]∧RelV x u
 | _,_,.cons r .nil=>⟨_,rfl,r⟩
theorem Vals.rep{xs:List V}{us:List Value}(h:Vals xs us):∀k:Nat,Vals (List.replicate k xs).flatten (List.replicate k us).flatten
 | 0=> .nil
 | k+1=>by
  rw [List.replicate_succ,List.replicate_succ,List.flatten_cons,List.flatten_cons]
  exact Vals.append h (Vals.rep h k)
theorem foldl_rep(its:List Value):∀(k:Nat) (acc:List Value),
 List.foldl (fun x1 x2=>x1++x2) acc.toArray (List.replicate k its.toArray)=(acc++(List.replicate k its).flatten).toArray
 | 0,acc=>by simp
 | k+1,acc=>by
  have e:acc.toArray++its.toArray=(acc++its).toArray:=by simp
  have e2:(acc++its)++(List.replicate k its).flatten=acc++(List.replicate (k+1) its).flatten:=by
   rw [List.replicate_succ,List.flatten_cons,List.append_assoc]
  rw [← e2,← foldl_rep its k (acc++its),← e,List.replicate_succ,List.foldl_cons]
section
variable {X:Cx} {pins:List (Addr×Obj)} {σ:St} {H:Hp} {s:Shared} {l b:Addr} {xs ys zs:List V}
theorem Inv.lset{its its':List Value}{n:Nat}{f:Array Value→Array Value}{t':Nat}(I:Inv X pins σ H s)(hH:H l=some (.lst xs))
 (e:s.heap.get? l=some {cls:= .type "list",data:= .seq its.toArray n}) (hf:f its.toArray=its'.toArray) (hv:Vals ys its') (hz:ys.length≤sizeLine):
 Inv X pins σ (upd H l (.lst ys)) {s with heap:=s.heap.update l (Obj.mapSeq f),toks:=t'}:=by
 have q:=PySem.IsL.update e f
 rw [hf]at q
 refine I.write (x:=l) (e:=l) (by rw [hH];exact trivial) (.inl rfl) (fun b' u hb hu=>(Heap.get?_update_other s.heap (Obj.mapSeq f) (Ne.symm hb)).trans hu) ⟨_,q⟩ ?_
 exact ⟨hz,its',_,hv,q⟩
theorem Inv.lnew{its:List Value}{t':Nat}(I:Inv X pins σ H s)(hv:Vals ys its)(hz:ys.length≤sizeLine):
 Inv X pins σ (upd H s.heap.objs.size (.lst ys)) {s with heap:=s.heap.push {cls:= .type "list",data:= .seq its.toArray},toks:=t'}:=
 I.laid (fun _ _ q=>Heap.get?_push_of_some _ q) (Nat.le_refl _) ⟨hz,its,0,hv,Heap.get?_push_size _ rfl⟩
theorem Inv.fresh(I:Inv X pins σ H s):H s.heap.objs.size=none:=I.hok.fresh (Nat.le_refl _)
theorem Inv.lstM(I:Inv X pins σ H s)(hH:H l=some (.lst xs)):xs.length≤sizeLine∧∃(its:List Value) (n:Nat),Vals xs its∧xs.length=its.length∧s.heap.get? l=some {cls:= .type "list",data:= .seq its.toArray n}:=by
 obtain ⟨z,its,n,r,e⟩:=I.hok l _ hH
 exact ⟨z,its,n,r,r.length,e⟩
theorem notLongL{n:Nat}(h:n≤sizeLine):Builtin.List.listTooLong n=false:=by
 unfold Builtin.List.listTooLong
 exact decide_eq_false (by omega)
end
section
variable {X:Cx}
noncomputable def rAppend:V→List V→Hp→VK→Prop:=fun x vs H Q=>∃l xs y,x= .ref l∧vs=[y]∧H l=some (.lst xs)∧xs.length < sizeLine∧Q .non (upd H l (.lst (xs++[y])))
theorem mt_append:MtM X "list.append" rAppend:=by
 intro pins s σ H x vs v us Q I rx rv h
 obtain ⟨l,xs,y,rfl,rfl,hH,hz,q⟩:=h
 cases rx
 obtain ⟨u,rfl,ru⟩:=rv.one
 obtain ⟨z,its,n,r,hl,e⟩:=I.lstM hH
 refine call_meets F.slot_list_append ⟨_,e,rfl⟩ F.entry_list_append (F.args_list_append_2 _ _) (PySem.list_append l its.toArray n u (by rw [List.size_toArray];omega)) ⟨e,?_⟩
 refine ⟨.non,_,I.lset (its':=its++[u]) hH e (by simp) (r.append (.cons ru .nil)) ?_,rfl,q⟩
 rw [List.length_append,List.length_singleton]
 omega
noncomputable def rCat:R2:=fun x y H Q=>∃l b xs zs,x= .ref l∧y= .ref b∧H l=some (.lst xs)∧H b=some (.lst zs)∧xs.length+zs.length≤sizeLine∧∀p,H p=none→Q (.ref p) (upd H p (.lst (xs++zs)))
theorem op_cat:OpR X (binaryOp .Add) rCat:=by
 intro pins s σ H x y v u Q I rx ry h
 obtain ⟨l,b,xs,zs,rfl,rfl,hH,hB,hz,q⟩:=h
 cases rx
 cases ry
 obtain ⟨z,its,n,r,hl,e⟩:=I.lstM hH
 obtain ⟨z2,its2,n2,r2,hl2,e2⟩:=I.lstM hB
 refine PySem.P.add_list e e2 ?_ (by rw [List.size_toArray,List.size_toArray];omega)
 have ea:its.toArray++its2.toArray=(its++its2).toArray:=by simp
 rw [ea]
 exact ⟨.ref _,_,I.lnew (t':=s.toks) (r.append r2) (by rw [List.length_append];omega),rfl,q _ I.fresh⟩
noncomputable def rRep:R2:=fun x y H Q=>∃l k xs,x= .ref l∧y= .int k∧H l=some (.lst xs)∧-(2 ^ 63)≤k∧k < 2 ^ 63∧xs.length * k.toNat≤sizeLine∧
 ∀p,H p=none→Q (.ref p) (upd H p (.lst (List.replicate k.toNat xs).flatten))
theorem len_rep{α:Type}(xs:List α)(k:Nat):(List.replicate k xs).flatten.length=k * xs.length:=by
 induction k with
 | zero=>simp
 | succ k ih=>rw [List.replicate_succ,List.flatten_cons,List.length_append,ih,Nat.succ_mul,Nat.add_comm]
theorem op_rep:OpR X (binaryOp .Mult) rRep:=by
 intro pins s σ H x y v u Q I rx ry h
 obtain ⟨l,k,xs,rfl,rfl,hH,h1,h2,hz,q⟩:=h
 cases rx
 obtain ⟨t,rfl⟩:=ry
 obtain ⟨z,its,n,r,hl,e⟩:=I.lstM hH
 have hlen:its.toArray.size * k.toNat≤sizeLine:=by rw [List.size_toArray,← hl];exact hz
 have hcap:¬its.toArray.size * k.toNat > (2 ^ 63 - 1) / 8:=by
  have:(sizeLine:Nat)≤(2 ^ 63 - 1) / 8:=by decide
  omega
 have hfit:¬(!Builtin.List.listFitsIndex k)=true:=by
  rw [fitsIndex_both h1 h2]
  exact Bool.false_ne_true
 have hlong:¬Builtin.List.listTooLong (its.toArray.size * k.toNat)=true:=by
  rw [notLongL hlen]
  exact Bool.false_ne_true
 have hnew:List.foldl (fun x1 x2=>x1++x2) #[] (List.replicate (if its.toArray.isEmpty=true then 0 else k.toNat) its.toArray)=(List.replicate k.toNat its).flatten.toArray:=by
  have f0:∀m:Nat,List.foldl (fun x1 x2=>x1++x2) #[] (List.replicate m its.toArray)=(List.replicate m its).flatten.toArray:=fun m=>by
   have:=foldl_rep its m []
   rw [List.nil_append]at this
   exact this
  rw [f0]
  cases its with
  | nil=>simp
  | cons a r'=>rw [if_neg (by simp)]
 refine wpAny_binaryOp_repeat_ref (T:="list") (U:="int") (by decide) ⟨_,e,rfl⟩ (fun s'=>typeIs_int s' k t) noFill_list_mul F.fills_int_mul F.slot_int_rmul repeat_list F.slot_int_index.lookup
  (call_meets F.slot_int_rmul (typeIs_int s k t) F.entry_int_rmul (F.args_int_rmul_2 _ _) (int___rmul___int_list k t l its.toArray n)
   ⟨e,rfl,⟨_,e,rfl⟩,call_meets F.slot_list_mul ⟨_,e,rfl⟩ F.entry_list_mul (F.args_list_mul_2 _ _) (AutoListH.list___mul___list_int_3 l its.toArray n k t hfit hcap hlong) ⟨e,?_⟩⟩)
 rw [hnew]
 exact ⟨.ref _,_,I.lnew (t':=s.toks) (r.rep k.toNat) (by rw [len_rep,Nat.mul_comm];exact hz),rfl,q _ I.fresh⟩
end
end L2
namespace Att
open PySem PySem.W PySem.Calls PyProof.Rows
theorem ints_of_wellAll{P:Params}{h:Heap}:∀(ns:List Int) (vs:List Value),WellAll P h vs (ns.map WData.int)→IntsAre vs ns:=by
 intro ns
 induction ns with
 | nil=>
  intro vs w
  rw [List.map_nil]at w
  cases w
  exact .nil
 | cons n ns ih=>
  intro vs w
  rw [List.map_cons]at w
  cases w with
  | cons a b=>
   cases a
   exact .cons _ _ (ih _ b)
theorem script_of{l:OpenLaw}{n:Nat}(hn:l.most=some n){P:Params}{h:Heap}{args:List WData}{vals:List Value}
 (hpre:l.row.toRowW.claim.pre args=true) (hwl:WellAll P h vals args):
 ∃a vs ns,vals=[Value.ref a]∧args=[WData.list (ns.map WData.int)]∧h.get? a=some {cls:= .type "list",data:= .seq vs.toArray}∧IntsAre vs ns∧ns.length≤n:=by
 have hsh:WShape.hasAll [] args [.list .int]=true:=(pre_splitW hpre).1
 have hc:l.pre.holds [] {args:=args}=true:=(pre_splitW hpre).2
 obtain ⟨d,r,rfl,h1,h2⟩:=hasAllW_cons hsh
 obtain rfl:=hasAllW_nil h2
 obtain ⟨xs,rfl,h3⟩:=hasW_list h1
 obtain ⟨ns,rfl⟩:=items_int h3
 have hlen:ns.length≤n:=by
  unfold OpenLaw.pre at hc
  have h4:(WTm.not (.lt (.lit (.int (n:Int))) (.len (.arg 0)))).holds [] {args:=[.list (ns.map .int)]}=true:=by
   have h4:=(holds_andW hc).1
   rw [hn]at h4
   exact h4
  have h5:=condW_of h4 (w_not (w_lt w_lit (w_len_list (w_arg rfl))))
  rw [List.length_map]at h5
  refine Nat.le_of_not_lt fun q=>?_
  have q':(n:Int) < ((ns.length:Nat):Int):=by omega
  first
   | (rw [decide_eq_true q']at h5;exact absurd h5 (by decide))
   | (simp at h5;omega)
 cases hwl with
 | cons w1 w2=>
  cases w2
  cases w1 with
  | list ho hall=>exact ⟨_,_,ns,rfl,rfl,ho,ints_of_wellAll ns _ hall,hlen⟩
theorem post_true(l:OpenLaw)(args:List WData):l.row.toRowW.claim.post args (.bool true) args=true:=
 postW_of (r:=l.row.toRowW) (X:=(true==true))
  (show WShape.has [] (.bool true) .bool=true by first | rfl | decide | simp [WShape.has,WShape.arms,WShape.armsAll])
  (show (WTm.eq .res (.lit (.bool true))).value [] {args:=args,res:=some (.bool true),after:=args}=some (.bool (true==true)) from w_eq_bool (w_res rfl) w_lit) rfl
theorem attach_call{l:OpenLaw}{n:Nat}{q:Program}{loose:List Str}{XP:(Str→Option Value)→Heap→Prop}{YP:World→Heap→Prop}{d:DefRec}
 (hn:l.most=some n) (hdf:d.params.defaults=[])
 (call:∀(w:World) (s₀ s₁:Shared) (mg mb:Str→Option Value) (fa:Addr) (o:Obj) (pm cd doc:Value) (a:Addr) (vs:List Value) (ns:List Int),
  Ground q loose [] XP w s₀ mg mb s₁.heap→YP w s₁.heap→
  s₁.heap.get? fa=some o→o.data= .func (docDef d.name d.params d.body d.scope pm cd doc)→s₁.heap.CodeRec cd d.name→mg d.name=some (.ref fa)→
  s₁.heap.get? a=some {cls:= .type "list",data:= .seq vs.toArray}→IntsAre vs ns→ns.length≤n→s₁.gens=#[]→
  codeAny (model l.prog w) callerA (.call (.ref fa) ⟨[.ref a],[]⟩) (fun r s'=>r= .ok (.ret (.bool true))∧OldK s₁.heap s'.heap∧s'.os=s₁.os∧AllBare s'.gens) s₁):
 WalkO q loose XP YP l.row.toRowW d [] (fun f vs=>PySem.call f vs):=by
 intro w s₀ s₁ mg mb G Y fa o pm cd doc dV kV ho hd hcd hD hmg hg args vals as hpre hlay hrd hwl hlo
 obtain rfl:dV= .none:=Dflts.none hD hdf
 obtain rfl:kV= .none:=Dflts.noKw hD
 obtain ⟨a,vs,ns,rfl,rfl,hobj,hints,hlen⟩:=script_of hn hpre hwl
 refine enter_call (codeAny_mono (call w s₀ s₁ mg mb fa o pm cd doc a vs ns G Y ho (fd_plain hd) hcd hmg hobj hints hlen hg) fun r s' hq=>?_)
 obtain ⟨rfl,h2,h3,h4⟩:=hq
 exact ⟨.inl ⟨.bool true,.bool true,[],rfl,fun _=>rfl,.bool true,post_true l _,fun _=>⟨List.Pairwise.nil,fun _ hm=>(nomatch hm)⟩⟩,h2,h3,h4⟩
end Att
namespace L2
theorem vals_ints:∀{vs:List Value} {ns:List Int},IntsAre vs ns→Vals (ns.map V.int) vs
 | _,_,.nil=> .nil
 | _,_,.cons n t h=> .cons ⟨t,rfl⟩ (vals_ints h)
noncomputable def Only(H:Hp):Prop:=∀b,H b=none∨∃o xs,H b=some (.frz o (.lst xs))
theorem law_call{P:Program}{w:World}{K:PySem.W.Frag}{mg mb:Str→Option Value}{CX:CXT}{k:Nat}{fa a:Addr}{fd:FuncData}{x:Str}{sp:Sp}{s₁:Shared}{vs:List Value}{ns:List Int}
 (KX:K.In s₁.heap) (hns:s₁.heap.Ns mainGlobals mg) (hb:s₁.heap.Ns builtinsNs mb) (hbb:∀x:Str,x≠"__name__"→mb x=bootBuiltins x) (hlim:s₁.heap.NoLimit) (hg:s₁.gens=#[])
 (ha:s₁.heap.get? a=some {cls:= .type "list",data:= .seq vs.toArray}) (hi:IntsAre vs ns) (hl:ns.length≤sizeLine) (hr:Room k callerA)
 (F:∀base:Heap,K.In base→base.Ns mainGlobals mg→FnOk P w K mg base CX k fa fd [x] sp) (hbind:∀(s:Shared) (u:Value),BindsTo s fd ⟨[u],[]⟩ [(x,u)])
 (hsp:∀H:Hp,Only H→SqL K H a (ns.map V.int)→sp [.ref a] H (fun v _=>v= .bl true) fun _ _ _=>False)
 (hCX:∀H e s',CX [] H s₁ (fun _ _ _=>False) e s'→False):
 codeAny (model P w) callerA (.call (.ref fa) ⟨[.ref a],[]⟩) (fun r s'=>r= .ok (.ret (.bool true))∧OldK s₁.heap s'.heap∧s'.os=s₁.os∧AllBare s'.gens) s₁:=by
 have rv:=vals_ints hi
 have lenV:=hi.length
 have core:∀H:Hp,Only H→SqL K H a (ns.map V.int)→HOk P w H s₁.heap→(∀b,H b≠none→b=a)→(H a≠none→K.lookup a=none)→
  codeAny (model P w) callerA (.call (.ref fa) ⟨[.ref a],[]⟩) (fun r s'=>r= .ok (.ret (.bool true))∧OldK s₁.heap s'.heap∧s'.os=s₁.os∧AllBare s'.gens) s₁:=by
  intro H hO hS hok hA hK
  have base_of:∀{b:Addr} {o:Obj},s₁.heap.get? b=some o→H b=none→(hidT s₁.heap H).get? b=some o:=fun e n=>hidT_get e n
  have noA:∀{b:Addr} {o:Obj} {es:Array DictEntry} {ep:Nat},s₁.heap.get? b=some o→o.data= .dict es ep→H b=none:=fun {b o es ep} e d=>by
   cases q:H b with
   | none=>rfl
   | some u=>
    have e':b=a:=hA b (by rw [q];simp)
    subst e'
    rw [ha]at e;cases e
    have d':Data.seq vs.toArray _=Data.dict es ep:=d
    cases d'
  have nsK:∀{b:Addr} {m:Str→Option Value},s₁.heap.Ns b m→(hidT s₁.heap H).Ns b m:=fun {b m} ⟨o,es,ep,e,d,r⟩=>⟨o,es,ep,base_of e (noA e d),d,r⟩
  have hKb:K.In (hidT s₁.heap H):=fun b o e=>base_of (KX b o e) (by
   cases q:H b with
   | none=>rfl
   | some u=>
    have e':b=a:=hA b (by rw [q];simp)
    subst e'
    rw [hK (by rw [q];simp)]at e;cases e)
  have hM:Mod K mg (hidT s₁.heap H):=⟨hKb,nsK hns,⟨mb,nsK hb,hbb⟩,let ⟨mc,h1,h2⟩:=hlim;⟨mc,nsK h1,h2⟩⟩
  have e0:Env0 P w K mg (hidT s₁.heap H) callerA [] s₁ H:=⟨rfl,hM,fun b o e=>of_hidT e,Nat.le_of_eq (hidT_size _ _),trivial,fun b hb=>absurd (show b∈([]:List Addr) from hb) (by simp),hok,.of_eq hg⟩
  refine codeAny_mono ((F _ hKb (nsK hns)).run callerA [] s₁ H ⟨[.ref a],[]⟩ [.ref a] [.ref a] _ _ hr e0 (hbind s₁ (.ref a)) (.cons rfl .nil) (hsp H hO hS)) fun r s' h=>?_
  cases r with
  | error e=>exact (hCX H e s' h).elim
  | ok fl=>
   cases fl with
   | next=>exact False.elim h
   | brk=>exact False.elim h
   | cont=>exact False.elim h
   | ret u=>
    obtain ⟨v,H',os,bare,un,hok',r',q⟩:=h
    have q':v= .bl true:=q
    subst q'
    obtain rfl:u=Value.bool true:=r'
    refine ⟨rfl,OldK.of_keep fun b o e=>?_,os,bare⟩
    cases q:H b with
    | none=>exact un.keep b o e q (by intro z;exact absurd (show b∈([]:List Addr) from z) (by simp)) (by simp)
    | some u=>
     rcases hO b with z | ⟨ob,xs,z⟩
     · rw [q]at z;cases z
     · have z2:=un.frzs b ob _ z
       obtain ⟨e1,_⟩:=hok b _ z
       obtain ⟨e2,_⟩:=hok' b _ z2
       rw [e]at e1;cases e1
       exact e2
 cases hk:K.lookup a with
 | some o=>
  have e:=KX a o hk
  rw [ha]at e
  cases e
  refine core (fun _=>none) (fun _=> .inl rfl) (.inr ⟨_,vs.toArray,_,hk,rfl,rfl,rfl,by rw [List.size_toArray,lenV];exact hl,by simpa using rv⟩) (fun b u z=>by have z':(none:Option HO)=some u:=z;cases z') (fun b z=>absurd rfl z) fun z=>absurd rfl z
 | none=>
  refine core (fun b=>if b=a then some (.frz {cls:= .type "list",data:= .seq vs.toArray} (.lst (ns.map V.int))) else none) (fun b=>?_) (.inl (.inr ⟨{cls:= .type "list",data:= .seq vs.toArray},if_pos rfl⟩)) (fun b u z=>?_) (fun b z=>?_) fun _=>hk
  · by_cases hb:b=a
    · exact .inr ⟨_,_,if_pos hb⟩
    · exact .inl (if_neg hb)
  · by_cases hb:b=a
    · have z':=(if_pos hb).symm.trans z
      cases z'
      subst hb
      exact ⟨ha,by rw [List.length_map];exact hl,vs,_,rv,ha⟩
    · have z':=(if_neg hb).symm.trans z
      cases z'
  · by_cases hb:b=a
    · exact hb
    · exact absurd (if_neg hb) z
end L2
namespace L2
theorem walk_of{l:PySem.W.OpenLaw}{n k:Nat}{q:Program}{loose:List Str}{XP:(Str→Option Value)→Heap→Prop}{YP:World→Heap→Prop}{d:DefRec}{K:Params→PySem.W.Frag}{CX:World→CXT}{sp:World→Sp}{x:Str}
 (hn:l.most=some n) (hn2:n≤sizeLine) (hdf:d.params.defaults=[]) (hr:Room k callerA)
 (hY:∀(w:World) (h:Heap),YP w h→(K w.params).In h)
 (F:∀(w:World) (mg:Str→Option Value) (fa:Addr) (h:Heap),(K w.params).In h→h.Ns mainGlobals mg→mg d.name=some (.ref fa)→
  ∃fd:FuncData,(∀(s:Shared) (u:Value),BindsTo s fd ⟨[u],[]⟩ [(x,u)])∧
   ∀base:Heap,(K w.params).In base→base.Ns mainGlobals mg→FnOk l.prog w (K w.params) mg base (CX w) k fa fd [x] (sp w))
 (hsp:∀(w:World) (H:Hp) (a:Addr) (ns:List Int),ns.length≤n→Only H→SqL (K w.params) H a (ns.map V.int)→sp w [.ref a] H (fun v _=>v= .bl true) fun _ _ _=>False)
 (hCX:∀(w:World) (H:Hp) (s:Shared) (e:Value) (s':Shared),CX w [] H s (fun _ _ _=>False) e s'→False):
 PySem.W.WalkO q loose XP YP l.row.toRowW d [] (fun f vs=>PySem.call f vs):=by
 refine Att.attach_call hn hdf fun w s₀ s₁ mg mb fa o pm cd doc a vs ns G Y ho hd hcd hmg hobj hints hlen hg=>?_
 have KX:=hY w _ Y
 obtain ⟨fd,hb,hF⟩:=F w mg fa _ KX G.T.g hmg
 exact law_call KX G.T.g G.T.b G.T.builtins G.T.nolimit hg hobj hints (Nat.le_trans hlen hn2) hr hF hb (fun H hO hS=>hsp w H a ns hlen hO hS) fun H e s'=>hCX w H s₁ e s'
end L2
namespace L2
noncomputable def inClass(s:Stmt)(j:Nat):Stmt:=match s with
 | .ClassDef _ _ _ body _ _ _ _ _ _ _=>body.getD j (.Pass ⟨0,0,0,0⟩)
 | _=> .Pass ⟨0,0,0,0⟩
noncomputable def defArgs(s:Stmt):Arguments:=match s with
 | .FunctionDef _ a _ _ _ _ _ _ _ _=>a
 | _=>{posonlyargs:=[],args:=[],vararg:=none,kwonlyargs:=[],kw_defaults:=[],kwarg:=none,defaults:=[]}
noncomputable def defBody(s:Stmt):List Stmt:=match s with
 | .FunctionDef _ _ b _ _ _ _ _ _ _=>b
 | _=>[]
noncomputable def defScope(s:Stmt):Scope:=match s with
 | .FunctionDef _ _ _ _ _ _ sc _ _ _=>sc
 | _=>{kind:= .function,names:=[],isGenerator:=false,isCoroutine:=false}
structure Fun(K:PySem.W.Frag)(x qual:Str)(st:Stmt)(f:Addr)(fd:FuncData):Prop where
 ex:∃(oc:Value) (od:Option Addr) (kV doc pm:Value) (an:Option Addr) (cdv ct:Value) (osl:Array (Option Value)),
  fd=PySem.W.fnOf x qual (defArgs st) (defBody st) (defScope st) .none kV doc pm an cdv ct∧K.lookup f=some ⟨oc,od,.func fd,osl⟩∧PySem.W.codeIn K cdv qual=true
 kp:PySem.W.keepIn K (.ref f)=true
section
variable {P:Program} {w:World} {K:PySem.W.Frag} {mg:Str→Option Value} {base:Heap}
theorem Fun.binds{x qual:Str}{st:Stmt}{f:Addr}{fd:FuncData}{ps:List Str}(F:Fun K x qual st f fd)
 (h:∀(kV doc pm:Value) (an:Option Addr) (cdv ct:Value) (us:List Value),us.length=ps.length→bindArgs (PySem.W.fnOf x qual (defArgs st) (defBody st) (defScope st) .none kV doc pm an cdv ct) ⟨us,[]⟩=pure (ps.zip us)):Binds K fd ps []:=by
 obtain ⟨oc,od,kV,doc,pm,an,cdv,ct,osl,rfl,lk,hcd⟩:=F.ex
 exact .all (h kV doc pm an cdv ct)
theorem fun_mk{x qual:Str}{st:Stmt}{f:Addr}{oc:Value}{od an:Option Addr}{osl:Array (Option Value)}{kV doc pm cdv ct:Value}(l:K.lookup f=some ⟨oc,od,.func (PySem.W.fnOf x qual (defArgs st) (defBody st) (defScope st) .none kV doc pm an cdv ct),osl⟩)
 (c:PySem.W.codeIn K cdv qual=true) (k:PySem.W.keepIn K (.ref f)=true):Fun K x qual st f (PySem.W.fnOf x qual (defArgs st) (defBody st) (defScope st) .none kV doc pm an cdv ct):=⟨⟨oc,od,kV,doc,pm,an,cdv,ct,osl,rfl,l,c⟩,k⟩
end
theorem hu_of{A:Around}{k:Nat}(hr:Room k A):A.units+1 < cLine:=Nat.lt_of_le_of_lt (Nat.add_le_add_left (by decide:1≤64) _) hr.units
section
variable {X:Cx}
theorem pv(i:Nat){x:Str}{pos:Pos}(hN:X.N[i]?=some x:=by rfl)(hv:Vis X.env.scope x:=by first | exact Or.inl rfl | exact Or.inr (Or.inl rfl) | exact Or.inr (Or.inr rfl))(hd:(x==("__debug__":Str))=false:=by decide)
 (hcd:(x==("__classdict__":Str))=false:=by decide):PE X (.Name x pos) (tVar i):=pe_var hN hv hd hcd
end
noncomputable def Same(H H':Hp):Prop:=∀b o,H b=some o→H' b=some o
theorem Same.refl(H:Hp):Same H H:=fun _ _ h=>h
theorem Same.trans{H H1 H2:Hp}(a:Same H H1)(b:Same H1 H2):Same H H2:=fun c o h=>b c o (a c o h)
theorem Same.seq{K:PySem.W.Frag}{H H':Hp}{a:Addr}{xs:List V}(e:Same H H')(h:SqL K H a xs):SqL K H' a xs:=by
 rcases h with (h | ⟨o,h⟩) | h
 · exact .inl (.inl (e _ _ h))
 · exact .inl (.inr ⟨o,e _ _ h⟩)
 · exact .inr h
end L2
namespace L2
section
variable {κ:Type} [DecidableEq κ]
noncomputable def valV(kvs:List (κ×V))(k:κ):Option V:=(kvs.find? fun kv=>decide (kv.1=k)).map (·.2)
noncomputable def putK(kvs:List (κ×V))(k:κ)(v:V):List (κ×V):=
 if (kvs.any fun kv=>decide (kv.1=k))=true then kvs.map (fun kv=>if kv.1=k then (kv.1,v) else kv) else kvs++[(k,v)]
noncomputable def dropK(kvs:List (κ×V))(k:κ):List (κ×V):=kvs.filter fun kv=>decide (kv.1≠k)
theorem valV_pos{p:κ×V}{r:List (κ×V)}{k:κ}(e:p.1=k):valV (p::r) k=some p.2:=by simp [valV,List.find?_cons,e]
theorem valV_neg{p:κ×V}{r:List (κ×V)}{k:κ}(e:¬p.1=k):valV (p::r) k=valV r k:=by simp [valV,List.find?_cons,e]
theorem valV_any(k:κ):∀kvs:List (κ×V),(kvs.any fun kv=>decide (kv.1=k))=(valV kvs k).isSome
 | []=>rfl
 | p::r=>by
  rw [List.any_cons]
  by_cases e:p.1=k
  · simp only [valV_pos e,decide_eq_true e,Bool.true_or,Option.isSome_some]
  · rw [valV_neg e,decide_eq_false e,Bool.false_or];exact valV_any k r
theorem valV_map(k j:κ)(y:V):∀kvs:List (κ×V),valV (kvs.map fun kv=>if kv.1=k then (kv.1,y) else kv) j=(valV kvs j).map fun x=>if j=k then y else x
 | []=>rfl
 | p::r=>by
  have ih:=valV_map k j y r
  rw [List.map_cons]
  by_cases h:p.1=k
  · rw [if_pos h]
    by_cases e:p.1=j
    · rw [valV_pos (p:=(p.1,y)) e,valV_pos e,Option.map_some,if_pos (e.symm.trans h)]
    · rw [valV_neg (p:=(p.1,y)) e,valV_neg e,ih]
  · rw [if_neg h]
    by_cases e:p.1=j
    · rw [valV_pos (p:=p) e,valV_pos e,Option.map_some,if_neg (fun z=>h (e.trans z))]
    · rw [valV_neg (p:=p) e,valV_neg e,ih]
theorem valV_snoc(k j:κ)(y:V):∀kvs:List (κ×V),valV kvs k=none→valV (kvs++[(k,y)]) j=if j=k then some y else valV kvs j
 | [],_=>by
  by_cases e:k=j
  · rw [if_pos e.symm];exact valV_pos (p:=(k,y)) e
  · rw [if_neg (fun z=>e z.symm)];exact valV_neg (p:=(k,y)) e
 | p::r,hn=>by
  rw [List.cons_append]
  have hk:¬p.1=k:=fun z=>by rw [valV_pos z]at hn;cases hn
  rw [valV_neg hk]at hn
  have ih:=valV_snoc k j y r hn
  by_cases e:p.1=j
  · rw [valV_pos e,valV_pos e,if_neg (fun z=>hk (e.trans z))]
  · rw [valV_neg e,valV_neg e,ih]
theorem valV_put(kvs:List (κ×V))(k j:κ)(y:V):valV (putK kvs k y) j=if j=k then some y else valV kvs j:=by
 unfold putK
 by_cases a:(kvs.any fun kv=>decide (kv.1=k))=true
 · rw [if_pos a,valV_map]
   rw [valV_any]at a
   by_cases e:j=k
   · obtain ⟨x,hx⟩:=Option.isSome_iff_exists.mp a
     rw [if_pos e,e,hx,Option.map_some,if_pos rfl]
   · rw [if_neg e]
     cases valV kvs j with
     | none=>rfl
     | some x=>rw [Option.map_some,if_neg e]
 · rw [if_neg a]
   refine valV_snoc k j y kvs ?_
   rw [valV_any]at a
   cases q:valV kvs k with
   | none=>rfl
   | some x=>rw [q]at a;exact (a rfl).elim
theorem length_putK(kvs:List (κ×V))(k:κ)(v:V):(putK kvs k v).length≤kvs.length+1:=by
 unfold putK
 split
 · rw [List.length_map];omega
 · rw [List.length_append,List.length_cons,List.length_nil];omega
theorem putK_new{kvs:List (κ×V)}{k:κ}(v:V)(h:valV kvs k=none):putK kvs k v=kvs++[(k,v)]:=by
 unfold putK
 rw [valV_any,h]
 exact if_neg (by decide)
theorem RelO.isSome_eq{o:Option V}{u:Option Value}(r:RelO o u):o.isSome=u.isSome:=by
 cases o with
 | none=>cases u with
  | none=>rfl
  | some _=>exact (show False from r).elim
 | some _=>cases u with
  | none=>exact (show False from r).elim
  | some _=>rfl
theorem RelO.getD{o:Option V}{u:Option Value}{d:V}{d':Value}(r:RelO o u)(rd:RelV d d'):RelV (o.getD d) (u.getD d'):=by
 cases o with
 | none=>cases u with
  | none=>exact rd
  | some _=>exact (show False from r).elim
 | some _=>cases u with
  | none=>exact (show False from r).elim
  | some _=>exact r
theorem KV.val{kvs:List (κ×V)}{vs:List (κ×Value)}(r:KV kvs vs)(k:κ):RelO (valV kvs k) (valueAt vs k):=by
 unfold KV at r
 induction r with
 | nil=>exact True.intro
 | @cons p q ps qs h t ih=>
  obtain ⟨h1,h2⟩:=h
  by_cases e:p.1=k
  · have e':q.1=k:=h1.symm.trans e
    have b:valueAt (q::qs) k=some q.2:=by simp [valueAt,List.find?_cons,e']
    rw [valV_pos e,b];exact h2
  · have e':¬q.1=k:=fun z=>e (h1.trans z)
    have b:valueAt (q::qs) k=valueAt qs k:=by simp [valueAt,List.find?_cons,e']
    rw [valV_neg e,b];exact ih
theorem KV.any{kvs:List (κ×V)}{vs:List (κ×Value)}(r:KV kvs vs)(k:κ):(kvs.any fun kv=>decide (kv.1=k))=vs.any fun kv=>decide (kv.1=k):=by
 unfold KV at r
 induction r with
 | nil=>rfl
 | cons h t ih=>rw [List.any_cons,List.any_cons,ih,h.1]
theorem KV.repl{kvs:List (κ×V)}{vs:List (κ×Value)}(r:KV kvs vs)(k:κ){y:V}{u:Value}(ry:RelV y u):
 KV (kvs.map fun kv=>if kv.1=k then (kv.1,y) else kv) (vs.map fun kv=>if kv.1=k then (kv.1,u) else kv):=by
 unfold KV at r ⊢
 induction r with
 | nil=>exact .nil
 | @cons p q ps qs h t ih=>
  rw [List.map_cons,List.map_cons]
  refine .cons ?_ ih
  obtain ⟨h1,h2⟩:=h
  by_cases e:p.1=k
  · rw [if_pos e,if_pos (h1.symm.trans e)];exact ⟨h1,ry⟩
  · rw [if_neg e,if_neg (fun z=>e (h1.trans z))];exact ⟨h1,h2⟩
theorem KV.put{kvs:List (κ×V)}{vs:List (κ×Value)}(r:KV kvs vs)(k:κ){y:V}{u:Value}(ry:RelV y u):KV (putK kvs k y) (stored vs k u):=by
 unfold putK stored
 rw [r.any k]
 by_cases e:(vs.any fun kv=>decide (kv.1=k))=true
 · rw [if_pos e,if_pos e];exact r.repl k ry
 · rw [if_neg e,if_neg e];exact Paired.snoc r ⟨rfl,ry⟩
theorem KV.length{kvs:List (κ×V)}{vs:List (κ×Value)}(r:KV kvs vs):kvs.length=vs.length:=Paired.length r
end
theorem kV_is{P:Program}{w:World}{k:Key}{u:Value}(r:RelV (kV k) u):(mixKind P w).is k u=true:=by
 cases k with
 | inl i=>obtain ⟨t,e⟩:=(show ∃t,u=Value.int i t from r);subst e;exact mixKind_int P w i t
 | inr x=>obtain ⟨t,e⟩:=(show ∃t,u=Value.str x t from r);subst e;exact mixKind_str P w x t
theorem items_are{P:Program}{w:World}:∀{ks:List Key} {us:List Value},Vals (ks.map kV) us→ItemsAre (mixKind P w) ks us
 | [],_,r=>by rw [List.map_nil]at r;cases r;exact .nil
 | k::ks,_,r=>by
  rw [List.map_cons]at r
  cases r with
  | cons h t=>exact .cons (kV_is h) (items_are t)
noncomputable abbrev KT(H:Hp):List (List Key×V)→List (List Key×Addr×Value)→Prop:=Paired fun p q=>p.1=q.1∧H q.2.1=some (.tup (p.1.map kV))∧RelV p.2 q.2.2
theorem KT.val{H:Hp}{kvs:List (List Key×V)}{xs:List (List Key×Addr×Value)}(r:KT H kvs xs)(k:List Key):RelO (valV kvs k) ((atKey xs k).map (·.2)):=by
 induction r with
 | nil=>exact True.intro
 | @cons p q ps qs h t ih=>
  obtain ⟨h1,_,h2⟩:=h
  by_cases e:p.1=k
  · have e':q.1=k:=h1.symm.trans e
    have b:atKey (q::qs) k=some q.2:=by simp [atKey,List.find?_cons,e']
    rw [valV_pos e,b];exact h2
  · have e':¬q.1=k:=fun z=>e (h1.trans z)
    have b:atKey (q::qs) k=atKey qs k:=by simp [atKey,List.find?_cons,e']
    rw [valV_neg e,b];exact ih
theorem KT.repl{H:Hp}{kvs:List (List Key×V)}{xs:List (List Key×Addr×Value)}(r:KT H kvs xs)(k:List Key){y:V}{u:Value}(ry:RelV y u):
 KT H (kvs.map fun kv=>if kv.1=k then (kv.1,y) else kv) (xs.map (putAt k u)):=by
 induction r with
 | nil=>exact .nil
 | @cons p q ps qs h t ih=>
  rw [List.map_cons,List.map_cons]
  refine .cons ?_ ih
  obtain ⟨h1,h2,h3⟩:=h
  unfold putAt
  by_cases e:p.1=k
  · rw [if_pos e,if_pos (h1.symm.trans e)];exact ⟨h1,h2,ry⟩
  · rw [if_neg e,if_neg (fun z=>e (h1.trans z))];exact ⟨h1,h2,h3⟩
theorem KT.put{H:Hp}{kvs:List (List Key×V)}{xs:List (List Key×Addr×Value)}(r:KT H kvs xs)(k:List Key){b:Addr}{y:V}{u:Value}(hb:H b=some (.tup (k.map kV)))(ry:RelV y u):
 KT H (putK kvs k y) (storedH xs k b u):=by
 have e:(kvs.any fun kv=>decide (kv.1=k))=(atKey xs k).isSome:=by
  rw [valV_any,(r.val k).isSome_eq,Option.isSome_map]
 unfold putK storedH
 rw [e]
 by_cases q:(atKey xs k).isSome=true
 · rw [if_pos q,if_pos q];exact r.repl k ry
 · rw [if_neg q,if_neg q];exact Paired.snoc r ⟨rfl,hb,ry⟩
theorem KT.keeps{H H':Hp}{kvs:List (List Key×V)}{xs:List (List Key×Addr×Value)}(r:KT H kvs xs)(ht:∀b ys,H b=some (.tup ys)→H' b=some (.tup ys)):KT H' kvs xs:=
 Paired.mapP r fun _ _ z=>⟨z.1,ht _ _ z.2.1,z.2.2⟩
section
variable {P:Program} {w:World} {H:Hp} {h:Heap} {a:Addr}
theorem rd_of{u:HO}(ok:HOk P w H h)(e:Rd H a u):ObjOk P w H h a u:=e.ok ok
theorem dk_rd{kvs:List (Key×V)}(ok:HOk P w H h)(e:Rd H a (.dK kvs)):kvs.length≤sizeLine∧(a==sysModules)=false∧∃vs,KV kvs vs∧h.DictOf (mixKind P w) a vs:=
 show ObjOk P w H h a (.dK kvs) from rd_of ok e
theorem dk_of{kvs:List (Key×V)}(ok:HOk P w H h)(e:H a=some (.dK kvs)):kvs.length≤sizeLine∧(a==sysModules)=false∧∃vs,KV kvs vs∧h.DictOf (mixKind P w) a vs:=dk_rd ok (.inl e)
theorem key_of{ks:List Key}(ok:HOk P w H h)(e:H a=some (.tup (ks.map kV))):(tupleKind (mixKind P w)).is h ks a:=by
 obtain ⟨_,its,r,o,h1,h2,n,h3⟩:=(show ObjOk P w H h a (.tup (ks.map kV)) from ok a _ e)
 exact ⟨o,its.toArray,n,h1,h2,h3,by simpa using items_are r⟩
theorem dt_rd{kvs:List (List Key×V)}(ok:HOk P w H h)(e:Rd H a (.dT kvs)):kvs.length≤sizeLine∧(a==sysModules)=false∧
 ∃xs,KT H kvs xs∧h.DictOfH (tupleKind (mixKind P w)) a xs:=by
 obtain ⟨z,y,xs,r,o,es,ep,h1,h2,h3,h4,h5⟩:=(show ObjOk P w H h a (.dT kvs) from rd_of ok e)
 refine ⟨z,y,xs,r,o,es,ep,h1,h2,h3,h4,fun x hx=>?_,h5⟩
 have all:∀{l:List (List Key×V)} {m:List (List Key×Addr×Value)},KT H l m→∀x∈m,(tupleKind (mixKind P w)).is h x.1 x.2.1:=by
  intro l m q
  induction q with
  | nil=>intro x hx;exact nomatch hx
  | @cons p q ps qs hq t ih=>
   intro x hx
   rcases List.mem_cons.mp hx with e | hx
   · subst e
     exact key_of ok (by rw [← hq.1];exact hq.2.1)
   · exact ih x hx
 exact all r x hx
theorem dt_of{kvs:List (List Key×V)}(ok:HOk P w H h)(e:H a=some (.dT kvs)):kvs.length≤sizeLine∧(a==sysModules)=false∧
 ∃xs,KT H kvs xs∧h.DictOfH (tupleKind (mixKind P w)) a xs:=dt_rd ok (.inl e)
end
noncomputable def DGet(H:Hp)(a:Addr)(y:V)(r:Option V):Prop:=
 (∃kvs k,Rd H a (.dK kvs)∧y=kV k∧r=valV kvs k)∨∃kvs k b,Rd H a (.dT kvs)∧y= .ref b∧H b=some (.tup (k.map kV))∧r=valV kvs k
noncomputable def DPut(H:Hp)(a:Addr)(y v:V)(H':Hp):Prop:=
 (∃kvs k,H a=some (.dK kvs)∧y=kV k∧kvs.length < sizeLine∧H'=upd H a (.dK (putK kvs k v)))∨
 ∃kvs k b,H a=some (.dT kvs)∧y= .ref b∧H b=some (.tup (k.map kV))∧kvs.length < sizeLine∧H'=upd H a (.dT (putK kvs k v))
theorem DGet.k{H:Hp}{a:Addr}{kvs:List (Key×V)}{k:Key}(e:H a=some (.dK kvs)):DGet H a (kV k) (valV kvs k):= .inl ⟨kvs,k,.inl e,rfl,rfl⟩
theorem DPut.k{H:Hp}{a:Addr}{kvs:List (Key×V)}{k:Key}{v:V}(e:H a=some (.dK kvs))(hl:kvs.length < sizeLine):DPut H a (kV k) v (upd H a (.dK (putK kvs k v))):= .inl ⟨kvs,k,e,rfl,hl,rfl⟩
section
variable {X:Cx} {pins:List (Addr×Obj)} {σ:St} {H:Hp} {s:Shared} {a:Addr} {y v:V} {u r:Value} {o:Option V} {A:Around} {E:Value→Shared→Prop}
theorem Inv.big(I:Inv X pins σ H s):sysModules < s.heap.objs.size:=by
 have h:mainGlobals < s.heap.objs.size:=(I.mod.glob.keeps I.bk).lt
 exact Nat.lt_trans (by decide) h
theorem d_getItem{Q:Value→Shared→Prop}(hu:A.units+1 < cLine)(I:Inv X pins σ H s)(g:DGet H a y (some v))(ry:RelV y u)(h:∀w' s',Inv X pins σ H s'→RelV v w'→Q w' s'):
 wpAny (model X.prog X.w) A (getItem (.ref a) u) Q E s:=by
 rcases g with ⟨kvs,k,e,ey,l⟩ | ⟨kvs,k,b,e,ey,eb,l⟩
 · subst ey
   obtain ⟨z,hd,vs,rel,dd⟩:=dk_rd I.hok e
   obtain ⟨w',hw,rw'⟩:=RelO.some_of (v:=v) (o:=valueAt vs k) (by rw [l];exact rel.val k)
   exact wpAny_getItem_of (kV_is ry) dd.mapOf hw (h w' _ (I.tok _) rw')
 · subst ey
   cases (show u=Value.ref b from ry)
   obtain ⟨z,hd,xs,rel,dd⟩:=dt_rd I.hok e
   obtain ⟨w',hw,rw'⟩:=RelO.some_of (v:=v) (o:=(atKey xs k).map (·.2)) (by rw [l];exact rel.val k)
   obtain ⟨p,hp,hp2⟩:=Option.map_eq_some_iff.mp hw
   refine wpAny_getItem_heap (tupleKind_room_in1 hu) (key_of I.hok eb) dd hp ?_
   rw [hp2]
   exact h w' _ (I.tok _) rw'
theorem d_in{Q:Value→Shared→Prop}(hu:A.units+1 < cLine)(I:Inv X pins σ H s)(g:DGet H a y o)(ry:RelV y u)(h:∀s',Inv X pins σ H s'→Q (.bool o.isSome) s'):
 wpAny (model X.prog X.w) A (compareOp .In u (.ref a)) Q E s:=by
 rcases g with ⟨kvs,k,e,ey,l⟩ | ⟨kvs,k,b,e,ey,eb,l⟩
 · subst ey
   obtain ⟨z,hd,vs,rel,dd⟩:=dk_rd I.hok e
   refine wpAny_in_of (kV_is ry) hd dd.mapOf ?_
   rw [← (rel.val k).isSome_eq,← l]
   exact h _ (I.tok _)
 · subst ey
   cases (show u=Value.ref b from ry)
   obtain ⟨z,hd,xs,rel,dd⟩:=dt_rd I.hok e
   refine wpAny_in_heap (tupleKind_room_in1 hu) (key_of I.hok eb) hd dd ?_
   have q:=(rel.val k).isSome_eq
   rw [Option.isSome_map]at q
   rw [← q,← l]
   exact h _ (I.tok _)
theorem d_notIn{Q:Value→Shared→Prop}(hu:A.units+1 < cLine)(I:Inv X pins σ H s)(g:DGet H a y o)(ry:RelV y u)(h:∀s',Inv X pins σ H s'→Q (.bool (!o.isSome)) s'):
 wpAny (model X.prog X.w) A (compareOp .NotIn u (.ref a)) Q E s:=by
 rcases g with ⟨kvs,k,e,ey,l⟩ | ⟨kvs,k,b,e,ey,eb,l⟩
 · subst ey
   obtain ⟨z,hd,vs,rel,dd⟩:=dk_rd I.hok e
   refine wpAny_notIn_of (kV_is ry) hd dd.mapOf ?_
   rw [← (rel.val k).isSome_eq,← l]
   exact h _ (I.tok _)
 · subst ey
   cases (show u=Value.ref b from ry)
   obtain ⟨z,hd,xs,rel,dd⟩:=dt_rd I.hok e
   refine wpAny_notIn_heap (tupleKind_room_in1 hu) (key_of I.hok eb) hd dd ?_
   have q:=(rel.val k).isSome_eq
   rw [Option.isSome_map]at q
   rw [← q,← l]
   exact h _ (I.tok _)
theorem d_write{h':Heap}{t':Nat}{ob:HO}(I:Inv X pins σ H s)(mu:Mut (H a))(hs:Heap.SameBut a s.heap h')(he:∃q,h'.get? a=some q)(new:ObjOk X.prog X.w (upd H a ob) h' a ob):
 Inv X pins σ (upd H a ob) {s with heap:=h',toks:=t'}:=
 I.write (x:=a) (e:=a) mu (.inl rfl) (fun b q hb z=>(hs.2 b hb).trans z) he new
theorem dk_new{P:Program}{w:World}{H':Hp}{h':Heap}{kvs:List (Key×V)}{vs:List (Key×Value)}(z:kvs.length≤sizeLine)(hd:(a==sysModules)=false)(rel:KV kvs vs)(dd:h'.DictOf (mixKind P w) a vs):
 ObjOk P w H' h' a (.dK kvs):=⟨z,hd,vs,rel,dd⟩
theorem d_setItem{H':Hp}{Q:Unit→Shared→Prop}(hu:A.units+1 < cLine)(I:Inv X pins σ H s)(g:DPut H a y v H')(ry:RelV y u)(rv:RelV v r)(h:∀s',Inv X pins σ H' s'→Q () s'):
 wpAny (model X.prog X.w) A (setItem (.ref a) u r) Q E s:=by
 rcases g with ⟨kvs,k,e,ey,l,eH⟩ | ⟨kvs,k,b,e,ey,eb,l,eH⟩
 · subst ey eH
   obtain ⟨z,hd,vs,rel,dd⟩:=dk_of I.hok e
   have hz:vs.length≤sizeLine:=by rw [← rel.length];exact z
   have hl:(putK kvs k v).length≤sizeLine:=by have:=length_putK kvs k v;omega
   refine wpAny_setItem_pairs (hsz:=hz) (kV_is ry) dd fun h' dd' hs=>h _ ?_
   have he:∃q,h'.get? a=some q:=let ⟨q,_,_,hq,_⟩:=dd';⟨q,hq⟩
   exact d_write I (by rw [e];exact True.intro) hs he (dk_new hl hd (rel.put k rv) dd')
 · subst ey eH
   cases (show u=Value.ref b from ry)
   obtain ⟨z,hd,xs,rel,dd⟩:=dt_of I.hok e
   have hz:xs.length≤sizeLine:=by rw [← Paired.length rel];exact z
   have hl:(putK kvs k v).length≤sizeLine:=by have:=length_putK kvs k v;omega
   refine wpAny_setItem_heap (hsz:=hz) (tupleKind_room_in1 hu) (key_of I.hok eb) dd fun h' dd' hs=>h _ ?_
   obtain ⟨q,es,ep,hq,h2,h3,h4,_,h5⟩:=dd'
   refine d_write I (by rw [e];exact True.intro) hs ⟨q,hq⟩ ⟨hl,hd,_,(rel.put k eb rv).keeps fun c ys ec=>?_,q,es,ep,hq,h2,h3,h4,h5⟩
   rw [upd_ne (ne_of ec e (fun z=>nomatch z))]
   exact ec
end
section
variable {X:Cx} {pins:List (Addr×Obj)} {σ:St} {H:Hp} {s:Shared} {a:Addr} {kvs:List (Key×V)} {k:Key} {u:Value} {A:Around} {E:Value→Shared→Prop}
theorem d_len{Q:Value→Shared→Prop}(I:Inv X pins σ H s)(e:Rd H a (.dK kvs))(h:∀t s',Inv X pins σ H s'→Q (.int kvs.length t) s'):wpAny (model X.prog X.w) A (call (.builtin "len") [.ref a]) Q E s:=by
 obtain ⟨z,hd,vs,rel,dd⟩:=dk_rd I.hok e
 refine call_len_dict hd dd (by rw [← rel.length];rw [sizeLine_eq]at z;omega) ?_
 rw [← rel.length]
 exact h _ _ (I.tok _)
end
noncomputable def NoSl(i:Expr):Prop:=∀ov iv,subscripted i false ov iv=operate [ov,iv] (getItem ov iv)
theorem subD_of{prog:Program}{w:World}{A:Around}{E:Value→Shared→Prop}{s:Shared}{env:Env}{value slice:Expr}{pos:Pos}{T id:String}{Q:Value→Shared→Prop}
 (hl:typeLookup (.type T) "__getitem__"=pure (some (.builtin id))) (hs:NoSl slice)
 (h:wpAny (model prog w) A (eval value env) (fun o s₁=>wpAny (model prog w) A (eval slice env) (fun i s₂=>s₂.TypeIs o T∧wpAny (model prog w) A (getItem o i) Q E s₂) E s₁) E s):
 wpAny (model prog w) A (eval (.Subscript value slice pos) env) Q E s:=by
 refine Subscript_ (wpAny_mono h (fun o s₁ h₁=>wpAny_mono h₁ (fun i s₂ h₂=>?_) fun _ _ x=>x) fun _ _ x=>x)
 obtain ⟨hT,h₂⟩:=h₂
 unfold subscriptTail
 refine wpAny_bind ?_
 rw [getitemInPython_of_ne hT.not_modules]
 refine wpAny_bind (wpAny_specialOf hT hl ?_)
 have fin:wpAny (model prog w) A (subscripted slice false o i) (fun r s₃=>wpAny (model prog w) A (letTemporaryGo value o r >>=fun _=>pure r) Q E s₃) E s₂:=by
  rw [hs o i]
  exact wpAny_operating (wpAny_mono h₂ (fun r s₃ h₃=>wpAny_bind (wpAny_letTemporaryGo (wpAny_pure h₃))) fun _ _ x=>x)
 first
  | exact wpAny_pure (wpAny_bind fin)
  | exact wpAny_bind (wpAny_pure (wpAny_bind fin))
  | exact wpAny_bind fin
theorem dict_typeIs{X:Cx}{pins:List (Addr×Obj)}{σ:St}{H:Hp}{s:Shared}{a:Addr}{y:V}{o:Option V}(I:Inv X pins σ H s)(g:DGet H a y o):s.TypeIs (.ref a) "dict":=by
 rcases g with ⟨kvs,k,e,_,_⟩ | ⟨kvs,k,b,e,_,_,_⟩
 · obtain ⟨_,_,vs,_,dd⟩:=dk_rd I.hok e
   exact dd.typeIs
 · obtain ⟨_,_,xs,_,dd⟩:=dt_rd I.hok e
   exact dd.typeIs
noncomputable def tDGet(td ty:TE):TE:=fun σ H Q=>td σ H fun x H1=>ty σ H1 fun y H2=>∃a v,x= .ref a∧DGet H2 a y (some v)∧Q v H2
noncomputable def tDIn(ty td:TE):TE:=fun σ H Q=>ty σ H fun y H1=>td σ H1 fun x H2=>∃a o,x= .ref a∧DGet H2 a y o∧Q (.bl o.isSome) H2
noncomputable def tDNotIn(ty td:TE):TE:=fun σ H Q=>ty σ H fun y H1=>td σ H1 fun x H2=>∃a o,x= .ref a∧DGet H2 a y o∧Q (.bl (!o.isSome)) H2
noncomputable def sDPut(td ty tv:TE):TS:=fun D σ H=>tv σ H fun v H1=>td σ H1 fun x H2=>ty σ H2 fun y H3=>∃a H4,x= .ref a∧DPut H3 a y v H4∧D.nx σ H4
section
variable {X:Cx} {o i e value:Expr} {pos pos' tpos:Pos} {td ty tv:TE}
theorem pe_dget(hu:X.A.units+1 < cLine)(ho:PE X o td)(hi:PE X i ty)(hs:NoSl i):PE X (.Subscript o i pos) (tDGet td ty):=by
 intro pins s σ H Q I h
 refine subD_of PySem.F.slot_dict_getitem.lookup hs (thn (ho pins s σ H _ I h) fun u s1 ⟨x,H1,I1,rx,q1⟩=>thn (hi pins s1 σ H1 _ I1 q1) fun iv s2 hq_=>?_)
 obtain ⟨y,H2,I2,ry,a,v,ex,g,q2⟩:=hq_
 subst ex
 obtain rfl:u=Value.ref a:=rx
 exact ⟨dict_typeIs I2 g,d_getItem hu I2 g ry fun w' s3 I3 rw'=>⟨v,H2,I3,rw',q2⟩⟩
theorem pc_din(hu:X.A.units+1 < cLine)(hi:PE X i ty)(ho:PE X o td):PC X .In i o (tDIn ty td):=by
 intro pins s σ H Q I h
 refine thn (hi pins s σ H _ I h) fun iv s1 ⟨y,H1,I1,ry,q1⟩=>thn (ho pins s1 σ H1 _ I1 q1) fun u s2 hq_=>?_
 obtain ⟨x,H2,I2,rx,a,ov,ex,g,q2⟩:=hq_
 subst ex
 obtain rfl:u=Value.ref a:=rx
 exact d_in hu I2 g ry fun s3 I3=>⟨.bl ov.isSome,H2,I3,rfl,q2⟩
theorem pc_dnotin(hu:X.A.units+1 < cLine)(hi:PE X i ty)(ho:PE X o td):PC X .NotIn i o (tDNotIn ty td):=by
 intro pins s σ H Q I h
 refine thn (hi pins s σ H _ I h) fun iv s1 ⟨y,H1,I1,ry,q1⟩=>thn (ho pins s1 σ H1 _ I1 q1) fun u s2 hq_=>?_
 obtain ⟨x,H2,I2,rx,a,ov,ex,g,q2⟩:=hq_
 subst ex
 obtain rfl:u=Value.ref a:=rx
 exact d_notIn hu I2 g ry fun s3 I3=>⟨.bl (!ov.isSome),H2,I3,rfl,q2⟩
theorem ps_dput(hu:X.A.units+1 < cLine)(ho:PE X o td)(hi:PE X i ty)(hv:PE X value tv)(hs:swapsWith value (some (.Subscript o i pos')) pos.line X.env=pure false):
 PS X (.Assign [.Subscript o i pos'] value pos) (sDPut td ty tv):=by
 intro pins s σ H D I h
 refine wpAny_Assign_Subscript (thn (hv pins s σ H _ I h) fun r s1 ⟨v,H1,I1,rv,q1⟩=>thn (ho pins s1 σ H1 _ I1 q1) fun u s2 ⟨x,H2,I2,rx,q2⟩=>thn (hi pins s2 σ H2 _ I2 q2) fun iv s3 hq_=>?_) hs
 obtain ⟨y,H3,I3,ry,a,H4,ex,g,q3⟩:=hq_
 subst ex
 obtain rfl:u=Value.ref a:=rx
 exact d_setItem hu I3 g ry rv fun s4 I4=>⟨σ,H4,I4,q3⟩
end
theorem dk_empty{P:Program}{w:World}{H:Hp}(h:Heap)(hb:sysModules < h.objs.size):ObjOk P w H (h.push {cls:= .type "dict",data:= .dict #[]}) h.objs.size (.dK []):=
 ⟨Nat.zero_le _,beq_eq_false_iff_ne.mpr (Ne.symm (Nat.ne_of_lt hb)),[],.nil,Heap.DictOf.new h⟩
noncomputable def tDNewK:TE:=fun _ H Q=>∀p,H p=none→Q (.ref p) (upd H p (.dK []))
section
variable {X:Cx} {pos:Pos}
theorem pe_dnewK:PE X (.Dict [] [] pos) tDNewK:=fun pins s σ H Q I h=>
 wpAny_Dict_empty ⟨.ref s.heap.objs.size,_,I.laid (a:=s.heap.objs.size) (o:= .dK []) (t':=s.toks) (fun _ _ q=>Heap.get?_push_of_some _ q) (Nat.le_refl _) (dk_empty s.heap I.big),rfl,h _ (I.hok.fresh (Nat.le_refl _))⟩
end
structure M1(X:Cx)(o:Expr)(m:Str)(apos:Pos)(e:Expr)(cpos:Pos):Prop where
 base:attributeBase o m X.env (eval o X.env)=eval o X.env
 few:((backTo cpos (starEach [e] X.env)).all (fun x=>!x.1) && (backToKw cpos (keywordEach [] X.env)).all (fun x=>x.1.isSome)
  && decide (([e]:List Expr).length+([]:List Keyword).length+(if ([]:List Keyword).isEmpty then 0 else 1) < 30))=true
 line:(apos.endLine==cpos.line)=true
 trees:backTo cpos (starEach [e] X.env)=[(false,eval e X.env)]
structure M2(X:Cx)(o:Expr)(m:Str)(apos:Pos)(e f:Expr)(cpos:Pos):Prop where
 base:attributeBase o m X.env (eval o X.env)=eval o X.env
 few:((backTo cpos (starEach [e,f] X.env)).all (fun x=>!x.1) && (backToKw cpos (keywordEach [] X.env)).all (fun x=>x.1.isSome)
  && decide (([e,f]:List Expr).length+([]:List Keyword).length+(if ([]:List Keyword).isEmpty then 0 else 1) < 30))=true
 line:(apos.endLine==cpos.line)=true
 trees:backTo cpos (starEach [e,f] X.env)=[(false,eval e X.env),(false,eval f X.env)]
noncomputable def IsD(H:Hp)(a:Addr):Prop:=(∃kvs,Rd H a (.dK kvs))∨∃kvs,Rd H a (.dT kvs)
theorem isD_at{X:Cx}{pins:List (Addr×Obj)}{σ:St}{H:Hp}{s:Shared}{a:Addr}(I:Inv X pins σ H s)(d:IsD H a):
 s.TypeIs (.ref a) "dict"∧(∀b,Value.ref a= .ref b→∃ob,s.heap.get? b=some ob∧ob.dict=none)∧(a==sysModules)=false:=by
 rcases d with ⟨kvs,e⟩ | ⟨kvs,e⟩
 · obtain ⟨_,hd,vs,_,dd⟩:=dk_rd I.hok e
   refine ⟨dd.typeIs,fun b q=>?_,hd⟩
   cases q
   obtain ⟨ob,_,_,h1,h2,_⟩:=dd
   exact ⟨ob,h1,h2.2.1⟩
 · obtain ⟨_,hd,xs,_,dd⟩:=dt_rd I.hok e
   refine ⟨dd.typeIs,fun b q=>?_,hd⟩
   cases q
   obtain ⟨ob,_,_,h1,h2,_⟩:=dd
   exact ⟨ob,h1,h2.2.1⟩
section
variable {X:Cx} {pins:List (Addr×Obj)} {σ:St} {H:Hp} {s:Shared} {a:Addr} {y d:V} {u r:Value} {o:Option V} {A:Around} {E:Value→Shared→Prop}
theorem d_get1{Q:Value→Shared→Prop}(hu:A.units+1 < cLine)(I:Inv X pins σ H s)(g:DGet H a y o)(ry:RelV y u)(h:∀w' s',Inv X pins σ H s'→RelV (o.getD .non) w'→Q w' s'):
 wpAny (model X.prog X.w) A (call (.builtin "dict.get") [.ref a,u]) Q E s:=by
 rcases g with ⟨kvs,k,e,ey,l⟩ | ⟨kvs,k,b,e,ey,eb,l⟩
 · subst ey
   obtain ⟨z,hd,vs,rel,dd⟩:=dk_rd I.hok e
   refine call_meetsIn PySem.F.slot_dict_get dd.typeIs PySem.F.entry_dict_get (PySem.F.args_dict_get_2 _ _) (meets_dict_get (mixKind X.prog X.w) a (kV_is ry) hd) ⟨_,dd.mapOf,h _ _ (I.tok _) ?_⟩
   rw [l]
   exact (rel.val k).getD rfl
 · subst ey
   cases (show u=Value.ref b from ry)
   obtain ⟨z,hd,xs,rel,dd⟩:=dt_rd I.hok e
   refine call_meetsIn PySem.F.slot_dict_get dd.typeIs PySem.F.entry_dict_get (PySem.F.args_dict_get_2 _ _) (meetsH_dict_get (tupleKind (mixKind X.prog X.w)) a b hd) ⟨tupleKind_room_in1 hu,k,xs,key_of I.hok eb,dd,h _ _ (I.tok _) ?_⟩
   rw [l]
   exact (rel.val k).getD rfl
theorem d_get2{Q:Value→Shared→Prop}(hu:A.units+1 < cLine)(I:Inv X pins σ H s)(g:DGet H a y o)(ry:RelV y u)(rd:RelV d r)(h:∀w' s',Inv X pins σ H s'→RelV (o.getD d) w'→Q w' s'):
 wpAny (model X.prog X.w) A (call (.builtin "dict.get") [.ref a,u,r]) Q E s:=by
 rcases g with ⟨kvs,k,e,ey,l⟩ | ⟨kvs,k,b,e,ey,eb,l⟩
 · subst ey
   obtain ⟨z,hd,vs,rel,dd⟩:=dk_rd I.hok e
   refine call_meetsIn PySem.F.slot_dict_get dd.typeIs PySem.F.entry_dict_get (PySem.F.args_dict_get_3 _ _ _) (meets_dict_get_default (mixKind X.prog X.w) a (kV_is ry) hd r) ⟨_,dd.mapOf,h _ _ (I.tok _) ?_⟩
   rw [l]
   exact (rel.val k).getD rd
 · subst ey
   cases (show u=Value.ref b from ry)
   obtain ⟨z,hd,xs,rel,dd⟩:=dt_rd I.hok e
   refine call_meetsIn PySem.F.slot_dict_get dd.typeIs PySem.F.entry_dict_get (PySem.F.args_dict_get_3 _ _ _) (meetsH_dict_get_default (tupleKind (mixKind X.prog X.w)) a b hd r) ⟨tupleKind_room_in1 hu,k,xs,key_of I.hok eb,dd,h _ _ (I.tok _) ?_⟩
   rw [l]
   exact (rel.val k).getD rd
end
noncomputable def tDGet1(td ty:TE):TE:=fun σ H Q=>td σ H fun x H1=>∃a,x= .ref a∧IsD H1 a∧ty σ H1 fun y H2=>∃o,DGet H2 a y o∧Q (o.getD .non) H2
noncomputable def tDGet2(td ty tx:TE):TE:=fun σ H Q=>td σ H fun x H1=>∃a,x= .ref a∧IsD H1 a∧ty σ H1 fun y H2=>tx σ H2 fun z H3=>∃o,DGet H3 a y o∧Q (o.getD z) H3
section
variable {X:Cx} {o e f:Expr} {apos cpos:Pos} {td ty tx:TE}
theorem pe_dget1(hu:X.A.units+1 < cLine)(ho:PE X o td)(he:PE X e ty)(m:M1 X o "get" apos e cpos):PE X (.Call (.Attribute o "get" apos) [e] [] cpos) (tDGet1 td ty):=by
 intro pins s σ H Q I h
 refine wpAny_Call_method m.base m.few m.line PySem.F.plainAttrs_dict PySem.F.slot_dict_get PySem.F.type_dict_get (thn (ho pins s σ H _ I h) fun u s1 hq_=>?_)
 obtain ⟨x,H1,I1,rx,a,ex,d,q1⟩:=hq_
 subst ex
 obtain rfl:u=Value.ref a:=rx
 obtain ⟨t1,t2,_⟩:=isD_at I1 d
 refine ⟨t1,t2,?_⟩
 rw [m.trees]
 refine Calls.callWith_builtin rfl (Calls.evalArgs_plain (Calls.spliced_cons (thn (he pins s1 σ H1 _ I1 q1) fun iv s2 ⟨y,H2,I2,ry,ov,g,q2⟩=>Calls.spliced_nil ?_)))
 exact d_get1 hu I2 g ry fun w' s3 I3 rw'=>⟨_,H2,I3,rw',q2⟩
theorem pe_dget2(hu:X.A.units+1 < cLine)(ho:PE X o td)(he:PE X e ty)(hf:PE X f tx)(m:M2 X o "get" apos e f cpos):PE X (.Call (.Attribute o "get" apos) [e,f] [] cpos) (tDGet2 td ty tx):=by
 intro pins s σ H Q I h
 refine wpAny_Call_method m.base m.few m.line PySem.F.plainAttrs_dict PySem.F.slot_dict_get PySem.F.type_dict_get (thn (ho pins s σ H _ I h) fun u s1 hq_=>?_)
 obtain ⟨x,H1,I1,rx,a,ex,d,q1⟩:=hq_
 subst ex
 obtain rfl:u=Value.ref a:=rx
 obtain ⟨t1,t2,_⟩:=isD_at I1 d
 refine ⟨t1,t2,?_⟩
 rw [m.trees]
 refine Calls.callWith_builtin rfl (Calls.evalArgs_plain (Calls.spliced_cons (thn (he pins s1 σ H1 _ I1 q1) fun iv s2 ⟨y,H2,I2,ry,q2⟩=>
  Calls.spliced_cons (thn (hf pins s2 σ H2 _ I2 q2) fun fv s3 ⟨z,H3,I3,rz,ov,g,q3⟩=>Calls.spliced_nil ?_))))
 exact d_get2 hu I3 g ry rz fun w' s4 I4 rw'=>⟨_,H3,I4,rw',q3⟩
end
end L2
namespace L2
section
variable {X:Cx}
theorem call_lenD:CallR X (.builtin "len") (fun xs H Q=>∃a kvs,xs=[V.ref a]∧H a=some (.dK kvs)∧Q (.int kvs.length) H):=by
 intro pins s σ H xs us Q I r h
 obtain ⟨a,kvs,rfl,ha,q⟩:=h
 obtain ⟨u,rfl,ru⟩:=vals1 r
 cases ru
 exact d_len I (.inl ha) fun t s' I'=>⟨.int kvs.length,H,I',⟨t,rfl⟩,q⟩
end
section
variable {κ:Type} [DecidableEq κ]
theorem valV_not{kvs:List (κ×V)}{k:κ}(h:valV kvs k=none):¬k∈kvs.map (·.1):=by
 intro m
 obtain ⟨p,hp,e⟩:=List.mem_map.mp m
 have q:(kvs.any fun kv=>decide (kv.1=k))=true:=List.any_eq_true.mpr ⟨p,hp,decide_eq_true e⟩
 rw [valV_any,h]at q
 exact absurd q (by simp)
theorem valV_in{kvs:List (κ×V)}{k:κ}{v:V}(h:valV kvs k=some v):k∈kvs.map (·.1):=by
 have q:(kvs.any fun kv=>decide (kv.1=k))=true:=by
  rw [valV_any,h]
  all_goals rfl
 obtain ⟨p,hp,e⟩:=List.any_eq_true.mp q
 exact List.mem_map.mpr ⟨p,hp,of_decide_eq_true e⟩
end
end L2
namespace L2
structure Def(P:Program)(w:World)(K:PySem.W.Frag)(mg:Str→Option Value)(base:Heap)(CX:CXT)(k:Nat)(x:Str)(ps:List Str)(sp:Sp):Prop where
 ex:∃(f:Addr) (fd:FuncData),FnOk P w K mg base CX k f fd ps sp∧mg x=some (.ref f)∧PySem.W.keepIn K (.ref f)=true∧Binds K fd ps []
noncomputable def tCallD(sp:Sp)(E:XK)(t:TA):TE:=fun σ H Q=>t σ H fun vs H1=>sp vs H1 Q E
section
variable {X:Cx} {CX:CXT} {k j:Nat} {ps:List Str} {sp:Sp} {E:XK} {x:Str} {p pos:Pos} {e:Expr} {es:List Expr} {t:TA}
theorem pe_callD(D:Def X.prog X.w X.K X.mg X.base CX j x ps sp)(hr:Room k X.A)(hg:Gl X x)(hx:Passes CX X E)(ha:PA X (e::es) t)(hj:j≤k:=by decide)
 (hdb:(x==("__debug__":Str))=false:=by decide) (he:starEach (e::es) X.env=(false,eval e X.env)::starEach es X.env:=by rfl) (hpl:(backTo pos (starEach es X.env)).any (·.1)=false:=by rfl):
 PE X (.Call (.Name x p) (e::es) [] pos) (tCallD sp E t):=by
 obtain ⟨f,fd,F,hm,hk,hb⟩:=D.ex
 intro pins s σ H Q I h
 refine pe_call (F.mono hj) hr hg hm hk hb .nil hx ha hdb he hpl pins s σ H Q I ?_
 show t σ H fun vs H1=>sp (vs++[]) H1 Q E
 have z:(fun (vs:List V) (H1:Hp)=>sp (vs++[]) H1 Q E)=fun vs H1=>sp vs H1 Q E:=by funext vs H1;rw [List.append_nil]
 rw [z]
 exact h
end
theorem big_pow:(10:Nat) ^ 100≤2 ^ 1000:=by decide+kernel
section
variable {X:Cx}
theorem op_fdivB:OpR X (binaryOp .FloorDiv) (rI (fun _ j=>j≠0∧j.natAbs < 10 ^ 100) fun i j=> .int (i.fdiv j)):=opI fun i j _ _ _ _ _ hc q=>by
 refine floordiv_int hc.1 q (.inl (PyProof.noPylong_of_log2 ?_))
 have h0:j.natAbs≠0:=by have:=hc.1;omega
 exact Nat.lt_trans ((Nat.log2_lt h0).mpr (Nat.lt_of_lt_of_le hc.2 big_pow)) (by decide)
end
noncomputable def Isi(K:PySem.W.Frag)(H:Hp)(x:V)(n:String)(b:Bool):Prop:=∃t,TyOf K H x t∧PySem.W.kitOne K t (.type n)=some b
section
variable {X:Cx}
theorem call_isinst:CallR X (.builtin "isinstance") (fun xs H Q=>∃x n b,xs=[x,.ty n]∧Isi X.K H x n b∧Q (.bl b) H):=by
 intro pins s σ H xs us Q I r h
 obtain ⟨x,n,b,rfl,⟨t,ty,e⟩,q⟩:=h
 obtain ⟨u,c,rfl,r1,r2⟩:=vals2 r
 cases r2
 exact isinst_ok I r1 ty e fun tk=>⟨.bl b,H,I.tok _,rfl,q⟩
end
section
variable {K:PySem.W.Frag} {H:Hp}
theorem isi_ii{i:Int}:Isi K H (.int i) "int" true:=⟨_,.int i,rfl⟩
theorem isi_ib{i:Int}:Isi K H (.int i) "bool" false:=⟨_,.int i,by with_unfolding_all rfl⟩
theorem isi_bb{i:Bool}:Isi K H (.bl i) "bool" true:=⟨_,.bl i,rfl⟩
theorem isi_bi{i:Bool}:Isi K H (.bl i) "int" true:=⟨_,.bl i,by with_unfolding_all rfl⟩
theorem isi_ss{i:Str}:Isi K H (.str i) "str" true:=⟨_,.str i,rfl⟩
theorem isi_si{i:Str}:Isi K H (.str i) "int" false:=⟨_,.str i,by with_unfolding_all rfl⟩
theorem isi_ni:Isi K H .non "int" false:=⟨_,.non,by with_unfolding_all rfl⟩
theorem isi_go{x:V}{n:String}{b:Bool}{R:Bool→Prop}(h:Isi K H x n b)(q:R b):∃b,Isi K H x n b∧R b:=⟨b,h,q⟩
theorem len_goL{p:Addr}{xs:List V}{R:List V→Prop}(h:SqL K H p xs)(q:R xs):∃ys,(SqL K H p ys∨SqT K H p ys)∧R ys:=⟨xs,.inl h,q⟩
theorem len_goT{p:Addr}{xs:List V}{R:List V→Prop}(h:SqT K H p xs)(q:R xs):∃ys,(SqL K H p ys∨SqT K H p ys)∧R ys:=⟨xs,.inr h,q⟩
theorem ixT_of{p:Addr}{xs:List V}{i:Int}{v:V}{Q:VK}(h:SqT K H p xs)(e:atI xs i=some v)(q:Q v H):rIxT K (.ref p) (.int i) H Q:=⟨p,xs,i,v,rfl,rfl,h,e,q⟩
theorem ixL_of{p:Addr}{xs:List V}{i:Int}{v:V}{Q:VK}(h:SqL K H p xs)(e:atI xs i=some v)(q:Q v H):rIxL K (.ref p) (.int i) H Q:=⟨p,xs,i,v,rfl,rfl,h,e,q⟩
end
theorem atI_of{α:Type}{xs:List α}{i:Int}{v:α}(h0:0≤i)(h:xs[i.toNat]?=some v):atI xs i=some v:=by
 unfold atI ixN
 have hl:i.toNat < xs.length:=(List.getElem?_eq_some_iff.mp h).1
 rw [if_pos h0,if_pos (show i < xs.length by omega)]
 exact h
theorem cxOf_K{CX:CXT}{P:Program}{w:World}{K:PySem.W.Frag}{mg:Str→Option Value}{base:Heap}{N:List Str}{qual:Str}{scope:Scope}{f:Addr}{cd:Value}{A:Around}{outer:List Env}{s:Shared}{H:Hp}{E:XK}:
 (cxOf CX P w K mg base N qual scope f cd A outer s H E).K=K:=rfl
theorem getMap{ns:List Int}{k:Nat}(h:k < ns.length):(ns.map V.int)[k]?=some (V.int (ns.getD k 0)):=by
 rw [List.getElem?_map,List.getD_eq_getElem?_getD,List.getElem?_eq_getElem h];rfl
theorem Same.tup{K:PySem.W.Frag}{H H':Hp}{a:Addr}{xs:List V}(e:Same H H')(h:SqT K H a xs):SqT K H' a xs:=by
 rcases h with (h | ⟨o,h⟩) | h
 · exact .inl (.inl (e _ _ h))
 · exact .inl (.inr ⟨o,e _ _ h⟩)
 · exact .inr h
theorem Same.new{H:Hp}{p:Addr}{o:HO}(h:H p=none):Same H (upd H p o):=fun b u e=>by
 rw [upd_ne (ne_of_none e h)];exact e
section
variable {σ:St} {H:Hp} {Q:VK} {QT:Bool→Hp→Prop} {QA:List V→Hp→Prop} {D:Ends} {K:PySem.W.Frag}
theorem rd_asg{te:TE}{g:TG}:tAsg te g D σ H=te σ H fun x H1=>g x σ H1 D.nx:=rfl
theorem rd_var{i:Nat}:tVar i σ H Q=∃v,σ[i]?=some (some v)∧Q v H:=rfl
theorem rd_c{v:V}:tC v σ H Q=Q v H:=rfl
theorem rd_op{r:R2}{ta tb:TE}:tOp r ta tb σ H Q=ta σ H fun x H1=>tb σ H1 fun y H2=>r x y H2 Q:=rfl
theorem rd_I0{g:Int→Int→V}{x y:V}:rI0 g x y H Q=∃i j,x= .int i∧y= .int j∧Q (g i j) H:=rfl
theorem rd_I{C:Int→Int→Prop}{g:Int→Int→V}{x y:V}:rI C g x y H Q=∃i j,x= .int i∧y= .int j∧C i j∧Q (g i j) H:=rfl
theorem rd_name{i:Nat}{v:V}{N:St→Hp→Prop}:gName i v σ H N=N (σ.set i (some v)) H:=rfl
theorem rd_ifS{c:TT}{t u:TS}:tIfS c t u D σ H=c σ H fun b H1=>if b=true then t D σ H1 else u D σ H1:=rfl
theorem rd_test{t:TE}:tTest t σ H QT=t σ H fun x H'=>∃k,x= .bl k∧QT k H':=rfl
theorem rd_b{t:TE}:tB t σ H QT=t σ H fun x H1=>∃c,x= .bl c∧QT c H1:=rfl
theorem rd_ret{te:TE}:tRet te D σ H=te σ H D.rt:=rfl
theorem rd_next:tNext D σ H=D.nx σ H:=rfl
theorem rd_cb{r:List V→Hp→VK→Prop}{t:TA}:tCB r t σ H Q=t σ H fun vs H1=>r vs H1 Q:=rfl
theorem rd_cons{ta:TE}{tr:TA}:tCons ta tr σ H QA=ta σ H fun x H1=>tr σ H1 fun xs H2=>QA (x::xs) H2:=rfl
theorem rd_nil:tNil σ H QA=QA [] H:=rfl
theorem rd_call{sp:Sp}{E:XK}{t:TA}:tCallD sp E t σ H Q=t σ H fun vs H1=>sp vs H1 Q E:=rfl
theorem rd_not{t:TT}:tNot t σ H QT=t σ H fun c H1=>QT (!c) H1:=rfl
theorem rd_or{t u:TT}:tOr t u σ H QT=t σ H fun c H1=>if c=true then QT true H1 else u σ H1 QT:=rfl
theorem rd_and{t u:TT}:tAnd t u σ H QT=t σ H fun c H1=>if c=true then u σ H1 QT else QT false H1:=rfl
theorem rd_andV{ta tb:TE}:tAndV ta tb σ H Q=ta σ H fun x H1=>∃c,x= .bl c∧if c=true then tb σ H1 Q else Q (.bl false) H1:=rfl
theorem rd_notV{ta:TE}:tNotV ta σ H Q=ta σ H fun x H1=>∃c,x= .bl c∧Q (.bl (!c)) H1:=rfl
theorem rd_if{t:TT}{ta tb:TE}:tIf t ta tb σ H Q=t σ H fun c H1=>if c=true then ta σ H1 Q else tb σ H1 Q:=rfl
theorem rd_eq{x y:V}:rEq x y H Q=(scal x y=true∧Q (.bl (decide (x=y))) H):=rfl
theorem rd_ne{x y:V}:rNe x y H Q=(scal x y=true∧Q (.bl (!decide (x=y))) H):=rfl
theorem rd_tup{t:TA}:tTup t σ H Q=t σ H fun xs H1=>xs.length≤sizeLine∧∀p,H1 p=none→Q (.ref p) (upd H1 p (.tup xs)):=rfl
theorem rd_lst{t:TA}:tLst t σ H Q=t σ H fun xs H1=>xs.length≤sizeLine∧∀p,H1 p=none→Q (.ref p) (upd H1 p (.lst xs)):=rfl
theorem rd_never:tNever D σ H=False:=rfl
theorem rd_drop{te:TE}:tDrop te D σ H=te σ H fun _ H1=>D.nx σ H1:=rfl
theorem rd_gcons{t:TG}{u:TGs}{vs:List V}{N:St→Hp→Prop}:gCons t u vs σ H N=∃v r,vs=v::r∧t v σ H fun σ' H'=>u r σ' H' N:=rfl
theorem rd_gnil{vs:List V}{N:St→Hp→Prop}:gNil vs σ H N=(vs=[]∧N σ H):=rfl
theorem rd_chain{r r':R2}{ta tb tc:TE}:tChain r r' ta tb tc σ H Q=ta σ H fun x H1=>tb σ H1 fun y H2=>r x y H2 fun z H3=>∃k,z= .bl k∧
 (if k=true then tc σ H3 fun w' H4=>r' y w' H4 Q else Q (.bl false) H3):=rfl
theorem rd_rng1{ta:TA}{R:It→Hp→Prop}:iRng1 ta σ H R=ta σ H fun vs H1=>∃j:Int,vs=[.int j]∧-(2 ^ 62)≤j∧j < 2 ^ 62∧R (Itr 0 j.toNat) H1:=rfl
theorem rd_rng2{ta:TA}{R:It→Hp→Prop}:iRng2 ta σ H R=ta σ H fun vs H1=>∃i j:Int,vs=[.int i,.int j]∧(-(2 ^ 62)≤i∧i < 2 ^ 62∧-(2 ^ 62)≤j∧j < 2 ^ 62)∧R (Itr i (j - i).toNat) H1:=rfl
theorem rd_ilist{tl:TE}{R:It→Hp→Prop}:iList K tl σ H R=tl σ H fun x H1=>∃a,x= .ref a∧(∃xs,SqL K H1 a xs)∧R (Itl K a) H1:=rfl
noncomputable def ForTail(g:TG)(tb:TS)(D:Ends)(σ:St):It→Hp→Prop:=fun J H1=>∃W:Nat→Nat→St→Hp→Prop,(∃m,W 0 m σ H1)∧∀i m σ H,W i m σ H→
 (J.stop i H∧D.nx σ H)∨(J.go i H∧∃N:St→Hp→Prop,(∀σ' H',N σ' H'→∃m',m' < m∧W (i+1) m' σ' H')∧∀x H',J.yld i H x H'→g x σ H' fun σ2 H2=>tb {D with nx:=N,ct:=N,bk:=D.nx} σ2 H2)
theorem rd_for'{wi:TI}{g:TG}{tb:TS}:tFor wi g tb D σ H=wi σ H (ForTail g tb D σ):=rfl
theorem forR_by{lo:Int}{n:Nat}{g:TG}{tb:TS}(Pv:Nat→St→Hp→Prop)(h0:Pv 0 σ H)
 (hs:∀i σ H,i < n→Pv i σ H→g (.int (lo+i)) σ H fun σ2 H2=>tb {D with nx:=Pv (i+1),ct:=Pv (i+1),bk:=D.nx} σ2 H2) (hd:∀σ H,Pv n σ H→D.nx σ H):ForTail g tb D σ (Itr lo n) H:=for_range Pv h0 hs hd
theorem forL_by{a:Addr}{xs:List V}{g:TG}{tb:TS}(Pv:Nat→St→Hp→Prop)(h0:Pv 0 σ H)(hl:∀i σ H,i≤xs.length→Pv i σ H→SqL K H a xs)
 (hs:∀i x σ H,xs[i]?=some x→Pv i σ H→g x σ H fun σ2 H2=>tb {D with nx:=Pv (i+1),ct:=Pv (i+1),bk:=D.nx} σ2 H2) (hd:∀σ H,Pv xs.length σ H→D.nx σ H):ForTail g tb D σ (Itl K a) H:=for_list Pv h0 hl hs hd
theorem seq_go{t u:TS}(h:∀rest:St→Hp→Prop,rest=u D→t {D with nx:=rest} σ H):tSeq t u D σ H:=h _ rfl
theorem leaf_go{rest r:St→Hp→Prop}(h:rest=r)(q:r σ H):rest σ H:=by rw [h];exact q
theorem cell_go{a:Addr}{ns:List Int}{k:Int}{R:List Int→Prop}(h:SqL K H a (ns.map V.int))(h0:0≤k)(hl:ns.length≤63)(q:R ns):∃x:List Int,SqL K H a (x.map V.int)∧0≤k∧x.length≤63∧R x:=⟨ns,h,h0,hl,q⟩
theorem cdiv_of{i j:Int}(h1:0 < j)(h2:j < 1073741824):CDiv i j:=⟨h1,h2⟩
theorem cpow_of{i j:Int}(h1:0≤j)(h2:j≤1000000)(h3:i.natAbs < 2 ^ 64):CPow i j:=⟨h1,h2,h3⟩
theorem cmul_l{i j:Int}(h1:-(2 ^ 64) < i)(h2:i < 2 ^ 64):CMul i j:= .inl ⟨h1,h2⟩
theorem cmul_r{i j:Int}(h1:-(2 ^ 64) < j)(h2:j < 2 ^ 64):CMul i j:= .inr ⟨h1,h2⟩
end
end L2
namespace L2
section
variable {P:Program} {w:World} {H:Hp} {h:Heap} {a:Addr} {o:HO}
theorem ObjOk.there(x:ObjOk P w H h a o):∃ob,h.get? a=some ob:=by
 cases o with
 | lst xs=>obtain ⟨_,_,_,_,e⟩:=x;exact ⟨_,e⟩
 | tup xs=>obtain ⟨_,_,_,_,e,_⟩:=x;exact ⟨_,e⟩
 | dK kvs=>obtain ⟨_,_,_,_,_,_,_,e,_⟩:=x;exact ⟨_,e⟩
 | dT kvs=>obtain ⟨_,_,_,_,_,_,_,e,_⟩:=x;exact ⟨_,e⟩
 | set S n=>obtain ⟨_,_,_,_,e,_⟩:=x;exact ⟨_,e⟩
 | ins C dx fs=>obtain ⟨_,_,_,e,_⟩:=x;exact ⟨_,e⟩
 | own y=>exact x
 | xd fs=>obtain ⟨_,⟨_,_,_,e,_⟩,_⟩:=x;exact ⟨_,e⟩
 | rng lo hi=>obtain ⟨_,_,_,e⟩:=x;exact ⟨_,e⟩
 | frz ob u=>exact ⟨_,x.1⟩
 | tbl ps=>exact ⟨_,x⟩
 | met f y=>exact ⟨_,x⟩
 | ext φ=>exact x.2.1
theorem HOk.there(x:HOk P w H h)(e:H a=some o):∃ob,h.get? a=some ob:=(x a o e).there
end
noncomputable def Spares(fs:List Addr)(H':Hp)(g h B:Heap):Prop:=∀b o,h.get? b=some o→b∉fs→(H' b≠none∨∃u,g.get? b=some u)→B.get? b=some o
section
variable {P:Program} {w:World}
theorem stay_of{fs:List Addr}{H0 H':Hp}{g h h3 B:Heap}(u:Un fs [] H0 H' g h)(ok:HOk P w H' h)
 (hfr:∀b∈fs,∃o,g.get? b=some o∧∀vs,o.data≠ .fields vs) (hf0:∀b∈fs,H0 b=none) (hB:Spares fs H' g h B) (st:B.StaysIn h3) (up:h.UpToSlots h3):
 Un fs [] H0 H' g h3∧HOk P w H' h3∧Spares fs H' g h3 B:=by
 have fr':∀b∈fs,H' b=none:=fun b hb=>by
  obtain ⟨o,ho,_⟩:=hfr b hb
  exact u.free b o ho (hf0 b hb) (by simp)
 have tr:∀b o,H' b=some o→b∉fs:=fun b o e hb=>by rw [fr' b hb]at e;cases e
 have kp:∀b ob,h.get? b=some ob→b∉fs→(H' b≠none∨∃u,g.get? b=some u)→h3.get? b=some ob:=fun b ob e n c=>st b ob (hB b ob e n c)
 have sl:∀b o,g.get? b=some o→H0 b=none→b∈fs→b∉([]:List Addr)→∃sl,h3.get? b=some {o with slots:=sl}:=fun b o e n hb hx=>by
  obtain ⟨sl,e1⟩:=u.slot b o e n hb hx
  obtain ⟨o',e',d⟩:=hfr b hb
  rw [e]at e';cases e'
  obtain ⟨sl2,e2⟩:=up b _ e1 d
  exact ⟨sl2,e2⟩
 refine ⟨⟨fun b o e n hb hx=>kp b o (u.keep b o e n hb hx) hb (.inr ⟨o,e⟩),sl,u.free,fun b o e hx=>?_,u.tups,u.frzs,u.tbls⟩,fun a o e=>?_,fun b o e hb c=>?_⟩
 · by_cases hb:b∈fs
   · obtain ⟨s1,e1⟩:=sl b o e (hf0 b hb) hb hx
     exact ⟨_,e1⟩
   · obtain ⟨o',e1⟩:=u.there b o e hx
     exact ⟨o',kp b o' e1 hb (.inr ⟨o,e⟩)⟩
 · refine (ok a o e).stay (fun b v hc q=>kp b v q ?_ (.inl ?_)) (fun _ q=>q) fun _ _ q=>q
   · rcases hc with rfl | hc
     · exact tr _ _ e
     · exact tr _ _ hc
   · rcases hc with rfl | hc
     · rw [e];simp
     · rw [hc];simp
 · have z:∃o1,h.get? b=some o1:=by
    rcases c with c | ⟨u0,e0⟩
    · cases q:H' b with
      | none=>exact absurd q c
      | some v=>exact ok.there q
    · exact u.there b u0 e0 (by simp)
   obtain ⟨o1,e1⟩:=z
   have e2:=kp b o1 e1 hb c
   rw [e]at e2;cases e2
   exact hB b o e1 hb c
end
section
variable {X:Cx} {pins:List (Addr×Obj)} {σ:St} {H1 H2:Hp} {s1:Shared} {h2 h3 B:Heap}
theorem Inv.frm(I:Inv X pins σ H1 s1):∀b∈frs X.stack,∃o,s1.heap.get? b=some o∧∀vs,o.data≠ .fields vs:=fun b hb=>(I.stack.mem hb).2
theorem leave_of(I:Inv X pins σ H1 s1)(hex:X.ex=[])(u:Un (frs X.stack) [] H1 H2 s1.heap h2)(ok:HOk X.prog X.w H2 h2)(hB:Spares (frs X.stack) H2 s1.heap h2 B)(st:B.StaysIn h3)(up:h2.UpToSlots h3):
 Un X.fs [] X.H₀ H2 X.s₀.heap h3∧HOk X.prog X.w H2 h3∧Spares X.fs H2 X.s₀.heap h3 B:=by
 obtain ⟨U,ok3,hB3⟩:=stay_of u ok I.frm I.stkFree hB st up
 have bs:=I.base
 rw [hex]at bs
 have nl:∀b o,X.s₀.heap.get? b=some o→b≠X.env.locals:=fun b o e=>Nat.ne_of_lt (Nat.lt_of_lt_of_le (Heap.lt_size e) I.ok.above)
 have ns:∀b o,X.s₀.heap.get? b=some o→b∉X.fs→b∉frs X.stack:=fun b o e n hb=>(List.mem_cons.mp (I.stkSub b hb)).elim (nl b o e) n
 have sub:∀b∈X.fs,b∈frs X.stack:=fun b hb=>by
  rcases I.ok.stk with e | ⟨e,hf⟩
  · rw [e];exact hb
  · rw [e];unfold frs;rw [List.filterMap_cons,hf];exact List.mem_cons_of_mem _ hb
 have nt:∀b,H2 b≠none→b∉frs X.stack:=fun b c hb=>by
  obtain ⟨o,ho,_⟩:=I.frm b hb
  exact c (U.free b o ho (I.stkFree b hb) (by simp))
 refine ⟨⟨fun b o e n hb hx=>?_,fun b o e n hb hx=>?_,fun b o e n hx=>?_,fun b o e hx=>?_,fun b xs e=>U.tups b xs (bs.tups b xs e),fun b o v e=>U.frzs b o v (bs.frzs b o v e),fun b ps e=>?_⟩,ok3,fun b o e hb c=>?_⟩
 · exact U.keep b o (bs.keep b o e n hb hx) (bs.free b o e n hx) (ns b o e hb) hx
 · obtain ⟨sl,e1⟩:=bs.slot b o e n hb hx
   obtain ⟨sl2,e2⟩:=U.slot b _ e1 (bs.free b o e n hx) (sub b hb) hx
   exact ⟨sl2,e2⟩
 · obtain ⟨o',e1⟩:=bs.there b o e hx
   exact U.free b o' e1 (bs.free b o e n hx) hx
 · obtain ⟨o',e1⟩:=bs.there b o e hx
   exact U.there b o' e1 hx
 · obtain ⟨m1,e1⟩:=bs.tbls b ps e
   obtain ⟨m2,e2⟩:=U.tbls b _ e1
   exact ⟨m1++m2,by rw [e2,Array.append_assoc]⟩
 · rcases c with c | ⟨v,e0⟩
   · exact hB3 b o e (nt b c) (.inl c)
   · obtain ⟨o',e1⟩:=bs.there b v e0 (by simp)
     exact hB3 b o e (ns b v e0 hb) (.inr ⟨o',e1⟩)
end
end L2
namespace L2
structure ExcC(K:PySem.W.Frag)(C:Addr):Prop where
 at_:∀h:Heap,K.In h→∃(nm q:Str) (N:Addr) (bs bm:List Value) (hdct:Bool) (sn:List Str) (sub:List Value) (ab:Bool) (col:Option Bool) (dd:Option Addr) (k0 k1 k2 k3 k5:Option Value) (mN:Str→Option Value),
  h.get? C=some (excClassObj nm q C N bs bm hdct sn sub ab col dd k0 k1 k2 k3 k5 "ValueError.__new__")∧h.Ns N mN∧mN "__init__"=none∧
  OwnTail h [.type "ValueError",.type "Exception",.type "BaseException",.type "object"] bm
noncomputable def PassesS(CX:CXT)(X:Cx)(EE:St→XK):Prop:=∀(pins:List (Addr×Obj)) (σ:St) (H:Hp) (s:Shared) (e:Value) (s':Shared),Inv X pins σ H s→CX X.stack H s (EE σ) e s'→X.xe e s'
noncomputable def tCallE(sp:Sp)(EE:St→XK)(t:TA):TE:=fun σ H Q=>t σ H fun vs H1=>sp vs H1 Q (EE σ)
section
variable {X:Cx} {CX:CXT} {k j:Nat} {ps:List Str} {sp:Sp} {EE:St→XK} {x:Str} {p pos:Pos} {e:Expr} {es:List Expr} {t:TA}
theorem pe_callE(D:Def X.prog X.w X.K X.mg X.base CX j x ps sp)(hr:Room k X.A)(hg:Gl X x)(hx:PassesS CX X EE)(ha:PA X (e::es) t)(hj:j≤k:=by decide)
 (hdb:(x==("__debug__":Str))=false:=by decide) (he:starEach (e::es) X.env=(false,eval e X.env)::starEach es X.env:=by rfl) (hpl:(backTo pos (starEach es X.env)).any (·.1)=false:=by rfl):
 PE X (.Call (.Name x p) (e::es) [] pos) (tCallE sp EE t):=by
 obtain ⟨f,fd,F,hm,hk,hb⟩:=D.ex
 intro pins s σ H Q I h
 refine wpAny_Call_Name_kw (ld_glob I hg hm ?_ hdb)
 refine PySem.W.callWith_K (h₀:=X.base) I.ok.mod.kin hk (thn (ha pos pins s σ H _ I h) fun us s1 ⟨vs,H1,I1,r,q⟩=>⟨I1.kIn,?_⟩) he hpl
 have hl:us.length=ps.length:=by rw [← r.length];exact F.len _ _ _ _ q
 have hb':BindsTo s1 fd ⟨us,[]⟩ (ps.zip us):=by
  have z:=hb s1 us I1.kIn (by rw [List.append_nil];exact hl)
  rw [List.append_nil]at z
  exact z
 refine wpAny_call (codeAny_mono (F.run X.A X.stack s1 H1 ⟨us,[]⟩ us vs Q (EE σ) (hr.mono hj) I1.env0 hb' r q) fun rs s' hq=>?_)
 cases rs with
 | error ev=>exact hx pins σ H1 s1 ev s' I1 hq
 | ok fl=>
  cases fl with
  | ret u=>exact I1.after hq
  | next=>exact False.elim hq
  | brk=>exact False.elim hq
  | cont=>exact False.elim hq
end
structure Air(X:Cx)(pins:List (Addr×Obj))(σ:St)(H:Hp)(x:Addr)(cls:Value)(s:Shared):Prop where
 ex:∃(H0:Hp) (s0:Shared) (a0:Value) (B:Heap),Inv X pins σ H0 s0∧s.os=s0.os∧AllBare s.gens∧Un (frs X.stack) [] H0 H s0.heap s.heap∧HOk X.prog X.w H s.heap∧
  Heap.FlyingW B X.stack x cls a0 s.heap∧Spares (frs X.stack) H s0.heap s.heap B∧H x=none∧s0.heap.get? x=none
section
variable {X:Cx} {pins:List (Addr×Obj)} {σ:St} {H:Hp} {x:Addr} {cls:Value} {s:Shared}
theorem Air.inv(Z:Air X pins σ H x cls s):Inv X pins σ H s:=by
 obtain ⟨H0,s0,a0,B,I,os,bare,u,ok,fl,hB,hx,hn⟩:=Z.ex
 exact I.call' os u ok bare fun b hb=>absurd hb (by simp)
theorem Air.obj(Z:Air X pins σ H x cls s):∃ob vs,s.heap.get? x=some ob∧ob.cls=cls∧ob.data= .fields vs:=by
 obtain ⟨H0,s0,a0,B,I,os,bare,u,ok,fl,hB,hx,hn⟩:=Z.ex
 obtain ⟨oe,vs,h1,h2,h3,_⟩:=fl.first
 exact ⟨oe,vs,h1,h2,h3⟩
end
noncomputable abbrev Cx.sui(X:Cx)(x:Addr):Cx:={X with A:=X.A.mark (some (.ref x)),calm:=false,xe:=fun _ _=>False}
section
variable {X:Cx} {pins:List (Addr×Obj)} {σ:St} {H:Hp} {x:Addr} {cls:Value} {s:Shared}
theorem Cx.Ok.sui(ok:X.Ok)(x:Addr):(X.sui x).Ok:=
 ⟨ok.mod,ok.kind,ok.glob,ok.blt,ok.above,ok.inj,ok.has,ok.cab,fun z=>(by cases z),ok.frames,ok.stk,ok.exf,ok.bs,ok.bsz,ok.noex,ok.exfs,ok.funs,ok.frf⟩
theorem Inv.sui(I:Inv X pins σ H s)(x:Addr):Inv (X.sui x) pins σ H s:=⟨I.ok.sui x,I.os,I.bare,I.base,I.loc,I.cell,I.free,I.freeC,I.pin,I.hok,I.len⟩
theorem Inv.unsui(I0:X.Ok)(I:Inv (X.sui x) pins σ H s):Inv X pins σ H s:=⟨I0,I.os,I.bare,I.base,I.loc,I.cell,I.free,I.freeC,I.pin,I.hok,I.len⟩
theorem SP.unsui(I0:X.Ok){D:Ends}{f:Flow}{s':Shared}(h:SP (X.sui x) pins D f s'):SP X pins D f s':=by
 cases f with
 | next=>obtain ⟨σ',H',I,q⟩:=h;exact ⟨σ',H',I.unsui I0,q⟩
 | brk=>obtain ⟨σ',H',I,q⟩:=h;exact ⟨σ',H',I.unsui I0,q⟩
 | cont=>obtain ⟨σ',H',I,q⟩:=h;exact ⟨σ',H',I.unsui I0,q⟩
 | ret u=>obtain ⟨v,σ',H',I,r,q⟩:=h;exact ⟨v,σ',H',I.unsui I0,r,q⟩
end
noncomputable abbrev TH:=Value→Addr→TS
noncomputable def hNil:TH:=fun _ _ _ _ _=>False
section
variable {X:Cx} {C:Str} {c:Value} {np pos:Pos} {b₀:Stmt} {suite:List Stmt} {rest:List ExceptHandler} {ts:TS} {tr:TH}
theorem clause_test{pins:List (Addr×Obj)}{s:Shared}{σ:St}{H:Hp}{x:Addr}{cls:Value}{b:Bool}{R:Result→Shared→Prop}(Z:Air X pins σ H x cls s)(hv:∀(Q:Value→Shared→Prop) (E:Value→Shared→Prop),Q c s→wpAny (model X.prog X.w) (X.A.mark (some (.ref x))) (eval (.Name C np) X.env) Q E s)
 (e:PySem.W.exmOne X.K cls c=some b) (h:R (.ok (if b then .brk else .next)) s):
 codeAny (model X.prog X.w) (X.A.mark (some (.ref x))) (.handlers (.ref x) [.ExceptHandler (some (.Name C np)) none [] pos] X.env) R s:=by
 refine codeAny_handlers_test (hv _ _ ?_)
 obtain ⟨ob,vs,h1,h2,_⟩:=Z.obj
 have LT:PySem.W.Looks (model X.prog X.w) s.heap (typeOf (.ref x)) cls:=h2▸(PySem.W.Looks.ld h1).andThen .now
 exact (PySem.W.exm_one Z.inv.kIn LT e).here h
end
section
variable {X:Cx} {pins:List (Addr×Obj)} {σ:St} {H:Hp} {x:Addr} {cls:Value} {s:Shared}
theorem name_goes{i:Nat}{n:Str}{M:Model}{A:Around}{E:Value→Shared→Prop}{pos:Pos}{Q:Unit→Shared→Prop}(I:Inv X pins σ H s)(hN:X.N.Nodup)(hi:X.N[i]?=some n)(hl:X.env.kindOf n=some .local)
 (h:∀s',Inv X pins (σ.set i none) H s'→Q () s'):wpAny M A (do bindName X.env n .none;unbindBehindTheSuite X.env n pos) Q E s:=by
 obtain ⟨m,hn,hm⟩:=id I.loc
 refine wpAny_nameGoes_keeps hl hn (by rw [I.ok.kind];rfl) fun h' v hn' hs=>h _ ?_
 obtain ⟨oL,_,_,hoL,_⟩:=id hn
 have nL:∀b o,X.s₀.heap.get? b=some o→b≠X.env.locals:=fun b o e=>Nat.ne_of_lt (Nat.lt_of_lt_of_le (Heap.lt_size e) I.ok.above)
 refine ⟨I.ok,I.os,I.bare,⟨fun b o e n hb hx=>(hs.2 b (nL b o e)).trans (I.base.keep b o e n hb hx),fun b o e n hb hx=>?_,I.base.free,fun b o e hx=>?_,I.base.tups,I.base.frzs,I.base.tbls⟩,⟨_,hn',fun j y v' e1 e2 e3=>?_⟩,fun y c e=>?_,I.free,I.freeC,fun p hp=>?_,fun b o e=>?_,by simpa using I.len⟩
 · obtain ⟨sl,e1⟩:=I.base.slot b o e n hb hx
   exact ⟨sl,(hs.2 b (nL b o e)).trans e1⟩
 · obtain ⟨o',e1⟩:=I.base.there b o e hx
   exact ⟨o',(hs.2 b (nL b o e)).trans e1⟩
 · have hj:j≠i:=by
    rintro rfl
    by_cases hlt:j < σ.length
    · rw [List.getElem?_set_self hlt]at e2;cases e2
    · rw [List.getElem?_eq_none (by rw [List.length_set];omega)]at e2;cases e2
   rw [List.getElem?_set_ne (Ne.symm hj)]at e2
   obtain ⟨u',r',q⟩:=hm j y v' e1 e2 e3
   refine ⟨u',r',?_⟩
   rcases q with ⟨k,e⟩ | ⟨k,c,e,z⟩
   · have ny:y≠n:=fun z=>hj (nodup_ix hN e1 (z▸hi))
     exact .inl ⟨k,by simp [ny,e]⟩
   · exact .inr ⟨k,c,e,z.sameBut hs (I.cne y c e)⟩
 · obtain ⟨w',z⟩:=I.cell y c e
   exact ⟨w',z.sameBut hs (I.cne y c e)⟩
 · obtain ⟨e,n1,ne,nf,d⟩:=I.pin p hp
   exact ⟨(hs.2 p.1 ne).trans e,n1,ne,nf,d⟩
 · refine (I.hok b o e).stay (fun c w' hc q=>(hs.2 c ?_).trans q) (fun _ q=>q) fun _ _ q=>q
   rintro rfl
   rcases hc with z | hc
   · rw [← z,I.free]at e;cases e
   · rw [I.free]at hc;cases hc
end
noncomputable def endsAs(i:Nat)(D:Ends):Ends:={nx:=fun σ H=>D.nx (σ.set i none) H,rt:=D.rt,bk:=fun σ H=>D.bk (σ.set i none) H,ct:=fun σ H=>D.ct (σ.set i none) H}
noncomputable abbrev Cx.tryX(X:Cx)(pn:List (Addr×Obj))(xe:Value→Shared→Prop):Cx:={X with pn:=pn,xe:=xe}
section
variable {X:Cx} {body:List Stmt} {h₀:ExceptHandler} {hs:List ExceptHandler} {pos:Pos} {tb:(St→XK)→TS} {th:TH} {pins:List (Addr×Obj)} {σ:St} {H:Hp} {s:Shared} {pn:List (Addr×Obj)} {xe:Value→Shared→Prop}
theorem Inv.tryIn(I:Inv X pins σ H s)(xe:Value→Shared→Prop):Inv (X.tryX (X.pn++pins) xe) [] σ H s:=
 ⟨⟨I.ok.mod,I.ok.kind,I.ok.glob,I.ok.blt,I.ok.above,I.ok.inj,I.ok.has,I.ok.cab,I.ok.hd,I.ok.frames,I.ok.stk,I.ok.exf,I.ok.bs,I.ok.bsz,I.ok.noex,I.ok.exfs,I.ok.funs,I.ok.frf⟩,I.os,I.bare,I.base,I.loc,I.cell,I.free,I.freeC,fun p hp=>I.pin p (by simpa using hp),I.hok,I.len⟩
theorem Inv.tryOut{pl:List (Addr×Obj)}(I0:X.Ok)(I:Inv (X.tryX (X.pn++pins) xe) pl σ H s):Inv X pins σ H s:=
 ⟨I0,I.os,I.bare,I.base,I.loc,I.cell,I.free,I.freeC,fun p hp=>I.pin p (List.mem_append_left _ hp),I.hok,I.len⟩
theorem SP.tryOut{pl:List (Addr×Obj)}(I0:X.Ok){D:Ends}{f:Flow}{s':Shared}(h:SP (X.tryX (X.pn++pins) xe) pl D f s'):SP X pins D f s':=by
 cases f with
 | next=>obtain ⟨σ',H',I,q⟩:=h;exact ⟨σ',H',I.tryOut I0,q⟩
 | brk=>obtain ⟨σ',H',I,q⟩:=h;exact ⟨σ',H',I.tryOut I0,q⟩
 | cont=>obtain ⟨σ',H',I,q⟩:=h;exact ⟨σ',H',I.tryOut I0,q⟩
 | ret u=>obtain ⟨v,σ',H',I,r,q⟩:=h;exact ⟨v,σ',H',I.tryOut I0,r,q⟩
end
end L2
namespace L2
open PySem.W
noncomputable def strKeysB(es:Array DictEntry):Bool:=es.toList.all fun e=>match e.key with
 | .str _ _=>true
 | _=>false
theorem strKeys_of{es:Array DictEntry}(h:strKeysB es=true):StrKeys es:=fun e he=>by
 have z:=List.all_eq_true.mp h e (by simpa using he)
 cases k:e.key with
 | str n t=>exact ⟨n,t,rfl⟩
 | _=>rw [k]at z;cases z
theorem ns_of{K:Frag}{h:Heap}{N:Addr}{oc:Value}{od:Option Addr}{es:Array DictEntry}{ep:Nat}{sl:Array (Option Value)}(X:K.In h)(l:K.lookup N=some ⟨oc,od,.dict es ep,sl⟩)(k:strKeysB es=true):h.Ns N (nsFind es):=
 ⟨_,es,ep,X _ _ l,rfl,strKeys_of k,fun _=>rfl⟩
theorem excC_of{K:Frag}{C N A:Addr}{nm q:Str}{bs:List Value}{hdct:Bool}{sn:List Str}{sub:List Value}{ab:Bool}{col:Option Bool}{dd:Option Addr}{k0 k1 k2 k3 k5:Option Value}{oc c0 oc2:Value}{od dA od2:Option Addr}{es es2:Array DictEntry}{ep ep2:Nat}{sl slA sl2:Array (Option Value)}{cdA:ClassData}
 (lC:K.lookup C=some (excClassObj nm q C N bs [.ref A,.type "ValueError",.type "Exception",.type "BaseException",.type "object"] hdct sn sub ab col dd k0 k1 k2 k3 k5 "ValueError.__new__"))
 (lN:K.lookup N=some ⟨oc,od,.dict es ep,sl⟩) (sN:strKeysB es=true) (iN:nsFind es "__init__"=none) (lA:K.lookup A=some ⟨c0,dA,.cls cdA,slA⟩) (lNA:K.lookup cdA.ns=some ⟨oc2,od2,.dict es2 ep2,sl2⟩) (sNA:strKeysB es2=true) (iNA:nsFind es2 "__init__"=none):ExcC K C:=
 ⟨fun h X=>⟨nm,q,N,bs,_,hdct,sn,sub,ab,col,dd,k0,k1,k2,k3,k5,nsFind es,X _ _ lC,ns_of X lN sN,iN,.own (X _ _ lA) (ns_of X lNA sNA) iNA .base⟩⟩
theorem exm_ref{K:Frag}{C:Addr}{cls:Value}{b:Bool}{cd:ClassData}(s1:subIn K (.ref C) (.type "BaseException")=some true)(c1:clsIn K C=some cd)(t1:typeIn K (.ref C)=some (.type "type"))(s2:subIn K cls (.ref C)=some b):exmOne K cls (.ref C)=some b:=by
 unfold exmOne kitCls
 dsimp only
 rw [s1,c1,t1]
 exact s2
section
variable {σ:St} {H:Hp} {Q:VK} {D:Ends} {K:Frag}
theorem rd_callE{sp:Sp}{EE:St→XK}{t:TA}:tCallE sp EE t σ H Q=t σ H fun vs H1=>sp vs H1 Q (EE σ):=rfl
theorem rd_hnil{cls:Value}{x:Addr}:hNil cls x D σ H=False:=rfl
theorem rd_ends{i:Nat}:endsAs i D={nx:=fun σ H=>D.nx (σ.set i none) H,rt:=D.rt,bk:=fun σ H=>D.bk (σ.set i none) H,ct:=fun σ H=>D.ct (σ.set i none) H}:=rfl
end
end L2
namespace L2
theorem compLoop_any{prog:Program}{w:World}{A:Around}{R:Result→Shared→Prop}{s:Shared}{elt target iter:Expr}{ifs:List Expr}{scope:Scope}{pos:Pos}{it acc:Value}{env:Env}(I:Nat→Shared→Prop)
 (turn:∀n s,I n s→wpAny (model prog w) A (pyNext it) (fun r s₁=>match r with
  | none=>R (.ok .next) s₁
  | some v=>wpAny (model prog w) A (letOwnedTupleGo target it v) (fun _ s₁=>wpAny (model prog w) A (assign target env v) (fun _ s₂=>
   wpAny (model prog w) A (forIn ifs true fun c r=>if r=true then do let ok ← isTrue c env (eval c env);pure (ForInStep.yield ok) else pure (ForInStep.yield r)) (fun ok s₃=>
    if ok=true then wpAny (model prog w) A (eval elt env) (fun x s₄=>
     wpAny (model prog w) A (call (.builtin "list.append") [acc,x]) (fun _ s₅=>∃m,m < n∧I m s₅) (notedBy (model prog w) A env fun e s'=>R (.error e) s') s₄) (notedBy (model prog w) A env fun e s'=>R (.error e) s') s₃
    else ∃m,m < n∧I m s₃) (notedBy (model prog w) A env fun e s'=>R (.error e) s') s₂) (notedBy (model prog w) A env fun e s'=>R (.error e) s') s₁) (notedBy (model prog w) A env fun e s'=>R (.error e) s') s₁) (notedBy (model prog w) A env fun e s'=>R (.error e) s') s)
 (n:Nat) (h:I n s):
 codeAny (model prog w) A (.compLoop (.ListComp elt [⟨target,iter,ifs,0⟩] scope pos) 0 it acc env) R s:=by
 refine codeAny_loop rfl I (fun n s hI=>?_) n h
 show wpAny _ A ((compTurn (.ListComp elt [⟨target,iter,ifs,0⟩] scope pos) 0 it acc env).onRaise (fun x=>do noteFrame x env;theTreesLotGoes x)) _ _ s
 refine wpAny_noted ?_
 rw [compTurn_list]
 refine wpAny_bind (wpAny_standAt (wpAny_bind (wpAny_mono (turn n s hI) (fun r s₁ h₁=>?_) fun _ _ h'=>h')))
 cases r with
 | none=>exact wpAny_pure h₁
 | some v=>
  refine wpAny_bind (wpAny_mono h₁ (fun _ s₁ h₁=>?_) fun _ _ h'=>h')
  refine wpAny_bind (wpAny_mono h₁ (fun _ s₂ h₂=>wpAny_bind (wpAny_mono h₂ (fun ok s₃ h₃=>?_) fun _ _ h'=>h')) fun _ _ h'=>h')
  cases ok with
  | false=>exact wpAny_pure ⟨rfl,h₃⟩
  | true=>
   exact wpAny_bind (wpAny_bind (wpAny_mono h₃ (fun x s₄ h₄=>wpAny_bind (wpAny_mono h₄ (fun _ s₅ h₅=>wpAny_pure (wpAny_pure ⟨rfl,h₅⟩)) fun _ _ h'=>h')) fun _ _ h'=>h'))
noncomputable def clo(env:Env):List (Str×NameKind)→List (Str×Addr)→List (Str×Addr)
 | [],cs=>cs
 | (n,k)::r,cs=>clo env r (if (k== .free)=true then (match env.cells.lookup n with | some c=>(n,c)::cs | none=>cs) else cs)
theorem clo_loop{env:Env}:∀(names:List (Str×NameKind)) (cs:List (Str×Addr)),(∀y∈names,y.2= .free→∃c,env.cells.lookup y.1=some c)→
 (forIn (m:=Sem) names cs fun (x:Str×NameKind) (r:List (Str×Addr))=>match x with | (name,kind)=>if (kind== .free)=true then do let c ← cellOf env name;pure (ForInStep.yield ((name,c)::r)) else pure (ForInStep.yield r))=pure (clo env names cs)
 | [],cs,_=>rfl
 | (n,k)::r,cs,h=>by
  rw [List.forIn_cons]
  have ih:=fun cs=>clo_loop r cs fun y hy=>h y (List.mem_cons_of_mem _ hy)
  by_cases hk:(k==NameKind.free)=true
  · obtain ⟨c,hc⟩:=h (n,k) List.mem_cons_self (by simpa using hk)
    have e:cellOf env n=pure c:=by unfold cellOf;rw [show env.cells.lookup n=some c from hc]
    simp only [hk,if_true,e,clo]
    rw [show env.cells.lookup n=some c from hc]
    exact ih _
  · simp only [hk,clo]
    exact ih _
theorem clo_closure{scope:Scope}{env:Env}(h:∀y∈scope.names,y.2= .free→∃c,env.cells.lookup y.1=some c):closureFor scope env=pure (clo env scope.names []):=by
 unfold closureFor
 show (forIn (m:=Sem) scope.names ([]:List (Str×Addr)) _ >>=fun r=>pure r)=_
 rw [clo_loop scope.names [] h]
 rfl
theorem clo_cells{env:Env}{x:Str}{c:Addr}:∀(names:List (Str×NameKind)) (cs:List (Str×Addr)),(clo env names cs).lookup x=some c→env.cells.lookup x=some c∨cs.lookup x=some c
 | [],cs,h=> .inr h
 | (n,k)::r,cs,h=>by
  unfold clo at h
  rcases clo_cells r _ h with q | q
  · exact .inl q
  · split at q
    · split at q
      · rename_i c' hc
        rw [List.lookup_cons]at q
        cases hx:x==n with
        | true=>
         rw [hx]at q
         have e:x=n:=by simpa using hx
         subst e
         simp only [Option.some.injEq]at q
         subst q
         exact .inl hc
        | false=>rw [hx]at q;exact .inr q
      · exact .inr q
    · exact .inr q
theorem clo_has{env:Env}{x:Str}{c:Addr}(hc:env.cells.lookup x=some c):∀(names:List (Str×NameKind)) (cs:List (Str×Addr)),(cs.lookup x=some c∨(cs.lookup x=none∧(x,NameKind.free)∈names))→(clo env names cs).lookup x=some c
 | [],cs,h=>by
  rcases h with h | ⟨_,h⟩
  · exact h
  · cases h
 | (n,k)::r,cs,h=>by
  unfold clo
  refine clo_has hc r _ ?_
  by_cases hx:x=n
  · subst hx
    by_cases hk:(k==NameKind.free)=true
    · rw [if_pos hk,hc]
      exact .inl (by simp [List.lookup_cons])
    · rw [if_neg hk]
      rcases h with h | ⟨h1,h2⟩
      · exact .inl h
      · refine .inr ⟨h1,?_⟩
        rcases List.mem_cons.mp h2 with e | e
        · cases e;exact absurd rfl hk
        · exact e
  · have hb:(x==n)=false:=by simpa using hx
    have key:∀cs':List (Str×Addr),cs'.lookup x=cs.lookup x→(cs'.lookup x=some c∨(cs'.lookup x=none∧(x,NameKind.free)∈r)):=fun cs' e=>by
     rw [e]
     rcases h with h | ⟨h1,h2⟩
     · exact .inl h
     · refine .inr ⟨h1,?_⟩
       rcases List.mem_cons.mp h2 with e | e
       · cases e;exact absurd rfl hx
       · exact e
    refine key _ ?_
    split
    · split
      · simp [List.lookup_cons,hb]
      · rfl
    · rfl
theorem relabel_kind{env:Env}{k':NameKind}:∀{names:List (Str×NameKind)} {x:Str},(∀y∈names,y.2≠ .cell)→
 (names.map fun (n,k)=>if (k==NameKind.free && env.scope.kind== .function && env.kindOf n==some .cell) then (n,NameKind.cell) else (n,k)).lookup x=some k'→(k'= .cell∨k'= .free)→(x,NameKind.free)∈names
 | [],_,_,h,_=>by simp at h
 | (n,k)::r,x,hc,h,hk=>by
  have ih:=@relabel_kind env k' r x (fun y hy=>hc y (List.mem_cons_of_mem _ hy))
  have h':List.lookup x ((if (k==NameKind.free && env.scope.kind== .function && env.kindOf n==some .cell)=true then (n,NameKind.cell) else (n,k))::(r.map fun (n,k)=>if (k==NameKind.free && env.scope.kind== .function && env.kindOf n==some .cell) then (n,NameKind.cell) else (n,k)))=some k':=h
  by_cases hx:x=n
  · subst hx
    by_cases q:(k==NameKind.free && env.scope.kind== .function && env.kindOf x==some .cell)=true
    · have:k= .free:=by simp only [Bool.and_eq_true,beq_iff_eq]at q;exact q.1.1
      subst this
      exact List.mem_cons_self
    · rw [if_neg q,List.lookup_cons]at h'
      simp only [beq_self_eq_true]at h'
      have e:k=k':=Option.some.inj h'
      rcases hk with z | z
      · exact absurd (e.trans z) (hc (x,k) List.mem_cons_self)
      · rw [e.trans z];exact List.mem_cons_self
  · have hb:(x==n)=false:=by simpa using hx
    refine List.mem_cons_of_mem _ (ih ?_ hk)
    split at h'
    · rw [List.lookup_cons,hb]at h';exact h'
    · rw [List.lookup_cons,hb]at h';exact h'
theorem lookup_relabel_free{env:Env}:∀{names:List (Str×NameKind)} {x:Str},names.lookup x=some .free→
 (names.map fun (n,k)=>if (k==NameKind.free && env.scope.kind== .function && env.kindOf n==some .cell) then (n,NameKind.cell) else (n,k)).lookup x=some .cell∨
 (names.map fun (n,k)=>if (k==NameKind.free && env.scope.kind== .function && env.kindOf n==some .cell) then (n,NameKind.cell) else (n,k)).lookup x=some .free
 | [],_,h=>by simp at h
 | (n,k)::r,x,h=>by
  have ih:=@lookup_relabel_free env r x
  show List.lookup x ((if (k==NameKind.free && env.scope.kind== .function && env.kindOf n==some .cell)=true then (n,NameKind.cell) else (n,k))::_)=_∨List.lookup x ((if (k==NameKind.free && env.scope.kind== .function && env.kindOf n==some .cell)=true then (n,NameKind.cell) else (n,k))::_)=_
  cases hx:x==n with
  | true=>
   simp only [List.lookup_cons,hx]at h
   cases h
   split
   · left;simp [List.lookup_cons,hx]
   · right;simp [List.lookup_cons,hx]
  | false=>
   simp only [List.lookup_cons,hx]at h
   split
   · simp only [List.lookup_cons,hx];exact ih h
   · simp only [List.lookup_cons,hx];exact ih h
structure Blk where
 s:Shared
 H:Hp
 C:Addr
 fp:List Addr
noncomputable abbrev Cx.blk(X:Cx)(scope:Scope)(N':List Str)(b:Blk):Cx:=
 {X with N:=N',s₀:=b.s,H₀:=b.H,env:=compEnvC scope (clo X.env scope.names []) b.C X.env,outer:=X.stack,ex:=b.fp,fn:=fun _=>false,pn:=[],xe:=fun _ _=>False}
noncomputable def around(N:List Str)(fs:List Nat):List Str:=fs.map fun j=>N.getD j ""
noncomputable def compOkB(N:List Str)(esc scope:Scope)(xs:List Str)(fs:List Nat):Bool:=
 decide (xs++around N fs).Nodup && (match scope.kind with | .function=>true | _=>false) && xs.all (fun x=>decide (scope.names.lookup x=some .local)) &&
 scope.names.all (fun y=>decide (y.2≠ .cell) && (!decide (y.2= .local) || decide (scope.names.lookup y.1=some .local)) && (!decide (y.2= .free) || decide (esc.names.lookup y.1=some .cell) || decide (esc.names.lookup y.1=some .free))) &&
 fs.all fun j=>decide (j < N.length) && decide (scope.names.lookup (N.getD j "")=some .free)
structure CompOk(N:List Str)(esc scope:Scope)(xs:List Str)(fs:List Nat):Prop where
 nd:(xs++around N fs).Nodup
 kind:scope.kind= .function
 own:∀x∈xs,scope.names.lookup x=some .local
 cell:∀y∈scope.names,y.2≠ .cell
 names:∀y∈scope.names,y.2= .local→scope.names.lookup y.1=some .local
 free:∀y∈scope.names,y.2= .free→esc.names.lookup y.1=some .cell∨esc.names.lookup y.1=some .free
 fs:∀j∈fs,j < N.length∧scope.names.lookup (N.getD j "")=some .free
theorem compOk_of{N:List Str}{esc scope:Scope}{xs:List Str}{fs:List Nat}(h:compOkB N esc scope xs fs=true):CompOk N esc scope xs fs:=by
 unfold compOkB at h
 simp only [Bool.and_eq_true,decide_eq_true_eq,List.all_eq_true]at h
 obtain ⟨⟨⟨⟨h1,h2⟩,h3⟩,h4⟩,h5⟩:=h
 refine ⟨h1,?_,h3,fun y hy=>(h4 y hy).1.1,fun y hy e=>?_,fun y hy e=>?_,h5⟩
 · split at h2
   · assumption
   · cases h2
 · have:=(h4 y hy).1.2
   simpa [e] using this
 · have:=(h4 y hy).2
   simpa [e] using this
section
variable {X:Cx} {pins:List (Addr×Obj)} {σ:St} {H:Hp} {s:Shared} {scope:Scope} {xs:List Str} {fs:List Nat} {fp:List Addr} {C:Addr}
theorem blk_ok(I:Inv X pins σ H s)(O:CompOk X.N X.env.scope scope xs fs)(hf:∀b∈fp,FpOk X pins H b)(hC:s.heap.objs.size≤C)(hfp:∀b∈fp,b < s.heap.objs.size):(X.blk scope (xs++around X.N fs) ⟨s,H,C,fp⟩).Ok:=by
 have hcl:∀x c,(clo X.env scope.names []).lookup x=some c→X.env.cells.lookup x=some c:=fun x c e=>by
  rcases clo_cells _ _ e with q | q
  · exact q
  · cases q
 have hsz:∀b o,X.base.get? b=some o→b < X.s₀.heap.objs.size:=fun b o e=>Nat.lt_of_lt_of_le (Heap.lt_size e) I.ok.bsz
 refine ⟨I.ok.mod,O.kind,I.ok.glob,I.ok.blt,hC,fun x y c h1 h2=>I.ok.inj x y c (hcl x c h1) (hcl y c h2),fun x hx=>?_,fun x c z=>(by cases z),I.ok.hd,I.ok.frames,.inl rfl,fun b hb=>⟨Nat.ne_of_lt (Nat.lt_of_lt_of_le (hfp b hb) hC),fun x c e=>(hf b hb).2.2.2.2.1 x c (hcl x c e)⟩,I.bs,Nat.le_trans I.ok.bsz I.sz,fun b o e hb=>?_,fun b hb hs=>?_,I.stack,I.stkFree⟩
 · have hm:(x,NameKind.free)∈scope.names:=by
    rcases hx with hx | hx
    · exact relabel_kind (env:=X.env) O.cell (show (scope.names.map _).lookup x=some NameKind.cell from hx) (.inl rfl)
    · exact relabel_kind (env:=X.env) O.cell (show (scope.names.map _).lookup x=some NameKind.free from hx) (.inr rfl)
   obtain ⟨c,hc⟩:=I.ok.has x (O.free _ hm rfl)
   exact ⟨c,clo_has hc _ _ (.inr ⟨rfl,hm⟩)⟩
 · obtain ⟨_,_,_,h4,_⟩:=hf b hb
   rcases h4 with h4 | h4
   · exact I.ok.noex b o e h4
   · exact absurd (Nat.lt_of_lt_of_le (hsz b o e) h4) (Nat.lt_irrefl _)
 · obtain ⟨_,h2,h3,_⟩:=hf b hb
   exact (List.mem_cons.mp (I.stkSub b hs)).elim h2 h3
theorem blk_in{h1:Heap}{t:Nat}{D:Addr}{m:Str→Option Value}(I:Inv X pins σ H s)(O:CompOk X.N X.env.scope scope xs fs)(hf:∀b∈fp,FpOk X pins H b)(hD:s.heap.objs.size≤D)(hC:s.heap.objs.size≤C)(hfp:∀b∈fp,b < s.heap.objs.size)(hDC:D≠C)
 (k:∀b u,s.heap.get? b=some u→h1.get? b=some u) (hDo:h1.get? D=some {cls:= .type "list",data:= .seq #[] 0}) (hn:h1.Ns C m):
 Inv (X.blk scope (xs++around X.N fs) ⟨s,H,C,fp⟩) [] (xs.map (fun _=>none)++fs.map fun j=>σ.getD j none) (upd H D (.lst [])) {s with heap:=h1,toks:=t}:=by
 have hcl:∀x c,(clo X.env scope.names []).lookup x=some c→X.env.cells.lookup x=some c:=fun x c e=>by
  rcases clo_cells _ _ e with q | q
  · exact q
  · cases q
 have ok:=blk_ok (C:=C) I O hf hC hfp
 have hnD:H D=none:=I.hok.fresh hD
 refine ⟨ok,rfl,I.bare,Un.laid k hD hnD,⟨m,hn,fun i x v e1 e2 e3=>?_⟩,fun x c e=>?_,?_,fun x c e=>?_,fun p hp=>absurd (show p∈([]:List (Addr×Obj)) from hp) (by simp),I.hok.laid k hD ⟨Nat.zero_le _,[],0,.nil,hDo⟩,by simp [around]⟩
 · by_cases hi:i < xs.length
   · rw [List.getElem?_append_left (by simpa using hi),List.getElem?_map]at e2
     cases q:xs[i]? with
     | none=>rw [q]at e2;cases e2
     | some a=>rw [q]at e2;cases e2
   · have hi:xs.length≤i:=Nat.le_of_not_lt hi
     rw [List.getElem?_append_right (by simpa using hi)]at e1 e2
     unfold around at e1
     rw [List.length_map]at e2
     rw [List.getElem?_map]at e1 e2
     cases q:fs[i - xs.length]? with
     | none=>rw [q]at e2;cases e2
     | some j=>
      rw [q]at e1 e2
      simp only [Option.map_some,Option.some.injEq]at e1 e2
      obtain ⟨hj,hl⟩:=O.fs j (List.mem_of_getElem? q)
      obtain ⟨m0,_,hl0⟩:=I.loc
      have e1':X.N[j]?=some x:=by rw [← e1,List.getD_eq_getElem?_getD,List.getElem?_eq_getElem hj];rfl
      have e2':σ[j]?=some (some v):=by
       rw [List.getD_eq_getElem?_getD]at e2
       cases z:σ[j]? with
       | none=>rw [z]at e2;cases e2
       | some y=>rw [z]at e2;simp only [Option.getD_some]at e2;rw [e2]
      rw [e1]at hl
      have hm:(x,NameKind.free)∈scope.names:=PySem.mem_of_lookup hl
      have hk:=O.free _ hm rfl
      obtain ⟨u,r,l⟩:=hl0 j x v e1' e2' (hk.elim (fun z=> .inr (.inl z)) fun z=> .inr (.inr z))
      refine ⟨u,r,?_⟩
      rcases l with ⟨z,_⟩ | ⟨_,c,hc,cell⟩
      · have z':X.env.scope.names.lookup x=some .local:=z
        rcases hk with hk | hk <;> (rw [z']at hk;cases hk)
      · refine .inr ⟨?_,c,clo_has hc _ _ (.inr ⟨rfl,hm⟩),?_⟩
        · exact lookup_relabel_free (env:=X.env) hl
        · obtain ⟨o,ho,hd⟩:=cell
          exact ⟨o,k _ _ ho,hd⟩
 · obtain ⟨v,o,ho,hd⟩:=I.cell x c (hcl x c e)
   exact ⟨v,o,k _ _ ho,hd⟩
 · show upd H D (.lst []) C=none
   rw [upd_ne (Ne.symm hDC)];exact I.hok.fresh hC
 · obtain ⟨v,q⟩:=I.cell x c (hcl x c e)
   rw [upd_ne (Nat.ne_of_lt (Nat.lt_of_lt_of_le q.lt hD))]
   exact I.freeC x c (hcl x c e)
theorem blk_out{N':List Str}{σ':St}{H':Hp}{s':Shared}{h2:Heap}{pl:List (Addr×Obj)}(I:Inv X pins σ H s)(hf:∀b∈fp,FpOk X pins H b)(hC:s.heap.objs.size≤C)(J:Inv (X.blk scope N' ⟨s,H,C,fp⟩) pl σ' H' s')(sb:Heap.SameBut C s'.heap h2):
 Inv X pins σ H' {s' with heap:=h2}:=by
 have u:=J.base
 have ne:∀b o,s.heap.get? b=some o→b≠C:=fun b o e=>Nat.ne_of_lt (Nat.lt_of_lt_of_le (Heap.lt_size e) hC)
 refine I.call' (ch:=fp) J.os ⟨fun b o e n h1 h2=>(sb.2 b (ne b o e)).trans (u.keep b o e n h1 h2),fun b o e n h1 h2=>?_,u.free,fun b o e hx=>?_,u.tups,u.frzs,u.tbls⟩ (fun a o e=>?_) J.bare fun b hb=>?_
 · obtain ⟨sl,q⟩:=u.slot b o e n h1 h2
   exact ⟨sl,(sb.2 b (ne b o e)).trans q⟩
 · obtain ⟨o',q⟩:=u.there b o e hx
   exact ⟨o',(sb.2 b (ne b o e)).trans q⟩
 · have fr:H' C=none:=J.free
   refine (J.hok a o e).stay (fun b v hc q=>(sb.2 b ?_).trans q) (fun _ q=>q) fun _ _ q=>q
   rcases hc with rfl | hc
   · exact ne_of_none e fr
   · exact ne_of_none hc fr
 · obtain ⟨_,h2,h3,h4,h5,h6⟩:=hf b hb
   exact ⟨h4,h2,h5,h6⟩
end
end L2
namespace L2
noncomputable def Kept(σ σ':St):Prop:=∀(i:Nat) (v:V),σ[i]?=some (some v)→σ'[i]?=some (some v)
noncomputable def PTs(X:Cx)(ifs:List Expr)(t:TT):Prop:=
 ∀(pins:List (Addr×Obj)) (s:Shared) (σ:St) (H:Hp) (Q:Bool→Hp→Prop),Inv X pins σ H s→t σ H Q→
   wpAny (model X.prog X.w) X.A (forIn ifs true fun c r=>if r=true then do let ok ← isTrue c X.env (eval c X.env);pure (ForInStep.yield ok) else pure (ForInStep.yield r)) (TP X pins σ Q) X.xe s
noncomputable def tYes:TT:=fun _ H Q=>Q true H
theorem pts_nil{X:Cx}:PTs X [] tYes:=fun _ _ _ H _ I h=>wpAny_tests_nil ⟨H,I,h⟩
theorem pts_one{X:Cx}{c:Expr}{t:TT}(hc:PT X c t):PTs X [c] t:=fun pins s σ H Q I h=>wpAny_tests_one (hc pins s σ H Q I h)
noncomputable def CompTail(σ0:St)(g:Blk→TG)(tt:Blk→TT)(te:Blk→TE)(Q:VK)(J:It)(H1:Hp):Prop:=∀(b:Blk) (D:Addr),H1 D=none→∃W:Nat→Nat→List V→Hp→Prop,(∃m,W 0 m [] (upd H1 D (.lst [])))∧∀i m ys H2,W i m ys H2→H2 D=some (.lst ys)∧
 ((J.stop i H2∧Q (.ref D) H2)∨(J.go i H2∧∀x H3,J.yld i H2 x H3→g b x σ0 H3 fun σ6 H6=>Kept σ0 σ6∧tt b σ6 H6 fun ok H7=>
   if ok=true then te b σ6 H7 fun y H8=>H8 D=some (.lst ys)∧ys.length < sizeLine∧∃m',m' < m∧W (i+1) m' (ys++[y]) (upd H8 D (.lst (ys++[y])))
   else ∃m',m' < m∧W (i+1) m' ys H7))
noncomputable def tComp(wi:TI)(n:Nat)(fs:List Nat)(g:Blk→TG)(tt:Blk→TT)(te:Blk→TE):TE:=fun σ H Q=>wi σ H (CompTail (List.replicate n none++fs.map fun j=>σ.getD j none) g tt te Q)
section
variable {X:Cx} {pins:List (Addr×Obj)} {σ:St} {scope:Scope} {xs:List Str} {fs:List Nat} {elt tg iter:Expr} {ifs:List Expr} {pos:Pos} {wi:TI} {g:Blk→TG} {tt:Blk→TT} {te:Blk→TE}
theorem turned_of{H:Hp}{s:Shared}{C:Addr}{h2:Heap}(I:Inv X pins σ H s)(F:FpOk X pins H C)(sb:Heap.SameBut C s.heap h2):Inv X pins σ H {s with heap:=h2}:=
 I.turned (t':=s.toks) (fun b o hb e=>(sb.2 b hb).trans e) F.1 F.2.1 F.2.2.2.1 F.2.2.2.2.1 F.2.2.2.2.2
theorem comp_run{Q:VK}{itv:Value}{s2:Shared}{E:Value→Shared→Prop}{RR:Value→Addr→Result→Shared→Prop}(hc:X.calm=true)(O:CompOk X.N X.env.scope scope xs fs)
 (hg:∀b,PG (X.blk scope (xs++around X.N fs) b) tg (g b)) (ht:∀b,PTs (X.blk scope (xs++around X.N fs) b) ifs (tt b)) (he:∀b,PE (X.blk scope (xs++around X.N fs) b) elt (te b))
 (h:PIE X pins σ tg (CompTail (List.replicate xs.length none++fs.map fun j=>σ.getD j none) g tt te Q) itv s2)
 (hR:∀D C s' m H',s'.heap.Ns C m→Inv X pins σ H' s'→Q (.ref D) H'→FpOk X pins H' C→RR (.ref D) C (.ok .next) s'):
 wpAny (model X.prog X.w) X.A (newList []) (fun acc s₃=>wpAny (model X.prog X.w) X.A (newFunctionEnv scope X.env.globals (clo X.env scope.names []) [] X.env.qual none .none (some X.env)) (fun cenv s₄=>
  codeAny (model X.prog X.w) X.A (.compStart (.ListComp elt [⟨tg,iter,ifs,0⟩] scope pos) 0 itv acc {cenv with scope:=relabel scope X.env}) (RR acc cenv.locals) s₄) E s₃) E s2:=by
 obtain ⟨it,fp,tn,J,H2,rfl,I2,T,st2,f2,rd⟩:=h
 have hfp:∀b∈fp,b < s2.heap.objs.size:=fun b hb=>by
  obtain ⟨o,e,_⟩:=T.obj _ _ st2 b hb
  exact Heap.lt_size e
 refine wpAny_newObj_type (wpAny_newFunctionEnv O.cell (by intro y hy;simp at hy) (fun h₁ hns₁ hsb₁=>?_) O.kind)
 dsimp only at hns₁ hsb₁ ⊢
 generalize hH2:s2.heap.push {cls:= .type "list",dict:=none,data:= .seq ([]:List Value).toArray}=HH at hns₁ hsb₁ ⊢
 have hC:HH.objs.size=s2.heap.objs.size+1:=by rw [← hH2,Heap.size_push]
 have hDC:s2.heap.objs.size≠HH.objs.size:=by rw [hC];exact Nat.ne_of_lt (Nat.lt_succ_self _)
 have hCle:s2.heap.objs.size≤HH.objs.size:=by rw [hC];exact Nat.le_succ _
 have old:∀b o,s2.heap.get? b=some o→h₁.get? b=some o:=fun b o e=>hsb₁.extBut b o (by rw [hC];exact Nat.ne_of_lt (Nat.lt_succ_of_lt (Heap.lt_size e))) (Heap.get?_push_of_some _ (hH2▸Heap.get?_push_of_some _ e))
 have hacc:h₁.get? s2.heap.objs.size=some {cls:= .type "list",data:= .seq #[] 0}:=hsb₁.extBut _ _ hDC (Heap.get?_push_of_some _ (hH2▸Heap.get?_push_size _ rfl))
 obtain ⟨W,⟨m0,w0⟩,turn⟩:=rd ⟨s2,H2,HH.objs.size,fp⟩ s2.heap.objs.size I2.fresh
 have I3:=blk_in (t:=s2.toks+([]:List (Str×Value)).length) I2 O f2 (Nat.le_refl _) hCle hfp hDC old hacc hns₁
 rw [show xs.map (fun _=>(none:Option V))=List.replicate xs.length none from List.map_const' ..]at I3
 generalize hX:X.blk scope (xs++around X.N fs) ⟨s2,H2,HH.objs.size,fp⟩=X' at I3
 have stat:∀{H':Hp},(∀b∈fp,H' b=none)→∀b∈fp,FpOk X' [] H' b:=fun hn b hb=>by
  subst hX
  refine ⟨hn b hb,?_,?_,.inl hb,fun x c e=>?_,fun p hp=>absurd hp (by simp)⟩
  · exact (I3.ok.exf b hb).1
  · exact I3.ok.exfs b hb
  · exact (I3.ok.exf b hb).2 x c e
 have fr3:∀b∈fp,upd H2 s2.heap.objs.size (.lst []) b=none:=fun b hb=>by
  rw [upd_ne (Nat.ne_of_lt (hfp b hb))];exact (f2 b hb).1
 have ccell:∀y c,X.env.cells.lookup y=some c→c≠HH.objs.size:=fun y c e=>by
  obtain ⟨v,q⟩:=I2.cell y c e
  exact Nat.ne_of_lt (Nat.lt_of_lt_of_le q.lt hCle)
 have cloc:HH.objs.size≠X.env.locals:=(Nat.ne_of_lt (Nat.lt_of_lt_of_le I2.lt hCle)).symm
 have eP:X'.prog=X.prog:=by rw [← hX]
 have ew:X'.w=X.w:=by rw [← hX]
 have eK:X'.K=X.K:=by rw [← hX]
 have eA:X'.A=X.A:=by rw [← hX]
 have ec:X'.calm=true:=by rw [← hX];exact hc
 have ex:X'.xe=fun _ _=>False:=by rw [← hX]
 have een:X'.env=compEnvC scope (clo X.env scope.names []) HH.objs.size X.env:=by rw [← hX]
 have hg':=hg ⟨s2,H2,HH.objs.size,fp⟩
 have ht':=ht ⟨s2,H2,HH.objs.size,fp⟩
 have he':=he ⟨s2,H2,HH.objs.size,fp⟩
 rw [hX]at hg' ht' he'
 have st1:tn 0 h₁:=T.keep _ _ _ st2 fun b hb o e=>old b o e
 have loop:∀s₃:Shared,s₃={s2 with heap:=h₁,toks:=s2.toks+([]:List (Str×Value)).length}→
  codeAny (model X.prog X.w) X.A (.compLoop (.ListComp elt [⟨tg,iter,ifs,0⟩] scope pos) 0 (.ref it) (.ref s2.heap.objs.size) (compEnvC scope (clo X.env scope.names []) HH.objs.size X.env))
   (RR (.ref s2.heap.objs.size) HH.objs.size) s₃:=by
  rintro s₃ rfl
  refine compLoop_any (fun n s'=>∃i ys H',Inv X' [] (List.replicate xs.length none++fs.map fun j=>σ.getD j none) H' s'∧tn i s'.heap∧(∀b∈fp,H' b=none)∧W i n ys H') ?_ m0 ⟨0,[],_,I3,st1,fr3,w0⟩
  rintro n s4 ⟨i,ys,H4,I4,st4,fr4,w4⟩
  obtain ⟨hD4,tn4⟩:=turn i n ys H4 w4
  rcases tn4 with ⟨stop,qn⟩ | ⟨go,step⟩
  · have td:=T.done X' eP ew eK ec i [] s4 _ H4 (notedBy (model X.prog X.w) X.A (compEnvC scope (clo X.env scope.names []) HH.objs.size X.env) fun e s'=>RR (.ref s2.heap.objs.size) HH.objs.size (.error e) s') I4 (stat fr4) st4 stop
    rw [eA]at td
    refine thn td fun r s5 ⟨hr,I5⟩=>?_
    subst hr
    obtain ⟨m5,hn5,_⟩:=I5.loc
    rw [een]at hn5
    have fr5:H4 HH.objs.size=none:=by have:=I5.free;rw [een]at this;exact this
    rw [← hX]at I5
    exact hR _ _ _ m5 H4 hn5 (blk_out I2 f2 hCle I5 (Heap.SameBut.refl ..)) qn (I2.fpOk hCle fr5)
  · have ti:=T.item X' eP ew eK ec i [] s4 _ H4 (notedBy (model X.prog X.w) X.A (compEnvC scope (clo X.env scope.names []) HH.objs.size X.env) fun e s'=>RR (.ref s2.heap.objs.size) HH.objs.size (.error e) s') I4 (stat fr4) st4 go
    rw [eA]at ti
    refine thn ti fun r s5 ⟨u,hr,h5⟩=>?_
    subst hr
    refine thn h5 fun _ s6 hq_=>?_
    obtain ⟨x,H6,I6,r6,y6,st6,fr6⟩:=hq_
    have I6':=I6.pinned (stat fr6) (T.obj _ _ st6)
    have g1:=hg' _ s6 _ H6 x u _ I6' r6 (step x H6 y6)
    rw [eP,ew,eA,een,ex]at g1
    refine wpAny_mono g1 (fun _ s7 hq_=>?_) fun _ _ z=>z.elim
    obtain ⟨σ7,H7,I7,kp7,q7⟩:=hq_
    have t1:=ht' _ s7 σ7 H7 _ I7 q7
    rw [eP,ew,eA,een,ex]at t1
    have back:∀{H9:Hp} {s9:Shared},Inv X' ([]++pinsAt fp s6.heap) σ7 H9 s9→Inv X' [] (List.replicate xs.length none++fs.map fun j=>σ.getD j none) H9 s9∧tn (i+1) s9.heap∧∀b∈fp,H9 b=none:=fun {H9 s9} I9=>by
     refine ⟨I9.unpinned.weak ?_ kp7,T.keep _ _ _ st6 fun b hb o e=>(I9.pin (b,o) (List.mem_append_right _ (List.mem_append_right _ (mem_pinsAt hb e)))).1,fun b hb=>?_⟩
     · rw [I9.len,I4.len]
     · obtain ⟨o,e,d⟩:=T.obj _ _ st6 b hb
       exact (I9.pin (b,o) (List.mem_append_right _ (List.mem_append_right _ (mem_pinsAt hb e)))).2.1
    refine wpAny_mono t1 (fun ok s8 ⟨H8,I8,q8⟩=>?_) fun _ _ z=>z.elim
    cases ok with
    | false=>
     rw [if_neg Bool.false_ne_true]at q8 ⊢
     obtain ⟨m',hm,w8⟩:=q8
     obtain ⟨b1,b2,b3⟩:=back I8
     exact ⟨m',hm,i+1,ys,H8,b1,b2,b3,w8⟩
    | true=>
     rw [if_pos rfl]at q8 ⊢
     have e1:=he' _ s8 σ7 H8 _ I8 q8
     rw [eP,ew,eA,een,ex]at e1
     refine wpAny_mono e1 (fun uy s9 hq_=>?_) fun _ _ z=>z.elim
     obtain ⟨y,H9,I9,r9,hD9,hz,m',hm,w9⟩:=hq_
     have a1:=mt_append (X:=X') (pins:=[]++pinsAt fp s6.heap) (s:=s9) (σ:=σ7) (H:=H9) (x:= .ref s2.heap.objs.size) (xs:=[y]) (v:= .ref s2.heap.objs.size) (us:=[uy]) (Q:=fun _ H'=>H'=upd H9 s2.heap.objs.size (.lst (ys++[y]))) I9 rfl (.cons r9 .nil) ⟨_,ys,y,rfl,rfl,hD9,hz,rfl⟩
     rw [eP,ew,eA,ex]at a1
     refine wpAny_mono a1 (fun _ s10 hq_=>?_) fun _ _ z=>z.elim
     obtain ⟨_,H10,I10,_,e10⟩:=hq_
     subst e10
     obtain ⟨b1,b2,b3⟩:=back I10
     exact ⟨m',hm,i+1,_,_,b1,b2,b3,w9⟩
 exact codeAny_compStart_list (loop _ rfl) (T.self _ 0 _ _ _ st1 (loop _ rfl))
theorem pe_compG(hc:X.calm=true)(hok:compOkB X.N X.env.scope scope xs fs=true)(hi:PI X tg iter wi)
 (hg:∀b,PG (X.blk scope (xs++around X.N fs) b) tg (g b)) (ht:∀b,PTs (X.blk scope (xs++around X.N fs) b) ifs (tt b)) (he:∀b,PE (X.blk scope (xs++around X.N fs) b) elt (te b))
 (hs:∀x,foldedSetIterable iter X.env x=pure x:=by intro _;rfl):
 PE X (.ListComp elt [⟨tg,iter,ifs,0⟩] scope pos) (tComp wi xs.length fs g tt te):=by
 intro pins s σ H Q I h
 have O:=compOk_of hok
 rw [eval_ListComp]
 refine wpAny_comprehension_free (use:=none) rfl hs (clo_closure fun y hy hf=>I.ok.has _ (O.free y hy hf)) O.kind O.names (thn (hi pins s σ H _ I h) fun v s1 h1=>thn h1 fun itv s2 h2=>?_)
 exact comp_run (RR:=fun acc C=>compPost (model X.prog X.w) X.A X.xe none (EP X pins σ Q) acc C) hc O hg ht he h2 fun D C s' m H' hn I' q F=>⟨m,hn,fun h2 sb=>⟨.ref D,H',turned_of I' F sb,rfl,q⟩⟩
theorem ps_comp{y:Str}{py:Pos}{i:Nat}(hN:X.N.Nodup)(hy:X.N[i]?=some y)(hyl:X.env.kindOf y=some .local)(hc:X.calm=true)(hok:compOkB X.N X.env.scope scope xs fs=true)(hi:PI X tg iter wi)
 (hg:∀b,PG (X.blk scope (xs++around X.N fs) b) tg (g b)) (ht:∀b,PTs (X.blk scope (xs++around X.N fs) b) ifs (tt b)) (he:∀b,PE (X.blk scope (xs++around X.N fs) b) elt (te b)) {spos:Pos}
 (hsw:swapsWith (.ListComp elt [⟨tg,iter,ifs,0⟩] scope pos) (some (.Name y py)) spos.line X.env=pure true:=by rfl)
 (hs:∀x,foldedSetIterable iter X.env x=pure x:=by intro _;rfl):
 PS X (.Assign [.Name y py] (.ListComp elt [⟨tg,iter,ifs,0⟩] scope pos) spos) (tAsg (tComp wi xs.length fs g tt te) (gName i)):=by
 intro pins s σ H D I h
 have O:=compOk_of hok
 rw [exec_Assign_Name_used _ _ _ _ hsw]
 refine wpAny_bind (wpAny_standAt (wpAny_bind ?_))
 show wpAny _ X.A (do let _ ← comprehension (.ListComp elt [⟨tg,iter,ifs,0⟩] scope pos) scope X.env _ (newList []) false (eval iter X.env) (some (assign (.Name y py) X.env))) _ _ s
 refine wpAny_bind (wpAny_mono (wpAny_comprehension_free (use:=some (assign (.Name y py) X.env)) (Q:=fun _ s'=>SP X pins D .next s') rfl hs (clo_closure fun y hy hf=>I.ok.has _ (O.free y hy hf)) O.kind O.names
  (thn (hi pins s σ H _ I h) fun v s1 h1=>thn h1 fun itv s2 h2=>?_)) (fun _ s' hq=>wpAny_pure (wpAny_pure hq)) fun _ _ e=>e)
 refine comp_run (RR:=fun acc C=>compPost (model X.prog X.w) X.A X.xe (some (assign (.Name y py) X.env)) (fun _ s'=>SP X pins D .next s') acc C) hc O hg ht he h2 fun D' C s' m H' hn I0 q0 F=>?_
 show wpAny _ X.A (assign (.Name y py) X.env (.ref D')) _ _ _
 refine wpAny_assign_Name (store_ok2 I0 hN hy (.inl hyl) (v:= .ref D') rfl (fun s3 I3 hsb=>?_) (.inr hyl))
 obtain ⟨a,sb3,ha⟩:=hsb
 have haC:C≠a:=by
  rcases ha with rfl | ha
  · exact F.2.1
  · exact (F.2.2.2.2.1 y a ha).symm
 exact ⟨m,hn.sameBut sb3 haC,fun h4 sb4=>⟨_,H',turned_of I3 F sb4,q0⟩⟩
end
end L2
namespace L2
noncomputable def Its(z:Str):It:=⟨fun i _=>i < z.cps.size,fun i H x H'=>H'=H∧∃c,z.cps[i]?=some c∧x= .str ⟨#[c]⟩,fun i _=>z.cps.size≤i⟩
noncomputable def iStr(tl:TE):TI:=fun σ H R=>tl σ H fun x H1=>∃z,x= .str z∧R (Its z) H1
section
variable {P:Program} {w:World} {K:PySem.W.Frag} {tg:Expr}
theorem turn_str(ty:String)(hty:ty="str_ascii_iterator"∨ty="str_iterator")(z:Str)(t:Tok)(it:Addr):Turn P w K tg (Its z) [it] it (fun i h=>i≤z.cps.size∧h.IsStrIter it ty z t i) where
 mem:=by simp
 obj:=fun i h st b hb=>by
  have e:b=it:=by simpa using hb
  subst e
  obtain ⟨o,e,c,d⟩:=st.2
  exact ⟨o,e,fun v z=>by rw [d]at z;cases z⟩
 keep:=fun i h h' st k=>⟨st.1,by obtain ⟨o,e,r⟩:=st.2;exact ⟨o,k it (by simp) o e,r⟩⟩
 item:=by
  intro X hP hw hK hc i pins s σ H E I hf st hg
  subst hP hw hK
  obtain ⟨f0,f1,f2,f3,f4,f5⟩:=hf it (by simp)
  have W:Walks X.prog X.w X.A it [it] [it] z.cps.size (SignAt z) (fun i h=>h.IsStrIter it ty z t i):=by
   rcases hty with rfl | rfl
   · exact Walks.strAscii (I.ok.hd hc) it z t
   · exact Walks.strWide (I.ok.hd hc) it z t
  refine W.item i s _ _ hg st.2 fun v h' tk hv st' kk=>?_
  obtain ⟨c,u,hcc,rfl⟩:=hv
  have I1:Inv X pins σ H {s with heap:=h',toks:=tk}:=I.turned (fun b o hb e=>kk b o (by simpa using hb) e) f0 f1 f3 f4 f5
  obtain ⟨o,e,cc,d⟩:=id st'
  refine ⟨_,rfl,go_of (s:={s with heap:=h',toks:=tk}) (n:=ty) e cc d (by rcases hty with rfl | rfl <;> decide) ⟨.str ⟨#[c]⟩,H,I1,⟨u,rfl⟩,⟨rfl,c,hcc,rfl⟩,⟨hg,st'⟩,fun b hb=>(hf b hb).1⟩⟩
 done:=by
   intro X hP hw hK hc i pins s σ H E I hf st hg
   subst hP hw hK
   obtain ⟨f0,f1,f2,f3,f4,f5⟩:=hf it (by simp)
   have W:Walks X.prog X.w X.A it [it] [it] z.cps.size (SignAt z) (fun i h=>h.IsStrIter it ty z t i):=by
    rcases hty with rfl | rfl
    · exact Walks.strAscii (I.ok.hd hc) it z t
    · exact Walks.strWide (I.ok.hd hc) it z t
   have hi:i=z.cps.size:=Nat.le_antisymm st.1 hg
   subst hi
   exact W.done s _ _ st.2 fun h' tk kk=>⟨rfl,I.turned (fun b o hb e=>kk b o (by simpa using hb) e) f0 f1 f3 f4 f5⟩
 self:=fun _ _ _ _ _ st h=>by
  rcases hty with rfl | rfl
  · exact wpAny_pyIter_striter_ascii st.2 h
  · exact wpAny_pyIter_striter_wide st.2 h
end
section
variable {X:Cx} {tg:Expr}
theorem pi_str{l:Expr}{tl:TE}(hl:PE X l tl):PI X tg l (iStr tl):=by
 intro pins s σ H R I h
 refine thn (hl pins s σ H _ I h) fun v s1 hq_=>?_
 obtain ⟨x,H1,I1,r1,q1⟩:=hq_
 obtain ⟨z,e,q⟩:=q1
 subst e
 obtain ⟨t,rfl⟩:=r1
 have fin:∀ty,(ty="str_ascii_iterator"∨ty="str_iterator")→PIE X pins σ tg R (.ref s1.heap.objs.size) {s1 with heap:=s1.heap.push {cls:= .type ty,data:= .fields #[.str z t,.int 0 0]}}:=fun ty hty=>by
  refine ⟨s1.heap.objs.size,[s1.heap.objs.size],_,_,H1,rfl,I1.kept (t':=s1.toks) fun b o e=>Heap.get?_push_of_some _ e,turn_str ty hty z t _,⟨Nat.zero_le _,_,Heap.get?_push_size _ rfl,rfl,rfl⟩,fun b hb=>?_,q⟩
  have e:b=s1.heap.objs.size:=by simpa using hb
  subst e
  exact I1.fpOk (Nat.le_refl _) I1.fresh
 cases ha:z.cps.all (· < 128)
 · exact wpAny_pyIter_wide ha (fin _ (.inr rfl))
 · exact wpAny_pyIter_ascii ha (fin _ (.inl rfl))
noncomputable def rAll(K:PySem.W.Frag):List V→Hp→VK→Prop:=fun xs H Q=>∃(p:Addr) (bs:List Bool),xs=[.ref p]∧SqL K H p (bs.map V.bl)∧Q (.bl (bs.all id)) H
theorem call_all(hc:X.calm=true):CallR X (.builtin "all") (rAll X.K):=by
 intro pins s σ H xs us Q I r h
 obtain ⟨p,bs,rfl,hp,q⟩:=h
 obtain ⟨u,rfl,ru⟩:=vals1 r
 cases ru
 obtain ⟨its,r,pl,hz⟩:=I.list hp
 have hlt:p < s.heap.objs.size:=by obtain ⟨o,n,e,_⟩:=pl;exact Heap.lt_size e
 refine call_all_walk (wpAny_pyIter_list pl.isList ⟨s.heap.objs.size,_,_,_,_,_,fun i=>bs.getD i true,rfl,Walks.list (show X.A.in1.handled=none from I.ok.hd hc) s.heap.objs.size p (Nat.ne_of_lt hlt) its.toArray,⟨⟨_,Heap.get?_push_size _ rfl,rfl,rfl⟩,pl.isList.push _⟩,?_,fun h' tk kk=>?_⟩)
 · intro i v s' Q' E' hP hQ'
   have hP:its.toArray[i]?=some v:=hP
   have hlen:=r.length
   rw [List.length_map]at hlen
   have hi:i < bs.length:=by
    have:=(Array.getElem?_eq_some_iff.mp hP).1
    rw [List.size_toArray]at this
    omega
   obtain ⟨u,hu,ru⟩:=r.get (i:=i) (x:=V.bl (bs[i])) (by simp [hi])
   have e:u=v:=by
    have:its[i]?=some v:=by simpa using hP
    rw [hu]at this;exact Option.some.inj this
   subst e
   cases ru
   dsimp only at hQ'
   rw [List.getD_eq_getElem?_getD,List.getElem?_eq_getElem hi]at hQ'
   exact wpAny_pure hQ'
 · refine ⟨.bl _,H,I.kept (t':=tk) fun b o e=>kk b o ?_ (Heap.get?_push_of_some _ e),rfl,?_⟩
   · simpa using Nat.ne_of_lt (Heap.lt_size e)
   · have hlen:=r.length
     rw [List.length_map]at hlen
     have:((List.range its.toArray.size).all fun i=>bs.getD i true)=bs.all id:=by
      rw [List.size_toArray,← hlen]
      rw [Bool.eq_iff_iff,List.all_eq_true,List.all_eq_true]
      constructor
      · intro h x hx
        obtain ⟨i,hi,rfl⟩:=List.mem_iff_getElem.mp hx
        have:=h i (by simpa using hi)
        simpa [List.getD_eq_getElem?_getD,List.getElem?_eq_getElem hi] using this
      · intro h i hi
        have hi:i < bs.length:=by simpa using hi
        rw [List.getD_eq_getElem?_getD,List.getElem?_eq_getElem hi]
        exact h _ (List.getElem_mem hi)
     rw [this];exact q
end
noncomputable abbrev TJ:=Str→St→Hp→(Str→Hp→Prop)→Prop
noncomputable def PJ(X:Cx)(es:List Expr)(t:TJ):Prop:=
 ∀(acc:Str) (pins:List (Addr×Obj)) (s:Shared) (σ:St) (H:Hp) (Q:Str→Hp→Prop),Inv X pins σ H s→t acc σ H Q→
   Joins (model X.prog X.w) X.A X.xe (evalEach es X.env) acc (fun out s'=>∃H',Inv X pins σ H' s'∧Q out H') s
noncomputable def jNil:TJ:=fun acc _ H Q=>Q acc H
noncomputable def jCons(te:TE)(tr:TJ):TJ:=fun acc σ H Q=>te σ H fun x H1=>∃y,x= .str y∧(acc++y).length≤sizeLine∧tr (acc++y) σ H1 Q
noncomputable def tFstr(t:TJ):TE:=fun σ H Q=>t Str.empty σ H fun out H1=>out.length≤sizeLine∧Q (.str out) H1
noncomputable def tFmt(te:TE):TE:=fun σ H Q=>te σ H fun x H1=>(∃z,x= .str z∧z.length≤sizeLine∧Q (.str z) H1)∨∃i,x= .int i∧i.natAbs.log2 < 1920∧Q (.str (toString i)) H1
section
variable {X:Cx} {e v₁ v₂:Expr} {es:List Expr} {te:TE} {tr t:TJ} {pos:Pos}
theorem pj_nil:PJ X [] jNil:=fun _ _ _ _ H _ I h=>⟨H,I,h⟩
theorem pj_cons(he:PE X e te)(hr:PJ X es tr):PJ X (e::es) (jCons te tr):=by
 intro acc pins s σ H Q I h
 refine thn (he pins s σ H _ I h) fun v s1 hq_=>?_
 obtain ⟨x,H1,I1,r1,y,ex,hz,q⟩:=hq_
 subst ex
 obtain ⟨t,rfl⟩:=r1
 exact ⟨y,t,rfl,hz,hr _ pins s1 σ H1 Q I1 q⟩
theorem Joins.mono{M:Model}{A:Around}{E:Value→Shared→Prop}{Q Q':Str→Shared→Prop}(h:∀o s,Q o s→Q' o s):∀{parts:List (Sem Value)} {acc:Str} {s:Shared},Joins M A E parts acc Q s→Joins M A E parts acc Q' s
 | [],_,_,q=>h _ _ q
 | _::_,_,_,q=>wpAny_mono q (fun v s1 ⟨y,t,e,hz,r⟩=>⟨y,t,e,hz,Joins.mono h r⟩) fun _ _ x=>x
theorem pe_fstr(h:PJ X (v₁::v₂::es) t):PE X (.JoinedStr (v₁::v₂::es) pos) (tFstr t):=by
 intro pins s σ H Q I hq
 refine wpAny_JoinedStr (Joins.mono (fun o s1 hq_=>?_) (h Str.empty pins s σ H _ I hq))
 obtain ⟨H1,I1,hz,q⟩:=hq_
 exact ⟨hz,.str o,H1,I1.tok _,⟨_,rfl⟩,q⟩
theorem pe_fmt(h:PE X e te):PE X (.FormattedValue e (-1) none pos) (tFmt te):=by
 intro pins s σ H Q I hq
 refine wpAny_FormattedValue_plain (thn (h pins s σ H _ I hq) fun v s1 hq_=>?_)
 obtain ⟨x,H1,I1,r1,q⟩:=hq_
 rcases q with ⟨z,rfl,hz,q⟩ | ⟨i,rfl,hz,q⟩
 · obtain ⟨t,rfl⟩:=r1
   exact wpAny_formatField_str ⟨.str z,H1,I1,⟨_,rfl⟩,q⟩ ⟨.str z,H1,I1.tok _,⟨_,rfl⟩,q⟩ hz
 · obtain ⟨t,rfl⟩:=r1
   exact wpAny_formatField_int hz ⟨.str _,H1,I1.tok _,⟨_,rfl⟩,q⟩
end
end L2
namespace L2
noncomputable abbrev tComp1(wi:TI)(fs:List Nat)(te:Blk→TE):TE:=tComp wi 1 fs (fun _=>gName 0) (fun _=>tYes) te
section
variable {X:Cx} {scope:Scope} {x:Str} {px:Pos} {fs:List Nat} {elt iter:Expr} {pos:Pos} {wi:TI} {te:Blk→TE}
theorem pg_own(hok:compOkB X.N X.env.scope scope [x] fs=true)(b:Blk):PG (X.blk scope ([x]++around X.N fs) b) (.Name x px) (gName 0):=
 pg_name (compOk_of hok).nd rfl (.inl (lookup_relabel_local ((compOk_of hok).own x (by simp)))) (.inr (lookup_relabel_local ((compOk_of hok).own x (by simp))))
theorem pe_comp1(x:Str)(fs:List Nat)(hc:X.calm=true)(hok:compOkB X.N X.env.scope scope [x] fs=true)(hi:PI X (.Name x px) iter wi)(he:∀b,PE (X.blk scope ([x]++around X.N fs) b) elt (te b))
 (hs:∀x,foldedSetIterable iter X.env x=pure x:=by intro _;rfl):PE X (.ListComp elt [⟨.Name x px,iter,[],0⟩] scope pos) (tComp1 wi fs te):=
 pe_compG (xs:=[x]) (g:=fun _=>gName 0) (tt:=fun _=>tYes) hc hok hi (pg_own hok) (fun _=>pts_nil) he hs
theorem ps_comp1{y:Str}{py:Pos}{i:Nat}{spos:Pos}(x:Str)(fs:List Nat)(hN:X.N.Nodup)(hy:X.N[i]?=some y)(hyl:X.env.kindOf y=some .local)(hc:X.calm=true)(hok:compOkB X.N X.env.scope scope [x] fs=true)(hi:PI X (.Name x px) iter wi)(he:∀b,PE (X.blk scope ([x]++around X.N fs) b) elt (te b))
 (hsw:swapsWith (.ListComp elt [⟨.Name x px,iter,[],0⟩] scope pos) (some (.Name y py)) spos.line X.env=pure true:=by rfl)
 (hs:∀x,foldedSetIterable iter X.env x=pure x:=by intro _;rfl):PS X (.Assign [.Name y py] (.ListComp elt [⟨.Name x px,iter,[],0⟩] scope pos) spos) (tAsg (tComp1 wi fs te) (gName i)):=
 ps_comp (xs:=[x]) (g:=fun _=>gName 0) (tt:=fun _=>tYes) hN hy hyl hc hok hi (pg_own hok) (fun _=>pts_nil) he hsw hs
end
theorem kept0{x:Option V}{r:St}:Kept (none::r) (x::r):=fun i v e=>by
 cases i with
 | zero=>cases e
 | succ i=>exact e
section
variable {K:PySem.W.Frag} {tail:St} {te:Blk→TE} {Q:VK} {H1:Hp}
noncomputable def CompNext(D:Addr)(n i:Nat)(ys:List V)(Pv:Nat→List V→Hp→Prop):VK:=fun y H4=>H4 D=some (.lst ys)∧ys.length < sizeLine∧∃m',m' < n - i∧(m'=n - (i+1)∧i+1≤n∧Pv (i+1) (ys++[y]) (upd H4 D (.lst (ys++[y]))))
theorem compNext{D:Addr}{n i:Nat}{ys:List V}{Pv:Nat→List V→Hp→Prop}{y:V}{H4:Hp}(h1:H4 D=some (.lst ys))(h2:ys.length < sizeLine)(h3:i < n)(h4:Pv (i+1) (ys++[y]) (upd H4 D (.lst (ys++[y])))):CompNext D n i ys Pv y H4:=
 ⟨h1,h2,n - (i+1),by omega,rfl,h3,h4⟩
theorem comp_by{J:It}(n:Nat)
 (h:∀(b:Blk) (D:Addr),H1 D=none→∃Pv:Nat→List V→Hp→Prop,Pv 0 [] (upd H1 D (.lst []))∧(∀i ys H,Pv i ys H→H D=some (.lst ys))∧(∀ys H,Pv n ys H→J.stop n H∧Q (.ref D) H)∧
  ∀i ys H,i < n→Pv i ys H→J.go i H∧∀x H3,J.yld i H x H3→te b (some x::tail) H3 (CompNext D n i ys Pv)):CompTail (none::tail) (fun _=>gName 0) (fun _=>tYes) te Q J H1:=by
 intro b D hD
 obtain ⟨Pv,p0,p1,p2,p3⟩:=h b D hD
 refine ⟨fun i m ys H=>m=n - i∧i≤n∧Pv i ys H,⟨n,rfl,Nat.zero_le _,p0⟩,?_⟩
 rintro i m ys H ⟨rfl,hi,p⟩
 refine ⟨p1 i ys H p,?_⟩
 by_cases hlt:i < n
 · obtain ⟨go,st⟩:=p3 i ys H hlt p
   refine .inr ⟨go,fun x H3 y=>⟨kept0,?_⟩⟩
   exact st x H3 y
 · have e:i=n:=by omega
   subst e
   exact .inl (p2 ys H p)
theorem same_new{D:Addr}{o:HO}(h:H1 D=none):Same H1 (upd H1 D o):=fun b u e=>by rw [upd_ne (ne_of_none e h)];exact e
theorem compS_pure{z:Str}(f:Nat→V)(hz:z.cps.size≤sizeLine)(he:∀b c H Q',c∈z.cps.toList→Same H1 H→Q' (f c) H→te b (some (.str ⟨#[c]⟩)::tail) H Q')
 (q:∀D,H1 D=none→Q (.ref D) (upd H1 D (.lst (z.cps.toList.map f)))):CompTail (none::tail) (fun _=>gName 0) (fun _=>tYes) te Q (Its z) H1:=by
 refine comp_by z.cps.size (fun b D hD=>⟨fun i ys H=>i≤z.cps.size∧ys=(z.cps.toList.take i).map f∧H=upd H1 D (.lst ys),⟨Nat.zero_le _,rfl,rfl⟩,?_,?_,?_⟩)
 · rintro i ys H ⟨hi,rfl,rfl⟩
   exact upd_same
 · rintro ys H ⟨_,rfl,rfl⟩
   refine ⟨Nat.le_refl _,?_⟩
   have e:z.cps.toList.take z.cps.size=z.cps.toList:=List.take_of_length_le (by simp)
   rw [e];exact q D hD
 · rintro i ys H hi ⟨_,rfl,rfl⟩
   refine ⟨hi,fun x H3 ⟨e3,c,hc,ex⟩=>?_⟩
   subst e3 ex
   have hc':z.cps.toList[i]?=some c:=by simpa using hc
   refine he b c _ _ (List.mem_of_getElem? hc') (same_new hD) (compNext upd_same (by rw [List.length_map,List.length_take,Array.length_toList];omega) hi ⟨hi,?_,?_⟩)
   · rw [List.take_add_one,hc'];simp
   · funext a;by_cases ha:a=D <;> simp [upd,ha]
theorem compL_pure{a:Addr}{xs:List V}(f:V→V)(hS:SqL K H1 a xs)(hz:xs.length≤sizeLine)(he:∀b x H Q',x∈xs→Same H1 H→Q' (f x) H→te b (some x::tail) H Q')
 (q:∀D,H1 D=none→Q (.ref D) (upd H1 D (.lst (xs.map f)))):CompTail (none::tail) (fun _=>gName 0) (fun _=>tYes) te Q (Itl K a) H1:=by
 refine comp_by xs.length (fun b D hD=>⟨fun i ys H=>i≤xs.length∧ys=(xs.take i).map f∧H=upd H1 D (.lst ys),⟨Nat.zero_le _,rfl,rfl⟩,?_,?_,?_⟩)
 · rintro i ys H ⟨hi,rfl,rfl⟩
   exact upd_same
 · rintro ys H ⟨_,rfl,rfl⟩
   refine ⟨⟨xs,(same_new hD).seq hS,Nat.le_refl _⟩,?_⟩
   rw [List.take_length];exact q D hD
 · rintro i ys H hi ⟨_,rfl,rfl⟩
   refine ⟨⟨xs,xs[i],(same_new hD).seq hS,by simp [hi]⟩,fun x H3 ⟨e3,ex⟩=>?_⟩
   subst e3
   have hc':=ex xs ((same_new hD).seq hS)
   refine he b x _ _ (List.mem_of_getElem? hc') (same_new hD) (compNext upd_same (by rw [List.length_map,List.length_take];omega) hi ⟨hi,?_,?_⟩)
   · rw [List.take_add_one,hc'];simp
   · funext a;by_cases ha:a=D <;> simp [upd,ha]
theorem compR_pure{lo:Int}{n:Nat}(f:Int→V)(hz:n≤sizeLine)(he:∀b (i:Nat) H Q',i < n→Same H1 H→Q' (f (lo+i)) H→te b (some (.int (lo+i))::tail) H Q')
 (q:∀D,H1 D=none→Q (.ref D) (upd H1 D (.lst ((List.range n).map fun (i:Nat)=>f (lo+(i:Int)))))):CompTail (none::tail) (fun _=>gName 0) (fun _=>tYes) te Q (Itr lo n) H1:=by
 refine comp_by n (fun b D hD=>⟨fun i ys H=>i≤n∧ys=(List.range i).map (fun (i:Nat)=>f (lo+(i:Int)))∧H=upd H1 D (.lst ys),⟨Nat.zero_le _,rfl,rfl⟩,?_,?_,?_⟩)
 · rintro i ys H ⟨hi,rfl,rfl⟩
   exact upd_same
 · rintro ys H ⟨_,rfl,rfl⟩
   exact ⟨Nat.le_refl _,q D hD⟩
 · rintro i ys H hi ⟨_,rfl,rfl⟩
   refine ⟨hi,fun x H3 ⟨e3,ex⟩=>?_⟩
   subst e3 ex
   refine he b i _ _ hi (same_new hD) (compNext upd_same (by rw [List.length_map,List.length_range];omega) hi ⟨hi,?_,?_⟩)
   · rw [List.range_succ];simp
   · funext a;by_cases ha:a=D <;> simp [upd,ha]
end
section
variable {σ:St} {H:Hp} {Q:VK} {D:Ends} {K:PySem.W.Frag}
theorem rd_comp{wi:TI}{fs:List Nat}{te:Blk→TE}:tComp1 wi fs te σ H Q=wi σ H (CompTail (none::fs.map fun j=>σ.getD j none) (fun _=>gName 0) (fun _=>tYes) te Q):=rfl
theorem rd_istr{tl:TE}{R:It→Hp→Prop}:iStr tl σ H R=tl σ H fun x H1=>∃z,x= .str z∧R (Its z) H1:=rfl
theorem rd_sl{r:V→Option Int→Option Int→Hp→VK→Prop}{te:TE}{tl th:TO}:tSl r te tl th σ H Q=te σ H fun x H1=>tl σ H1 fun l H2=>th σ H2 fun u H3=>r x l u H3 Q:=rfl
theorem rd_noPart{QO:Option Int→Hp→Prop}:tNoPart σ H QO=QO none H:=rfl
theorem rd_part{t:TE}{QO:Option Int→Hp→Prop}:tPart t σ H QO=t σ H fun x H1=>∃i,x= .int i∧QO (some i) H1:=rfl
theorem rd_slL{x:V}{lo hi:Option Int}:rSlL K x lo hi H Q=∃a xs,x= .ref a∧SqL K H a xs∧∀p,H p=none→Q (.ref p) (upd H p (.lst (cutV xs lo hi))):=rfl
theorem rd_bm{T:String}{r:V→List V→Hp→VK→Prop}{to:TE}{t:TA}:tBM K T r to t σ H Q=to σ H fun x H1=>tyV K T x H1∧t σ H1 fun xs H2=>r x xs H2 Q:=rfl
theorem tyV_str{z:Str}:tyV K "str" (.str z) H=True:=eq_true rfl
theorem rd_all{xs:List V}:rAll K xs H Q=∃(p:Addr) (bs:List Bool),xs=[.ref p]∧SqL K H p (bs.map V.bl)∧Q (.bl (bs.all id)) H:=rfl
theorem rd_jnil{acc:Str}{QS:Str→Hp→Prop}:jNil acc σ H QS=QS acc H:=rfl
theorem rd_jcons{te:TE}{tr:TJ}{acc:Str}{QS:Str→Hp→Prop}:jCons te tr acc σ H QS=te σ H fun x H1=>∃y,x= .str y∧(acc++y).length≤sizeLine∧tr (acc++y) σ H1 QS:=rfl
theorem rd_fstr{t:TJ}:tFstr t σ H Q=t Str.empty σ H fun out H1=>out.length≤sizeLine∧Q (.str out) H1:=rfl
theorem rd_fmt{te:TE}:tFmt te σ H Q=te σ H fun x H1=>(∃z,x= .str z∧z.length≤sizeLine∧Q (.str z) H1)∨∃i,x= .int i∧i.natAbs.log2 < 1920∧Q (.str (toString i)) H1:=rfl
theorem rd_dnewK:tDNewK σ H Q=∀p,H p=none→Q (.ref p) (upd H p (.dK [])):=rfl
theorem ixS_of{z:Str}{i:Int}{c:Nat}(hz:z.length≤sizeLine)(e:atI z.cps.toList i=some c)(q:Q (.str ⟨#[c]⟩) H):rIxS (.str z) (.int i) H Q:=⟨z,i,c,rfl,rfl,hz,e,q⟩
theorem blk_K{X:Cx}{scope:Scope}{N':List Str}{b:Blk}:(X.blk scope N' b).K=X.K:=rfl
end
section
variable {X:Cx} {x:Str} {pos:Pos}
theorem pe_gint{i:Int}(hg:Gl X x)(hm:∃t,X.mg x=some (.int i t))(hd:(x==("__debug__":Str))=false:=by decide):PE X (.Name x pos) (tC (.int i)):=by
 obtain ⟨t,hm⟩:=hm
 exact pe_glob hg hm ⟨t,rfl⟩ hd
theorem pe_gstr{z:Str}(hg:Gl X x)(hm:∃t,X.mg x=some (.str z t))(hd:(x==("__debug__":Str))=false:=by decide):PE X (.Name x pos) (tC (.str z)):=by
 obtain ⟨t,hm⟩:=hm
 exact pe_glob hg hm ⟨t,rfl⟩ hd
end
theorem line_val:sizeLine=16777216:=by decide
theorem len_app{a b:Str}:(a++b).length=a.length+b.length:=strLen_append a b
theorem len_one{c:Nat}:(⟨#[c]⟩:Str).length=1:=rfl
theorem str_len{z:Str}:z.cps.toList.length=z.length:=by simp [Str.length]
theorem app_list{a b:Str}:(a++b).cps.toList=a.cps.toList++b.cps.toList:=by
 show (a.cps++b.cps).toList=_
 simp
theorem atI_in{α:Type}{xs:List α}{i:Int}(h0:0≤i)(h1:i < xs.length):∃v,atI xs i=some v∧v∈xs:=by
 refine ⟨xs[i.toNat],?_,List.getElem_mem (by omega)⟩
 exact atI_of h0 (by rw [List.getElem?_eq_getElem (by omega)])
theorem script_go{K:PySem.W.Frag}{H:Hp}{a:Addr}{ns:List Int}{R:List Int→Prop}(h:SqL K H a (ns.map V.int))(hl:ns.length≤63)(q:R ns):∃x:List Int,SqL K H a (x.map V.int)∧x.length≤63∧R x:=⟨ns,h,hl,q⟩
noncomputable def hasS(z y:Str):Bool:=!(Builtin.Str.occurrences z y 0 z.length 1).isEmpty
theorem hasS_one{z:Str}{c:Nat}:hasS z ⟨#[c]⟩=decide (c∈z.cps.toList):=StrLaws.found_one z c
noncomputable def rInS:R2:=fun x y H Q=>∃i j,x= .str i∧y= .str j∧Q (.bl (hasS j i)) H
theorem op_inS{X:Cx}:OpR X (compareOp .In) rInS:=op_in_str
theorem rd_inS{x y:V}{H:Hp}{Q:VK}:rInS x y H Q=∃i j,x= .str i∧y= .str j∧Q (.bl (hasS j i)) H:=rfl
theorem at_0{α:Type}{c:α}{r:List α}:atI (c::r) 0=some c:=atI_of (by decide) rfl
end L2
namespace L2
noncomputable def flatEq(xs ys:List V):Bool:=match xs,ys with
 | [],[]=>true
 | x::xs,y::ys=>eqV x y && flatEq xs ys
 | _,_=>false
theorem flatEq_len:∀{xs ys:List V},xs.length≠ys.length→flatEq xs ys=false
 | [],[],h=>absurd rfl h
 | [],_::_,_=>rfl
 | _::_,[],_=>rfl
 | x::xs,y::ys,h=>by
  unfold flatEq
  rw [flatEq_len (fun e=>h (by simp [e])),Bool.and_false]
theorem flatEq_all:∀{xs ys:List V},xs.length=ys.length→flatEq xs ys=(List.range xs.length).all fun i=>eqV (xs.getD i .non) (ys.getD i .non)
 | [],[],_=>rfl
 | [],_::_,h=>by cases h
 | _::_,[],h=>by cases h
 | x::xs,y::ys,h=>by
  unfold flatEq
  rw [flatEq_all (by simpa using h),List.length_cons,List.range_succ_eq_map,List.all_cons,List.all_map]
  rfl
theorem eqV_str{x y:Str}:eqV (.str x) (.str y)=decide (x=y):=rfl
theorem flatEq_strs:∀{xs ys:List Str},flatEq (xs.map V.str) (ys.map V.str)=decide (xs=ys)
 | [],[]=>rfl
 | [],_::_=>rfl
 | _::_,[]=>rfl
 | x::xs,y::ys=>by
  show (eqV (.str x) (.str y) && flatEq (xs.map V.str) (ys.map V.str))=_
  rw [flatEq_strs,eqV_str]
  by_cases h:x=y
  · subst h;simp
  · simp [h]
noncomputable def EqQ(K:PySem.W.Frag)(H:Hp)(x y:V)(r:Bool):Prop:=∃a b xs ys,x= .ref a∧y= .ref b∧((SqL K H a xs∧SqL K H b ys)∨(SqT K H a xs∧SqT K H b ys))∧xs.all flatV=true∧ys.all flatV=true∧r=flatEq xs ys
section
variable {X:Cx} {pins:List (Addr×Obj)} {σ:St} {H:Hp} {s:Shared}
theorem flat_items{xs ys:List V}{us ws:List Value}{A:Around}(rx:Vals xs us)(ry:Vals ys ws)(fx:xs.all flatV=true)(fy:ys.all flatV=true):
 ∀j (h1:j < us.toArray.size) (h2:j < ws.toArray.size),SeqAt.EqAt A s us.toArray[j] ws.toArray[j] (eqV (xs.getD j .non) (ys.getD j .non)):=by
 intro j h1 h2
 have lx:=rx.length
 have ly:=ry.length
 rw [List.size_toArray]at h1 h2
 have hx:j < xs.length:=by omega
 have hy:j < ys.length:=by omega
 obtain ⟨u,hu,ru⟩:=rx.get (i:=j) (x:=xs[j]) (by simp [hx])
 obtain ⟨w,hw,rw'⟩:=ry.get (i:=j) (x:=ys[j]) (by simp [hy])
 have eu:us.toArray[j]=u:=by
  have:=List.getElem?_eq_getElem h1
  rw [this]at hu
  simpa using hu
 have ew:ws.toArray[j]=w:=by
  have:=List.getElem?_eq_getElem h2
  rw [this]at hw
  simpa using hw
 rw [eu,ew,List.getD_eq_getElem?_getD,List.getD_eq_getElem?_getD,List.getElem?_eq_getElem hx,List.getElem?_eq_getElem hy]
 exact eqAt_V ru rw' (List.all_eq_true.mp fx _ (List.getElem_mem hx)) (List.all_eq_true.mp fy _ (List.getElem_mem hy))
theorem eqQ_rc{x y:V}{u v:Value}{r:Bool}{A:Around}(I:Inv X pins σ H s)(rx:RelV x u)(ry:RelV y v)(h:EqQ X.K H x y r)(hu:A.units < cLine):SeqAt.RcAt A s u v r:=by
 obtain ⟨a,b,xs,ys,rfl,rfl,hq,fx,fy,rfl⟩:=h
 cases rx
 cases ry
 rcases hq with ⟨h1,h2⟩ | ⟨h1,h2⟩
 · obtain ⟨us,r1,p1,z1⟩:=I.list h1
   obtain ⟨ws,r2,p2,z2⟩:=I.list h2
   have lx:=r1.length
   have ly:=r2.length
   by_cases hl:xs.length=ys.length
   · rw [flatEq_all hl]
     have:=SeqAt.RcAt.lists p1.isList p2.isList (by simp;omega) hu (flat_items r1 r2 fx fy)
     rw [List.size_toArray,← lx]at this
     exact this
   · rw [flatEq_len hl]
     exact SeqAt.RcAt.lists_lengths p1.isList p2.isList (by simp;omega) hu
 · obtain ⟨us,r1,p1,z1⟩:=I.tuple h1
   obtain ⟨ws,r2,p2,z2⟩:=I.tuple h2
   have lx:=r1.length
   have ly:=r2.length
   have:=SeqAt.RcAt.tuples (show s.heap.IsTuple a us.toArray from p1) (show s.heap.IsTuple b ws.toArray from p2) hu (flat_items r1 r2 fx fy)
   rw [List.size_toArray,List.size_toArray,← lx,← ly]at this
   by_cases hl:xs.length=ys.length
   · rw [flatEq_all hl]
     rw [hl,Nat.min_self,beq_self_eq_true,Bool.and_true]at this
     rw [hl];exact this
   · rw [flatEq_len hl]
     rw [beq_eq_false_iff_ne.mpr hl,Bool.and_false]at this
     exact this
theorem eqQ_ne{x y:V}{u v:Value}{r:Bool}{A:Around}(I:Inv X pins σ H s)(rx:RelV x u)(ry:RelV y v)(h:EqQ X.K H x y r)(hu:A.units < cLine):SeqAt.RcNeAt A s u v (!r):=by
 obtain ⟨a,b,xs,ys,rfl,rfl,hq,fx,fy,rfl⟩:=h
 cases rx
 cases ry
 rcases hq with ⟨h1,h2⟩ | ⟨h1,h2⟩
 · obtain ⟨us,r1,p1,z1⟩:=I.list h1
   obtain ⟨ws,r2,p2,z2⟩:=I.list h2
   have lx:=r1.length
   have ly:=r2.length
   by_cases hl:xs.length=ys.length
   · rw [flatEq_all hl]
     have:=SeqAt.RcNeAt.lists p1.isList p2.isList (by simp;omega) hu (flat_items r1 r2 fx fy)
     rw [List.size_toArray,← lx]at this
     exact this
   · rw [flatEq_len hl]
     exact SeqAt.RcNeAt.lists_lengths p1.isList p2.isList (by simp;omega) hu
 · obtain ⟨us,r1,p1,z1⟩:=I.tuple h1
   obtain ⟨ws,r2,p2,z2⟩:=I.tuple h2
   have lx:=r1.length
   have ly:=r2.length
   have:=SeqAt.RcNeAt.tuples (show s.heap.IsTuple a us.toArray from p1) (show s.heap.IsTuple b ws.toArray from p2) hu (flat_items r1 r2 fx fy)
   rw [List.size_toArray,List.size_toArray,← lx,← ly]at this
   by_cases hl:xs.length=ys.length
   · rw [flatEq_all hl]
     rw [hl,Nat.min_self,beq_self_eq_true,Bool.and_true]at this
     rw [hl];exact this
   · rw [flatEq_len hl]
     rw [beq_eq_false_iff_ne.mpr hl,Bool.and_false]at this
     exact this
noncomputable def rEqQ(K:PySem.W.Frag):R2:=fun x y H Q=>∃r,EqQ K H x y r∧Q (.bl r) H
noncomputable def rNeQ(K:PySem.W.Frag):R2:=fun x y H Q=>∃r,EqQ K H x y r∧Q (.bl (!r)) H
theorem op_eqQ{k:Nat}(hr:Room k X.A):OpR X (compareOp .Eq) (rEqQ X.K):=by
 intro pins s σ H x y v u Q I rx ry h
 obtain ⟨r,e,q⟩:=h
 exact eqQ_rc I rx ry e (Nat.lt_of_le_of_lt (by omega) hr.un) X.prog X.w X.xe _ ⟨.bl r,H,I,rfl,q⟩
theorem op_neQ{k:Nat}(hr:Room k X.A):OpR X (compareOp .NotEq) (rNeQ X.K):=by
 intro pins s σ H x y v u Q I rx ry h
 obtain ⟨r,e,q⟩:=h
 exact eqQ_ne I rx ry e (Nat.lt_of_le_of_lt (by omega) hr.un) X.prog X.w X.xe _ ⟨.bl (!r),H,I,rfl,q⟩
end
section
variable {K:PySem.W.Frag} {H:Hp} {Q:VK} {x y:V}
theorem rd_eqQ:rEqQ K x y H Q=∃r,EqQ K H x y r∧Q (.bl r) H:=rfl
theorem rd_neQ:rNeQ K x y H Q=∃r,EqQ K H x y r∧Q (.bl (!r)) H:=rfl
theorem all_strs{xs:List Str}:(xs.map V.str).all flatV=true:=by
 rw [List.all_map]
 exact List.all_eq_true.mpr fun _ _=>rfl
theorem eqQ_strs{a b:Addr}{xs ys:List Str}(h1:SqL K H a (xs.map V.str))(h2:SqL K H b (ys.map V.str)):EqQ K H (.ref a) (.ref b) (decide (xs=ys)):=⟨a,b,_,_,rfl,rfl,.inl ⟨h1,h2⟩,all_strs,all_strs,flatEq_strs.symm⟩
end
end L2
namespace L2
structure TryB where
 pn:List (Addr×Obj)
 xe:Value→Shared→Prop
 EE:St→XK
noncomputable def tTryV(tb:TryB→TS)(th:TH):TS:=fun D σ H=>∀(pn:List (Addr×Obj)) (xe:Value→Shared→Prop),tb ⟨pn,xe,fun σ' cls ox H'=>∃x,ox=some x∧th cls x D σ' H'⟩ D σ H
noncomputable def hClsV(K:PySem.W.Frag)(c:Value)(ts:Addr→TS)(tr:TH):TH:=fun cls x D σ H=>∃b,PySem.W.exmOne K cls c=some b∧if b=true then ts x D σ H else tr cls x D σ H
section
variable {σ:St} {H:Hp} {D:Ends} {K:PySem.W.Frag}
theorem rd_tryV{tb:TryB→TS}{th:TH}:tTryV tb th D σ H=∀(pn:List (Addr×Obj)) (xe:Value→Shared→Prop),tb ⟨pn,xe,fun σ' cls ox H'=>∃x,ox=some x∧th cls x D σ' H'⟩ D σ H:=rfl
theorem rd_hclsV{c cls:Value}{x:Addr}{ts:Addr→TS}{tr:TH}:hClsV K c ts tr cls x D σ H=∃b,PySem.W.exmOne K cls c=some b∧if b=true then ts x D σ H else tr cls x D σ H:=rfl
theorem tryX_K{X:Cx}{pn:List (Addr×Obj)}{xe:Value→Shared→Prop}:(X.tryX pn xe).K=X.K:=rfl
theorem sui_K{X:Cx}{x:Addr}:(X.sui x).K=X.K:=rfl
end
end L2
namespace L2
structure DefM(P:Program)(w:World)(K:PySem.W.Frag)(mg:Str→Option Value)(base:Heap)(CX:CXT)(k:Nat)(C:Addr)(m:Str)(ps:List Str)(sp:Sp):Prop where
 ex:∃(f:Addr) (fd:FuncData),FnOk P w K mg base CX k f fd ps sp∧Meth K C m f∧Binds K fd ps []
structure DefI(P:Program)(w:World)(K:PySem.W.Frag)(mg:Str→Option Value)(base:Heap)(CX:CXT)(k:Nat)(x:Str)(C:Addr)(ps:List Str)(sp:Sp):Prop where
 ex:∃(f:Addr) (fd:FuncData),FnOk P w K mg base CX k f fd ps sp∧Mk K C f∧mg x=some (.ref C)∧Binds K fd ps []
noncomputable def tMethE(C:Addr)(m:Str)(sp:Sp)(EE:St→XK)(ta:TE)(t:TA):TE:=fun σ H Q=>ta σ H fun x H1=>∃a dx fs,x= .ref a∧H1 a=some (.ins C dx fs)∧fs.lookup m=none∧t σ H1 fun vs H2=>sp (x::vs) H2 Q (EE σ)
noncomputable def tMakeE(C:Addr)(sp:Sp)(EE:St→XK)(t:TA):TE:=fun σ H Q=>t σ H fun vs H1=>∀x dx,H1 x=none→H1 dx=none→dx≠x→sp (.ref x::vs) (upd (upd H1 dx (.own x)) x (.ins C dx [])) (fun v H2=>v= .non∧Q (.ref x) H2) (EE σ)
section
variable {X:Cx} {CX:CXT} {k j:Nat} {f C:Addr} {fd:FuncData} {ps:List Str} {sp:Sp} {EE:St→XK} {E:XK} {x m:Str} {p pos apos:Pos} {e o:Expr} {es:List Expr} {ta:TE} {t:TA}
theorem passS(h:Passes CX X E):PassesS CX X fun _=>E:=fun pins σ H s e s' I hc=>h pins σ H s e s' I hc
theorem run_fnS{pins:List (Addr×Obj)}{σ:St}{H:Hp}{s:Shared}{Q:VK}{us:List Value}{vs:List V}(F:FnOk X.prog X.w X.K X.mg X.base CX k f fd ps sp)(hr:Room k X.A)(hb:Binds X.K fd ps [])(hx:PassesS CX X EE)
 (I:Inv X pins σ H s) (r:Vals vs us) (h:sp vs H Q (EE σ)):wpAny (model X.prog X.w) X.A (call (.ref f) us) (EP X pins σ Q) X.xe s:=by
 have hl:us.length=ps.length:=by rw [← r.length];exact F.len _ _ _ _ h
 have hb':=hb s us I.kIn (by simpa using hl)
 rw [List.append_nil]at hb'
 refine wpAny_call (codeAny_mono (F.run X.A X.stack s H ⟨us,[]⟩ us vs Q (EE σ) hr I.env0 hb' r h) fun r s' hq=>?_)
 cases r with
 | error e=>exact hx pins σ H s e s' I hq
 | ok fl=>
  cases fl with
  | ret u=>exact I.after hq
  | next=>exact False.elim hq
  | brk=>exact False.elim hq
  | cont=>exact False.elim hq
theorem pe_methS{pl:Sem Bool}(D:DefM X.prog X.w X.K X.mg X.base CX j C m ps sp)(c:Cls X.K C)(hr:Room k X.A)(hx:PassesS CX X EE)(he:PE X o ta)(ha:PA X (e::es) t)(hj:j≤k:=by decide)
 (hst:starEach (e::es) X.env=(false,eval e X.env)::starEach es X.env:=by rfl) (hpl:(backTo pos (starEach es X.env)).any (·.1)=false:=by rfl)
 (ht:eval (.Call (.Attribute o m apos) (e::es) [] pos) X.env=(do
  let ov ← eval o X.env
  standAt apos.atName
  let (f,first) ← holding [ov] (getMethod ov m pl)
  callWith pos f first (backTo pos (starEach (e::es) X.env)) (backToKw pos (keywordEach [] X.env))):=by rfl):
 PE X (.Call (.Attribute o m apos) (e::es) [] pos) (tMethE C m sp EE ta t):=by
 obtain ⟨f,fd,F,hm,hb⟩:=D.ex
 intro pins s σ H Q I h
 refine PySem.W.methodCall_KW (pl:=pl) (thn (he pins s σ H _ I h) fun u s1 hq_=>?_) ht
 obtain ⟨x,H1,I1,rx,a,dx,fs,ex,ea,l,q⟩:=hq_
 subst ex
 obtain rfl:u=Value.ref a:=rx
 refine getmeth_ok I1 ea c hm l ?_
 refine PySem.W.callWith_K (first:=[.ref a]) (h₀:=X.base) I.ok.mod.kin hm.kp (thn (ha pos pins s1 σ H1 _ I1 q) fun us s2 ⟨vs,H2,I2,r,q2⟩=>⟨I2.kIn,?_⟩) hst hpl
 exact run_fnS (us:= .ref a::us) (vs:= .ref a::vs) (F.mono hj) hr hb hx I2 (.cons rfl r) q2
theorem pe_methS0{pl:Sem Bool}(D:DefM X.prog X.w X.K X.mg X.base CX j C m ps sp)(c:Cls X.K C)(hr:Room k X.A)(hx:PassesS CX X EE)(he:PE X o ta)(hj:j≤k:=by decide)
 (ht:eval (.Call (.Attribute o m apos) [] [] pos) X.env=(do
  let ov ← eval o X.env
  standAt apos.atName
  let (f,first) ← holding [ov] (getMethod ov m pl)
  callWith pos f first (backTo pos (starEach [] X.env)) (backToKw pos (keywordEach [] X.env))):=by rfl):
 PE X (.Call (.Attribute o m apos) [] [] pos) (tMethE C m sp EE ta tNil):=by
 obtain ⟨f,fd,F,hm,hb⟩:=D.ex
 intro pins s σ H Q I h
 refine PySem.W.methodCall_KW (pl:=pl) (thn (he pins s σ H _ I h) fun u s1 hq_=>?_) ht
 obtain ⟨x,H1,I1,rx,a,dx,fs,ex,ea,l,q⟩:=hq_
 subst ex
 obtain rfl:u=Value.ref a:=rx
 refine getmeth_ok I1 ea c hm l ?_
 exact PySem.W.callWith_K0 (first:=[.ref a]) I1.kIn hm.kp (run_fnS (us:=[.ref a]) (vs:=[.ref a]) (F.mono hj) hr hb hx I1 (.cons rfl .nil) q)
theorem pe_makeS(D:DefI X.prog X.w X.K X.mg X.base CX j x C ps sp)(hr:Room k X.A)(hg:Gl X x)(hx:PassesS CX X EE)(ha:PA X (e::es) t)(hj:j+1≤k:=by decide)(hdb:(x==("__debug__":Str))=false:=by decide)
 (he:starEach (e::es) X.env=(false,eval e X.env)::starEach es X.env:=by rfl) (hpl:(backTo pos (starEach es X.env)).any (·.1)=false:=by rfl):
 PE X (.Call (.Name x p) (e::es) [] pos) (tMakeE C sp EE t):=by
 obtain ⟨f,fd,F,M,hm,hb⟩:=D.ex
 intro pins s0 σ H0 Q I0 h
 refine wpAny_Call_Name_kw (ld_glob I0 hg hm ?_ hdb)
 refine PySem.W.callWith_K (h₀:=X.base) I0.ok.mod.kin M.kp (thn (ha pos pins s0 σ H0 _ I0 h) fun us s ⟨vs,H,I,r,q⟩=>⟨I.kIn,?_⟩) he hpl
 have hq:=q (s.heap.objs.size+1) s.heap.objs.size (I.hok.fresh (Nat.le_succ _)) (I.hok.fresh (Nat.le_refl _)) (Nat.ne_of_lt (Nat.lt_succ_self _))
 have I2:=Inv.made (C:=C) I
 have r2:Vals (V.ref (s.heap.objs.size+1)::vs) (Value.ref (s.heap.objs.size+1)::us):= .cons rfl r
 have hl:(Value.ref (s.heap.objs.size+1)::us).length=ps.length:=by
  rw [← r2.length];exact F.len _ _ _ _ hq
 have hb':=fun s' (h':X.K.In s'.heap)=>hb s' (Value.ref (s.heap.objs.size+1)::us) h' (by simpa using hl)
 have hr':Room (j+1) X.A:=hr.mono hj
 refine wpAny_call (make_map (f:=f) I.kIn M.makes M.init (beq_iff_eq.mp M.fn) (codeAny_mono (F.run _ X.stack _ _ ⟨Value.ref (s.heap.objs.size+1)::us,[]⟩ (Value.ref (s.heap.objs.size+1)::us) _ _ (EE σ) (hr'.make C us [])
  (I2.env0.make C us []) (by have:=hb' _ I2.kIn;rw [List.append_nil]at this;exact this) r2 hq) fun r s' hq'=>?_))
 cases r with
 | error e=>exact hx pins σ _ _ e s' I2 hq'
 | ok fl=>
  cases fl with
  | ret u=>
   obtain ⟨v,H',I3,rv,ev,q3⟩:=I2.after hq'
   subst ev
   exact ⟨rv,⟨V.ref (s.heap.objs.size+1),H',I3,rfl,q3⟩⟩
  | next=>exact False.elim hq'
  | brk=>exact False.elim hq'
  | cont=>exact False.elim hq'
end
section
variable {σ:St} {H:Hp} {Q:VK} {D:Ends} {K:PySem.W.Frag}
theorem rd_methE{C:Addr}{m:Str}{sp:Sp}{EE:St→XK}{ta:TE}{t:TA}:tMethE C m sp EE ta t σ H Q=ta σ H fun x H1=>∃a dx fs,x= .ref a∧H1 a=some (.ins C dx fs)∧fs.lookup m=none∧t σ H1 fun vs H2=>sp (x::vs) H2 Q (EE σ):=rfl
theorem rd_makeE{C:Addr}{sp:Sp}{EE:St→XK}{t:TA}:tMakeE C sp EE t σ H Q=t σ H fun vs H1=>∀x dx,H1 x=none→H1 dx=none→dx≠x→sp (.ref x::vs) (upd (upd H1 dx (.own x)) x (.ins C dx [])) (fun v H2=>v= .non∧Q (.ref x) H2) (EE σ):=rfl
theorem rd_fld{ta:TE}{f:Str}:tFld K ta f σ H Q=ta σ H fun x H1=>∃a C dx fs v,x= .ref a∧H1 a=some (.ins C dx fs)∧Cls K C∧NoAttr K C f∧fs.lookup f=some v∧Q v H1:=rfl
theorem rd_sfld{ta tv:TE}{f:Str}:sFld K ta tv f D σ H=tv σ H fun y H1=>ta σ H1 fun x H2=>∃a C dx fs,x= .ref a∧H2 a=some (.ins C dx fs)∧Cls K C∧NoAttr K C f∧fs.length < 1000∧D.nx σ (upd H2 a (.ins C dx (putF f y fs))):=rfl
theorem rd_din{ty td:TE}:tDIn ty td σ H Q=ty σ H fun y H1=>td σ H1 fun x H2=>∃a o,x= .ref a∧DGet H2 a y o∧Q (.bl o.isSome) H2:=rfl
theorem rd_dnotin{ty td:TE}:tDNotIn ty td σ H Q=ty σ H fun y H1=>td σ H1 fun x H2=>∃a o,x= .ref a∧DGet H2 a y o∧Q (.bl (!o.isSome)) H2:=rfl
theorem rd_dget{td ty:TE}:tDGet td ty σ H Q=td σ H fun x H1=>ty σ H1 fun y H2=>∃a v,x= .ref a∧DGet H2 a y (some v)∧Q v H2:=rfl
theorem rd_dput{td ty tv:TE}:sDPut td ty tv D σ H=tv σ H fun v H1=>td σ H1 fun x H2=>ty σ H2 fun y H3=>∃a H4,x= .ref a∧DPut H3 a y v H4∧D.nx σ H4:=rfl
theorem rd_gtup{n:Nat}{t:TGs}{v:V}{N:St→Hp→Prop}:gTup K n t v σ H N=∃a xs,v= .ref a∧SqT K H a xs∧xs.length=n∧t xs σ H N:=rfl
end
theorem len_empty:Str.empty.length=0:=rfl
theorem le_app{a b:Str}{n:Nat}(h1:a.length≤n / 2)(h2:b.length≤n / 2):(a++b).length≤n:=by
 rw [len_app];omega
end L2
namespace L2
open Sem (wp)
section
variable {Pg:Program} {w:World} {A:Around} {E:Value→Shared→Prop} {h:Heap} {g:Array GenState} {d:Drawn} {t:Nat} {os:OsState}
variable {nm q:Str} {C N:Addr} {bs bm bmB:List Value} {hd:Bool} {sn:List Str} {su:List Value} {ab:Bool} {co:Option Bool} {dd:Option Addr} {k0 k1 k2 k3 k5:Option Value} {B nw ni:String}
noncomputable abbrev bareExc(h:Heap)(C:Addr):Obj:={cls:= .ref C,data:= .fields #[.ref h.objs.size,.none,.none,.none,.bool false,.none]}
noncomputable abbrev twoMore(h:Heap)(C:Addr)(rest:List Value):Heap:=(h.push {cls:= .type "tuple",data:= .seq rest.toArray}).push (bareExc h C)
theorem keep2{rest:List Value}:∀b o,h.get? b=some o→(twoMore h C rest).get? b=some o:=fun _ _ e=>Heap.get?_push_of_some _ (Heap.get?_push_of_some _ e)
theorem tcall_initT(F:ExcBaseFacts B nw ni bmB)(T:OwnTail h bmB bm){mN:Str→Option Value}{rest:List Value}{fI:Addr}{oI:Obj}{Q:Fin→Shared→Prop}
 (kC:h.get? C=some (excClassObj nm q C N bs bm hd sn su ab co dd k0 k1 k2 k3 k5 nw)) (hn:h.Ns N mN) (hi:mN "__init__"=some (.ref fI)) (hf:h.get? fI=some oI) (hfc:oI.cls= .type "function")
 (hq:∀h' e,Heap.MadeExcOf h h' e (.ref C) rest→wpAny (model Pg w) A (call (.ref fI) (.ref e::rest)) (fun r s'=>r= .none∧Q (.done (.ret (.ref e))) s') E ⟨h',g,d,t,os⟩) (hz:rest.length≤sizeLine):
 wpAny (model Pg w) A (Builtin.«type.__call__» ⟨.ref C::rest,[]⟩) Q E ⟨h,g,d,t,os⟩:=by
 repeat (first | with_reducible refine wpAny_loadPart_at kC ?_ | with_reducible refine wpAny_madeBy_exc kC ?_ | wp_step)
 refine codeAny_call_builtin_code (Code.quiet_builtin _ F.quiet) (wpAny_check_new_subT F T kC (codeAny_exc_new_subT F T kC ?_ hz))
 show wpAny _ _ _ _ _ _
 have c1:(twoMore h C rest).get? C=some (excClassObj nm q C N bs bm hd sn su ab co dd k0 k1 k2 k3 k5 nw):=keep2 _ _ kC
 have c2:(twoMore h C rest).get? fI=some oI:=keep2 _ _ hf
 have c3:(twoMore h C rest).Ns N mN:=by obtain ⟨o,es,ep,e,r⟩:=hn;exact ⟨o,es,ep,keep2 _ _ e,r⟩
 have c4:(twoMore h C rest).get? (h.objs.size+1)=some (bareExc h C):=by heap_get
 have c5:(Value.ref C::bm).contains (.ref C)=true:=by simp
 have T1:=T.keeps (keep2 (h:=h) (C:=C) (rest:=rest))
 unfold isInstance
 repeat (first | with_reducible refine wpAny_loadPart_at c4 ?_ | (with_reducible refine wpAny_isSubtype_exc c1 ?_;rw [c5]) | wp_step)
 show wpAny _ _ (typeLookup (.ref C) _) _ _ _;refine wpAny_typeLookup_tail c1 c3 T1 F.mroIs F.init.lookup ?_
 rw [hi]
 refine wpAny_holding (wpAny_bind ?_);unfold bindSpecial
 refine wpAny_bind (wpAny_typeOf (T:="function") ⟨_,c2,hfc⟩ ?_)
 rw [if_pos (by decide)]
 have made:Heap.MadeExcOf h (twoMore h C rest) (h.objs.size+1) (.ref C) rest:=⟨keep2,Heap.get?_none_of_le (Nat.le_succ _),h.objs.size,c4,Heap.get?_none_of_le (Nat.le_refl _),Heap.get?_push_of_some _ (Heap.get?_push_at rfl rfl)⟩
 refine wpAny_pure (wpAny_bind (wpAny_mono (hq _ _ made) (fun r s' hr=>?_) fun _ _ x=>x))
 obtain ⟨rfl,hQ⟩:=hr
 wp_walk
 exact hQ
theorem call_initT(F:ExcBaseFacts B nw ni bmB)(T:OwnTail h bmB bm){mN:Str→Option Value}{rest:List Value}{fI:Addr}{oI:Obj}{Q:Value→Shared→Prop}
 (kC:h.get? C=some (excClassObj nm q C N bs bm hd sn su ab co dd k0 k1 k2 k3 k5 nw)) (hn:h.Ns N mN) (hi:mN "__init__"=some (.ref fI)) (hf:h.get? fI=some oI) (hfc:oI.cls= .type "function")
 (hq:∀h' e,Heap.MadeExcOf h h' e (.ref C) rest→wpAny (model Pg w) (A.under (.builtin "type.__call__" ⟨.ref C::rest,[]⟩)) (call (.ref fI) (.ref e::rest)) (fun r s'=>r= .none∧Q (.ref e) s') E ⟨h',g,d,t,os⟩) (hz:rest.length≤sizeLine):
 wpAny (model Pg w) A (call (.ref C) rest) Q E ⟨h,g,d,t,os⟩:=by
 have f1:=tc_lookup
 have f2:=tc_bind (.ref C)
 have f3:(⟨h,g,d,t,os⟩:Shared).TypeIs (.ref C) "type":=⟨_,kC,rfl⟩
 refine wpAny_call (codeAny_of_tree ?_);show wpAny _ _ (callAny (.ref C) _) _ _ _
 repeat (any_goals (first | assumption | with_reducible refine wpAny_loadPart_at kC ?_ | wp_step))
 refine ⟨rfl,codeAny_call_builtin_at (Code.quiet_builtin _ (by decide+kernel)) entry_typeCall (wpAny_check_type_call_sub kC (tcall_initT F T kC hn hi hf hfc (fun h' e hm=>?_) hz))⟩
 exact hq h' e hm
end
section
open PySem.W PySem.Builtin PySem.Builtin.ObjectAttr
variable {Pg:Program} {w:World} {A:Around} {R:Result→Shared→Prop} {s:Shared} {K:Frag} {x C B:Addr} {ox:Obj} {od:Option Obj} {cd:ClassData} {f:Str} {tk:Tok} {v:Value}
noncomputable abbrev veTail:List Value:=[.type "ValueError",.type "Exception",.type "BaseException",.type "object"]
theorem osa_exc(X:K.In s.heap)(I:PySem.W.InstAt s.heap x ox C od)(hc:clsIn K C=some cd)(hm0:cd.mro= .ref C:: .ref B::veTail)(ha:findIn K (.ref C) f=some none)
 (h:∀b,wpAny (model Pg w) A.in1 (storeInOwnDict (.ref x) (.ref C) (.str f tk) f v b) (fun fin s'=>match fin with | .done r=>R (.ok r) s' | .again c'=>c'.quiet=true∧codeAny (model Pg w) A c' R s') (fun e s'=>R (.error e) s') s):
 codeAny (model Pg w) A (.call (.builtin "object.__setattr__") ⟨[.ref x,.str f tk,v],[]⟩) R s:=by
 have F1:=PySem.F.store_object
 have sub:Looks (model Pg w) s.heap (isInstance (.ref x) (.type "object")) true:=I.type.andThen (looks_mroIn X (by unfold mroIn;rw [hc,Option.bind_some,hm0];rfl))
 have lm:Looks (model Pg w) s.heap (mroOf (.ref C)) cd.mro:=(looks_clsIn X hc).andThen .now
 refine codeAny_call_builtin F1.slot.plain F1.entry (@check_slot (model Pg w) _ _ s "object.__setattr__" "object" "__setattr__" (.ref x) [.str f tk,v] [] _ F1.kind F1.split sub (F1.args _ _ _) ?_)
 rw [osa_eq,refuse_eq]
 refine wpAny_bind (wpAny_bind (I.type.here (wpAny_bind (lm.here ?_))))
 rw [hm0,refuseLoop_ref,refuseLoop_ref,PySem.F.store_ValueError.passes]
 exact wpAny_pure (wpAny_bind (I.type.here (wpAny_bind ((looks_findIn X ha).here (wpAny_bind (wpAny_pure (h _)))))))
theorem set_exc0{Q:Unit→Shared→Prop}{E:Value→Shared→Prop}{vs:Array Value}{sl:Array (Option Value)}(X:K.In s.heap)(hx:s.heap.get? x=some ⟨.ref C,none,.fields vs,sl⟩)(hs:findIn K (.ref C) "__setattr__"=some (some (.builtin "object.__setattr__")))
 (hc:clsIn K C=some cd) (hm0:cd.mro= .ref C:: .ref B::veTail) (hd:cd.hasDict=true) (ha:findIn K (.ref C) f=some none)
 (h:∀h',h'.get? x=some ⟨.ref C,some s.heap.objs.size,.fields vs,sl⟩→h'.Ns1 s.heap.objs.size (fun y=>if y=f then some v else none)→(∀b o,b≠x→s.heap.get? b=some o→h'.get? b=some o)→Q () {s with heap:=h',toks:=s.toks+2}):
 wpAny (model Pg w) A (setAttr (.ref x) f v) Q E s:=by
 have J:PySem.W.InstAt s.heap x ⟨.ref C,none,.fields vs,sl⟩ C none:=⟨hx,rfl,rfl,trivial⟩
 refine set_plain X J hs (osa_exc (s:={s with toks:=s.toks+1}) X J hc hm0 ha fun b=>?_)
 refine wpAny_bind (wpAny_pure (wpAny_bind (wpAny_bind (wpAny_loadPart hx (wpAny_bind (Looks.here (s:={s with toks:=s.toks+1}) (looks_clsIn X hc) ?_))))))
 rw [hd]
 have k1:(s.heap.push {cls:= .type "dict",data:= .dict #[]}).get? x=some ⟨.ref C,none,.fields vs,sl⟩:=Heap.get?_push_of_some _ hx
 have nx:x≠s.heap.objs.size:=Nat.ne_of_lt (Heap.lt_size hx)
 refine wpAny_bind (wpAny_alloc' (wpAny_bind (wpAny_update' k1 (wpAny_pure ?_))))
 have k2:((s.heap.push {cls:= .type "dict",data:= .dict #[]}).update x fun o=>{cls:=o.cls,dict:=some s.heap.objs.size,data:=o.data,slots:=o.slots}).get? s.heap.objs.size=some {cls:= .type "dict",data:= .dict #[]}:=
  (Heap.get?_update_ne _ _ _ _ nx.symm).trans (Heap.get?_push_at rfl rfl)
 have k3:((s.heap.push {cls:= .type "dict",data:= .dict #[]}).update x fun o=>{cls:=o.cls,dict:=some s.heap.objs.size,data:=o.data,slots:=o.slots}).Ns s.heap.objs.size (fun _=>none):=
  ⟨_,#[],_,k2,rfl,fun e he=>absurd he (by simp),fun _=>rfl⟩
 show wpAny _ _ (storeInDict s.heap.objs.size (.str f s.toks) f v) _ _ _
 unfold storeInDict newKeyGuard;refine wpAny_bind (wpAny_pure (wpAny_bind (wpAny_nsSet1 (Heap.Ns1.of_empty k3) fun h' hn2 sb=>?_)))
 obtain ⟨oD,esD,epD,uo,ud,uc⟩:=hn2.count (Within.cons f v Within.nil)
 refine wpAny_bind (wpAny_lookBehind uo (by rw [ud];exact pastItsLine_dict (Nat.le_trans uc (by rw [List.length_cons,List.length_nil,sizeLine_eq];omega))) ?_)
 refine wpAny_pure (h h' ?_ ?_ fun b o nb e=>?_)
 · refine (sb.2 x nx).trans (Heap.get?_update_self _ k1 rfl)
 · obtain ⟨o',es,ep,e1,e2,e3,eu,e4⟩:=hn2
   exact ⟨o',es,ep,e1,e2,e3,eu,fun y=>by rw [e4 y]⟩
 · exact (sb.2 b (Nat.ne_of_lt (Heap.lt_size e))).trans ((Heap.get?_update_ne _ _ _ _ nb).trans (Heap.get?_push_of_some _ e))
theorem set_exc1{Q:Unit→Shared→Prop}{E:Value→Shared→Prop}{vs:Array Value}{sl:Array (Option Value)}{dx:Addr}{mA:Str→Option Value}{ns:List Str}(X:K.In s.heap)(hx:s.heap.get? x=some ⟨.ref C,some dx,.fields vs,sl⟩)(hn:s.heap.Ns1 dx mA)(hw:Within mA ns)(hz:ns.length≤sizeLine)
 (hs:findIn K (.ref C) "__setattr__"=some (some (.builtin "object.__setattr__"))) (hc:clsIn K C=some cd) (hm0:cd.mro= .ref C:: .ref B::veTail) (hd:cd.hasDict=true) (ha:findIn K (.ref C) f=some none)
 (h:∀h',h'.Ns1 dx (fun y=>if y=f then some v else mA y)→(∀b,b≠dx→h'.get? b=s.heap.get? b)→Q () {s with heap:=h',toks:=s.toks+2}):
 wpAny (model Pg w) A (setAttr (.ref x) f v) Q E s:=by
 obtain ⟨oo,es,ep,e1,e2⟩:=id hn
 have J:PySem.W.InstAt s.heap x ⟨.ref C,some dx,.fields vs,sl⟩ C (some oo):=⟨hx,rfl,rfl,e1⟩
 refine set_plain X J hs (osa_exc (s:={s with toks:=s.toks+1}) X J hc hm0 ha fun b=>?_)
 refine wpAny_bind (wpAny_pure (wpAny_bind (wpAny_bind (wpAny_loadPart hx (wpAny_bind (Looks.here (s:={s with toks:=s.toks+1}) (looks_clsIn X hc) ?_))))))
 rw [hd]
 refine wpAny_pure (a:=some dx) ?_;show wpAny _ _ (storeInDict dx (.str f s.toks) f v) _ _ _
 unfold storeInDict newKeyGuard;refine wpAny_bind (wpAny_pure (wpAny_bind (wpAny_nsSet1 (s:={s with toks:=s.toks+1}) hn fun h' hn2 sb=>?_)))
 obtain ⟨oD,esD,epD,uo,ud,uc⟩:=hn2.count (Within.cons f v hw)
 refine wpAny_bind (wpAny_lookBehind uo (by rw [ud];exact pastItsLine_dict (Nat.le_trans uc (by rw [List.length_cons];omega))) ?_)
 exact wpAny_pure (h h' hn2 fun b nb=>sb.2 b nb)
theorem get_exc{Q:Value→Shared→Prop}{E:Value→Shared→Prop}{ex:Bool}(X:K.In s.heap)(J:PySem.W.InstAt s.heap x ox C od)(hg:findIn K (.ref C) "__getattribute__"=some (some (.builtin "BaseException.__getattribute__")))
 (hn:findIn K (.ref C) "__getattr__"=some none) (hc:clsIn K C=some cd) (hm0:cd.mro= .ref C:: .ref B::veTail) (hf:findObj K C od f=some (.value v)) (hh:handedIn v=true) (h:Q v {s with toks:=s.toks+1}):
 wpAny (model Pg w) A (getAttr (.ref x) f ex) Q E s:=by
 obtain ⟨hp,g,d,t,os⟩:=s
 have l0:=J.type (M:=model Pg w)
 have l1:=looks_findIn (M:=model Pg w) X hg
 have l2:=looks_findIn (M:=model Pg w) X hn
 have l3:=looks_find (M:=model Pg w) X J hf
 unfold getAttr getAttrBy
 refine wpAny_bind (wpAny_mkText (wpAny_holding (wpAny_bind (l0.at (wpAny_bind (l1.at ?_))))))
 have b1:=PySem.F.excAttr_ValueError.ga.bind (.ref x)
 have b2:(ex && onTheHeap (Value.builtin "BaseException.__getattribute__"))=false:=by cases ex <;> rfl
 have b3:(Value.builtin "BaseException.__getattribute__"==Value.builtin "object.__getattribute__")=false:=by decide+kernel
 have b4:(onTheHeap (Value.ref C) && Value.builtin "BaseException.__getattribute__"==Value.builtin "object.__getattribute__")=false:=by rw [b3];rfl
 have sub:Looks (model Pg w) hp (isInstance (.ref x) (.type "BaseException")) true:=J.type.andThen (looks_mroIn X (by unfold mroIn;rw [hc,Option.bind_some,hm0];rfl))
 show wpAny _ _ (if (onTheHeap (Value.ref C) && Value.builtin "BaseException.__getattribute__"==Value.builtin "object.__getattribute__")=true then _ else _) _ _ _
 rw [if_neg (by rw [b4];decide)]
 unfold getAttrByItsOwn hookBefore
 rw [if_pos (show onTheHeap (Value.ref C)=true from rfl)]
 refine wpAny_bind (l2.at ?_)
 (repeat (any_goals (first | assumption | wp_step)));refine codeAny_call_builtin PySem.F.excAttr_ValueError.ga.plain PySem.F.entry_bexc_ga (@check_slot (model Pg w) _ _ _ "BaseException.__getattribute__" "BaseException" "__getattribute__" (.ref x) [.str f t] [] _ (by decide+kernel) (by decide+kernel) sub (PySem.F.args_bexc_ga _ _) ?_)
 unfold Builtin.«object.__getattribute__»;repeat (any_goals (first | assumption | with_reducible refine l0.at ?_ | with_reducible refine l3.at ?_ | wp_step))
 show wpAny _ _ (handedOut v) _ _ _;rw [handedOut_of hh]
 exact wpAny_pure h
end
noncomputable def exO(n:Bool)(x C:Addr)(od:Option Addr):HO:= .ext fun h=>∃vs sl,h.get? x=some ⟨.ref C,od,.fields vs,sl⟩∧(n=true→∃t,vs=#[.ref t,.none,.none,.none,.bool false,.none])
noncomputable def exD(dx:Addr)(fs:List (Str×V)):HO:= .ext fun h=>fs.length≤1000∧∃mA,h.Ns1 dx mA∧(∀f,RelO (fs.lookup f) (mA f))∧PySem.Within mA (fs.map (·.1))
section
variable {X:Cx} {pins:List (Addr×Obj)} {σ:St} {H:Hp} {x:Addr} {s:Shared} {h':Heap} {o:HO} {t':Nat}
theorem Inv.born(I:Inv X pins σ H s)(hex:X.ex=[])(k:∀b u,s.heap.get? b=some u→h'.get? b=some u)(hn:s.heap.get? x=none)(new:ObjOk X.prog X.w (upd H x o) h' x o):Inv X pins σ (upd H x o) {s with heap:=h',toks:=t'}:=by
 have J:Inv X pins σ H {s with heap:=h',toks:=t'}:=I.kept k
 have hx:H x=none:=by
  cases q:H x with
  | none=>rfl
  | some v=>obtain ⟨o1,e1⟩:=I.hok.there q;rw [hn]at e1;cases e1
 have n0:X.s₀.heap.get? x=none:=by
  cases q:X.s₀.heap.get? x with
  | none=>rfl
  | some v=>obtain ⟨o1,e1⟩:=I.base.there x v q (by rw [hex];simp);rw [hn]at e1;cases e1
 have nl:x≠X.env.locals:=by
  rintro rfl
  obtain ⟨m,⟨o1,es,ep,e,_⟩,_⟩:=I.loc
  rw [hn]at e;cases e
 have nc:∀y c,X.env.cells.lookup y=some c→c≠x:=by
  rintro y c hc rfl
  obtain ⟨v,o1,e,_⟩:=I.cell y c hc
  rw [hn]at e;cases e
 have np:∀p∈X.pn++pins,p.1≠x:=fun p hp z=>by
  have e:=(I.pin p hp).1
  rw [z,hn]at e;cases e
 refine ⟨J.ok,J.os,J.bare,⟨J.base.keep,J.base.slot,fun b o e n hb=>?_,J.base.there,fun b xs e=>?_,fun b o v e=>?_,fun b ps e=>?_⟩,J.loc,J.cell,?_,fun y c hc=>?_,fun p hp=>?_,fun b u e=>?_,J.len⟩
 · rw [upd_ne (by rintro rfl;rw [n0]at e;cases e)];exact J.base.free b o e n hb
 · have e1:=J.base.tups b xs e;rw [upd_ne (ne_of_none e1 hx)];exact e1
 · have e1:=J.base.frzs b o v e;rw [upd_ne (ne_of_none e1 hx)];exact e1
 · obtain ⟨m,e1⟩:=J.base.tbls b ps e;exact ⟨m,by rw [upd_ne (ne_of_none e1 hx)];exact e1⟩
 · rw [upd_ne nl.symm];exact J.free
 · rw [upd_ne (nc y c hc)];exact J.freeC y c hc
 · obtain ⟨a1,a2,a3,a4,a5⟩:=J.pin p hp
   exact ⟨a1,by rw [upd_ne (np p hp)];exact a2,a3,a4,a5⟩
 · by_cases hb:b=x
   · subst hb
     rw [upd_same]at e;cases e
     exact new
   · rw [upd_ne hb]at e
     exact (J.hok b u e).stay (fun _ _ _ q=>q) (fun c q=>by rw [upd_ne (ne_of_none q hx)];exact q) fun c xs q=>by rw [upd_ne (ne_of_none q hx)];exact q
theorem exO_ok{P:Program}{w:World}{n:Bool}{C:Addr}{od:Option Addr}{vs:Array Value}{sl:Array (Option Value)}(e:h'.get? x=some ⟨.ref C,od,.fields vs,sl⟩)(hv:n=true→∃t,vs=#[.ref t,.none,.none,.none,.bool false,.none]):ObjOk P w H h' x (exO n x C od):=
 ⟨⟨vs,sl,e,hv⟩,⟨_,e⟩,fun _ _ ⟨v1,s1,e1,q1⟩ k=>⟨v1,s1,k _ e1,q1⟩⟩
end
noncomputable def tExc(C:Addr)(t:TA):TE:=fun σ H Q=>t σ H fun vs H1=>vs.length≤sizeLine∧∀x,H1 x=none→Q (.ref x) (upd H1 x (exO true x C none))
section
variable {X:Cx} {C:Addr} {x:Str} {p pos:Pos} {e:Expr} {es:List Expr} {t:TA}
theorem pe_exc(M:ExcC X.K C)(hex:X.ex=[])(kp:PySem.W.keepIn X.K (.ref C)=true)(hg:Gl X x)(hm:X.mg x=some (.ref C))(ha:PA X (e::es) t)(hdb:(x==("__debug__":Str))=false:=by decide)
 (he:starEach (e::es) X.env=(false,eval e X.env)::starEach es X.env:=by rfl) (hpl:(backTo pos (starEach es X.env)).any (·.1)=false:=by rfl):
 PE X (.Call (.Name x p) (e::es) [] pos) (tExc C t):=by
 intro pins s0 σ H0 Q I0 h
 refine wpAny_Call_Name_kw (ld_glob I0 hg hm ?_ hdb)
 refine PySem.W.callWith_K (h₀:=X.base) I0.ok.mod.kin kp (thn (ha pos pins s0 σ H0 _ I0 h) fun us s ⟨vs,H,I,r,z,q⟩=>⟨I.kIn,?_⟩) he hpl
 obtain ⟨nm,qn,N,bs,bm,hd,sn,su,ab,co,dd,k0,k1,k2,k3,k5,mN,c1,c2,c3,c4⟩:=M.at_ s.heap I.kIn
 obtain ⟨hp,gn,dr,tk,os⟩:=s
 refine wpAny_call_exc_subT PySem.F.excBase_ValueError c4 c1 c2 c3 (fun h' y hy=>?_) (by show us.length≤sizeLine;rw [← r.length];exact z)
 obtain ⟨t0,e1,_,_⟩:=hy.there
 have nv:true=true→∃t,(#[.ref t0,.none,.none,.none,.bool false,.none]:Array Value)=#[.ref t,.none,.none,.none,.bool false,.none]:=fun _=>⟨t0,rfl⟩
 have hy0:H y=none:=by
  cases w':H y with
  | none=>rfl
  | some v=>obtain ⟨o1,e2⟩:=I.hok.there w';rw [hy.new]at e2;cases e2
 exact ⟨.ref y,_,I.born hex hy.keeps hy.new (exO_ok e1 nv),rfl,q y hy0⟩
end
structure ExcG(K:PySem.W.Frag)(C:Addr):Prop where
 ga:PySem.W.findIn K (.ref C) "__getattribute__"=some (some (.builtin "BaseException.__getattribute__"))
 gh:PySem.W.findIn K (.ref C) "__getattr__"=some none
structure ExcQ(K:PySem.W.Frag)(C B:Addr):Prop extends ExcG K C where
 cd:∃cd:ClassData,PySem.W.clsIn K C=some cd∧cd.mro= .ref C:: .ref B::veTail∧cd.hasDict=true
 sa:PySem.W.findIn K (.ref C) "__setattr__"=some (some (.builtin "object.__setattr__"))
section
variable {X:Cx} {pins:List (Addr×Obj)} {σ:St} {H:Hp} {s:Shared} {nw:Bool} {a dx C B:Addr} {fs:List (Str×V)} {f:Str} {v:V} {A:Around} {E:Value→Shared→Prop}
theorem ExcQ.hd{K:PySem.W.Frag}(q:ExcQ K C B):PySem.W.hasDictIn K C=true:=by
 obtain ⟨cd,c1,_,c3⟩:=q.cd
 unfold PySem.W.hasDictIn
 rw [c1];exact c3
theorem getx_ok{ex:Bool}{Q:Value→Shared→Prop}(I:Inv X pins σ H s)(q:ExcQ X.K C B)(hx:H a=some (exO nw a C (some dx)))(hd:H dx=some (exD dx fs))(n:PySem.W.findIn X.K (.ref C) f=some none)(l:fs.lookup f=some v)
 (h:∀u s',Inv X pins σ H s'→RelV v u→Q u s'):wpAny (model X.prog X.w) A (getAttr (.ref a) f ex) Q E s:=by
 obtain ⟨vs,sl,e1,nv⟩:=(I.hok a _ hx).1
 obtain ⟨_,mA,hn,r,wi⟩:=(I.hok dx _ hd).1
 obtain ⟨od,ho,hlk⟩:=lookIn_ns hn
 obtain ⟨u,hu,ru⟩:=RelO.some_of (v:=v) (o:=mA f) (by rw [← l];exact r f)
 obtain ⟨cd,c1,c2,c3⟩:=q.cd
 exact get_exc I.kIn ⟨e1,rfl,rfl,ho⟩ q.ga q.gh c1 c2 (PySem.W.findObj_own q.hd n rfl (by rw [hlk,hu])) (handed_of ru) (h u _ (I.tok _) ru)
end
section
variable {X:Cx} {pins:List (Addr×Obj)} {σ:St} {H H1:Hp} {s s1:Shared} {x:Addr} {o:HO}
theorem Inv.track(I:Inv X pins σ H1 s1)(hex:X.ex=[])(hn:s1.heap.get? x=none)(J:Inv X pins σ H s)(hx:H x=none)(new:ObjOk X.prog X.w (upd H x o) s.heap x o):Inv X pins σ (upd H x o) s:=by
 have n0:X.s₀.heap.get? x=none:=by
  cases q:X.s₀.heap.get? x with
  | none=>rfl
  | some v=>obtain ⟨o1,e1⟩:=I.base.there x v q (by rw [hex];simp);rw [hn]at e1;cases e1
 have nl:x≠X.env.locals:=by
  rintro rfl
  obtain ⟨m,⟨o1,es,ep,e,_⟩,_⟩:=I.loc
  rw [hn]at e;cases e
 have nc:∀y c,X.env.cells.lookup y=some c→c≠x:=by
  rintro y c hc rfl
  obtain ⟨v,o1,e,_⟩:=I.cell y c hc
  rw [hn]at e;cases e
 have np:∀p∈X.pn++pins,p.1≠x:=fun p hp z=>by
  have e:=(I.pin p hp).1
  rw [z,hn]at e;cases e
 refine ⟨J.ok,J.os,J.bare,⟨J.base.keep,J.base.slot,fun b o e n hb=>?_,J.base.there,fun b xs e=>?_,fun b o v e=>?_,fun b ps e=>?_⟩,J.loc,J.cell,?_,fun y c hc=>?_,fun p hp=>?_,fun b u e=>?_,J.len⟩
 · rw [upd_ne (by rintro rfl;rw [n0]at e;cases e)];exact J.base.free b o e n hb
 · have e1:=J.base.tups b xs e;rw [upd_ne (ne_of_none e1 hx)];exact e1
 · have e1:=J.base.frzs b o v e;rw [upd_ne (ne_of_none e1 hx)];exact e1
 · obtain ⟨m,e1⟩:=J.base.tbls b ps e;exact ⟨m,by rw [upd_ne (ne_of_none e1 hx)];exact e1⟩
 · rw [upd_ne nl.symm];exact J.free
 · rw [upd_ne (nc y c hc)];exact J.freeC y c hc
 · obtain ⟨a1,a2,a3,a4,a5⟩:=J.pin p hp
   exact ⟨a1,by rw [upd_ne (np p hp)];exact a2,a3,a4,a5⟩
 · by_cases hb:b=x
   · subst hb
     rw [upd_same]at e;cases e
     exact new
   · rw [upd_ne hb]at e
     exact (J.hok b u e).stay (fun _ _ _ q=>q) (fun c q=>by rw [upd_ne (ne_of_none q hx)];exact q) fun c xs q=>by rw [upd_ne (ne_of_none q hx)];exact q
theorem put_names{fs:List (Str×V)}{mA:Str→Option Value}{f:Str}{y:V}{u:Value}(r:∀g,RelO (fs.lookup g) (mA g))(wi:PySem.Within mA (fs.map (·.1)))(ry:RelV y u):
 (∀g,RelO ((putF f y fs).lookup g) (if g=f then some u else mA g))∧PySem.Within (fun g=>if g=f then some u else mA g) ((putF f y fs).map (·.1)):=by
 refine ⟨fun g=>?_,fun g hg=>?_⟩
 · rw [lookup_putF]
   by_cases e:g=f
   · rw [if_pos e,if_pos e];exact ry
   · rw [if_neg e,if_neg e];exact r g
 · by_cases e:g=f
   · subst e;exact (keys_putF g y fs).1
   · exact (keys_putF f y fs).2 g (wi g fun z=>hg (by show (if g=f then some u else mA g)=none;rw [if_neg e,z]))
theorem exD_ok{P:Program}{w:World}{h':Heap}{dx:Addr}{fs:List (Str×V)}{mA:Str→Option Value}(hl:fs.length≤1000)(hn:h'.Ns1 dx mA)(r:∀g,RelO (fs.lookup g) (mA g))(wi:PySem.Within mA (fs.map (·.1))):ObjOk P w H h' dx (exD dx fs):=by
 refine ⟨⟨hl,mA,hn,r,wi⟩,?_,fun h1 h2 ⟨b1,mB,b2,b3,b4⟩ k=>?_⟩
 · obtain ⟨o1,es,ep,e2,_⟩:=id hn;exact ⟨o1,e2⟩
 · obtain ⟨o1,es,ep,e2,e3⟩:=id b2
   exact ⟨b1,mB,⟨o1,es,ep,k _ e2,e3⟩,b3,b4⟩
theorem setx_ok0{nw:Bool}{a C B:Addr}{f:Str}{y:V}{u:Value}{A:Around}{E:Value→Shared→Prop}{Q:Unit→Shared→Prop}(I:Inv X pins σ H s)(hex:X.ex=[])(q:ExcQ X.K C B)(hx:H a=some (exO nw a C none))(n:PySem.W.findIn X.K (.ref C) f=some none)(ry:RelV y u)
 (h:∀dx s',H dx=none→Inv X pins σ (upd (upd H a (exO nw a C (some dx))) dx (exD dx (putF f y []))) s'→Q () s'):wpAny (model X.prog X.w) A (setAttr (.ref a) f u) Q E s:=by
 obtain ⟨vs,sl,e1,nv⟩:=(I.hok a _ hx).1
 obtain ⟨cd,c1,c2,c3⟩:=q.cd
 refine set_exc0 I.kIn e1 q.sa c1 c2 c3 n fun h' k1 k2 k3=>?_
 have hd0:H s.heap.objs.size=none:=I.hok.fresh (Nat.le_refl _)
 have nda:s.heap.objs.size≠a:=fun e=>by rw [e,hx]at hd0;cases hd0
 have J:Inv X pins σ (upd H a (exO nw a C (some s.heap.objs.size))) {s with heap:=h',toks:=s.toks+2}:=
  I.write (x:=a) (e:=a) (by rw [hx];exact True.intro) (.inl rfl) k3 ⟨_,k1⟩ (exO_ok k1 nv)
 refine h _ _ hd0 (Inv.track I hex (Heap.get?_none_of_le (Nat.le_refl _)) J (by rw [upd_ne nda];exact hd0) ?_)
 have pn:=put_names (fs:=[]) (mA:=fun _=>none) (f:=f) (fun _=>trivial) (fun g hg=>absurd rfl hg) ry
 exact exD_ok (by simp [putF]) k2 pn.1 pn.2
theorem setx_ok1{nw:Bool}{a dx C B:Addr}{fs:List (Str×V)}{f:Str}{y:V}{u:Value}{A:Around}{E:Value→Shared→Prop}{Q:Unit→Shared→Prop}(I:Inv X pins σ H s)(q:ExcQ X.K C B)(hx:H a=some (exO nw a C (some dx)))(hd:H dx=some (exD dx fs))(hl:fs.length < 1000)(n:PySem.W.findIn X.K (.ref C) f=some none)(ry:RelV y u)
 (h:∀s',Inv X pins σ (upd H dx (exD dx (putF f y fs))) s'→Q () s'):wpAny (model X.prog X.w) A (setAttr (.ref a) f u) Q E s:=by
 obtain ⟨vs,sl,e1,nv⟩:=(I.hok a _ hx).1
 obtain ⟨_,mA,hn,r,wi⟩:=(I.hok dx _ hd).1
 obtain ⟨cd,c1,c2,c3⟩:=q.cd
 refine set_exc1 I.kIn e1 hn wi (by rw [List.length_map,sizeLine_eq];omega) q.sa c1 c2 c3 n fun h' k1 k2=>h _ ?_
 have pn:=put_names (f:=f) r wi ry
 have:=length_putF f y fs
 obtain ⟨o1,es,ep,e2,_⟩:=id k1
 exact I.write (x:=dx) (e:=dx) (by rw [hd];exact True.intro) (.inl rfl) (fun b v nb z=>(k2 b nb).trans z) ⟨_,e2⟩ (exD_ok (by omega) k1 pn.1 pn.2)
end
noncomputable def tFldX(K:PySem.W.Frag)(ta:TE)(f:Str):TE:=fun σ H Q=>ta σ H fun x H1=>∃nw a C B dx fs v,x= .ref a∧H1 a=some (exO nw a C (some dx))∧H1 dx=some (exD dx fs)∧ExcQ K C B∧PySem.W.findIn K (.ref C) f=some none∧fs.lookup f=some v∧Q v H1
noncomputable def sFldX(K:PySem.W.Frag)(ta tv:TE)(f:Str):TS:=fun D σ H=>tv σ H fun y H1=>ta σ H1 fun x H2=>∃nw a C B,x= .ref a∧ExcQ K C B∧PySem.W.findIn K (.ref C) f=some none∧
 ((H2 a=some (exO nw a C none)∧∀dx,H2 dx=none→D.nx σ (upd (upd H2 a (exO nw a C (some dx))) dx (exD dx (putF f y []))))∨
  ∃dx fs,H2 a=some (exO nw a C (some dx))∧H2 dx=some (exD dx fs)∧fs.length < 1000∧D.nx σ (upd H2 dx (exD dx (putF f y fs))))
section
variable {X:Cx} {CX:CXT} {k j:Nat} {C B:Addr} {ps:List Str} {sp:Sp} {EE:St→XK} {f m:Str} {pos pos' apos:Pos} {e o value:Expr} {ta tv:TE}
theorem pe_fldX(he:PE X e ta)(hb:attributeBase e f X.env (eval e X.env)=eval e X.env):PE X (.Attribute e f pos) (tFldX X.K ta f):=by
 intro pins s σ H Q I h
 refine attr_of hb (thn (he pins s σ H _ I h) fun u s1 hq_=>?_)
 obtain ⟨x,H1,I1,rx,nw,a,C,B,dx,fs,v,ex,ea,ed,q,n,l,z⟩:=hq_
 subst ex
 cases (show u=Value.ref a from rx)
 exact getx_ok I1 q ea ed n l fun u' s2 I2 ru=>⟨v,H1,I2,ru,z⟩
theorem ps_fldX(hex:X.ex=[])(ha:PE X o ta)(hv:PE X value tv)(hs:swapsWith value (some (.Attribute o f pos')) pos.line X.env=pure false):PS X (.Assign [.Attribute o f pos'] value pos) (sFldX X.K ta tv f):=by
 intro pins s σ H D I h
 refine plainObj_wpAny_Assign_Attribute (thn (hv pins s σ H _ I h) fun u s1 ⟨y,H1,I1,ry,q⟩=>thn (ha pins s1 σ H1 _ I1 q) fun ov s2 hq_=>?_) hs
 obtain ⟨x,H2,I2,rx,nw,a,C,B,ex,c,n,z⟩:=hq_
 subst ex
 cases (show ov=Value.ref a from rx)
 rcases z with ⟨ea,z⟩ | ⟨dx,fs,ea,ed,l,z⟩
 · exact setx_ok0 I2 hex c ea n ry fun dx s3 hd I3=>⟨σ,_,I3,z dx hd⟩
 · exact setx_ok1 I2 c ea ed l n ry fun s3 I3=>⟨σ,_,I3,z⟩
end
structure MkX(K:PySem.W.Frag)(C f:Addr):Prop where
 at_:∀h:Heap,K.In h→∃(nm q:Str) (N:Addr) (bs bm:List Value) (hd:Bool) (sn:List Str) (su:List Value) (ab:Bool) (co:Option Bool) (dd:Option Addr) (k0 k1 k2 k3 k5:Option Value) (mN:Str→Option Value),
  h.get? C=some (excClassObj nm q C N bs bm hd sn su ab co dd k0 k1 k2 k3 k5 "ValueError.__new__")∧h.Ns N mN∧mN "__init__"=some (.ref f)∧OwnTail h veTail bm
 fn:∃oI:Obj,K.lookup f=some oI∧oI.cls= .type "function"
 kp:PySem.W.keepIn K (.ref C)=true
structure DefX(P:Program)(w:World)(K:PySem.W.Frag)(mg:Str→Option Value)(base:Heap)(CX:CXT)(k:Nat)(x:Str)(C:Addr)(ps:List Str)(sp:Sp):Prop where
 ex:∃(f:Addr) (fd:FuncData),FnOk P w K mg base CX k f fd ps sp∧MkX K C f∧mg x=some (.ref C)∧Binds K fd ps []
noncomputable def tExcI(C:Addr)(sp:Sp)(EE:St→XK)(t:TA):TE:=fun σ H Q=>t σ H fun vs H1=>vs.length≤sizeLine∧∀x,H1 x=none→sp (.ref x::vs) (upd H1 x (exO true x C none)) (fun v H2=>v= .non∧Q (.ref x) H2) (EE σ)
section
variable {X:Cx} {CX:CXT} {k j:Nat} {C:Addr} {ps:List Str} {sp:Sp} {EE:St→XK} {x:Str} {p pos:Pos} {e:Expr} {es:List Expr} {t:TA}
theorem pe_excI(D:DefX X.prog X.w X.K X.mg X.base CX j x C ps sp)(hex:X.ex=[])(hr:Room k X.A)(hg:Gl X x)(hx:PassesS CX X EE)(ha:PA X (e::es) t)(hj:j+1≤k:=by decide)(hdb:(x==("__debug__":Str))=false:=by decide)
 (he:starEach (e::es) X.env=(false,eval e X.env)::starEach es X.env:=by rfl) (hpl:(backTo pos (starEach es X.env)).any (·.1)=false:=by rfl):
 PE X (.Call (.Name x p) (e::es) [] pos) (tExcI C sp EE t):=by
 obtain ⟨f,fd,F,M,hm,hb⟩:=D.ex
 intro pins s0 σ H0 Q I0 h
 refine wpAny_Call_Name_kw (ld_glob I0 hg hm ?_ hdb)
 refine PySem.W.callWith_K (h₀:=X.base) I0.ok.mod.kin M.kp (thn (ha pos pins s0 σ H0 _ I0 h) fun us s ⟨vs,H,I,r,z,q⟩=>⟨I.kIn,?_⟩) he hpl
 obtain ⟨nm,qn,N,bs,bm,hd,sn,su,ab,co,dd,k0,k1,k2,k3,k5,mN,c1,c2,c3,c4⟩:=M.at_ s.heap I.kIn
 obtain ⟨oI,f1,f2⟩:=M.fn
 have f3:=I.kIn _ _ f1
 obtain ⟨hp,gn,dr,tk,os⟩:=s
 refine call_initT PySem.F.excBase_ValueError c4 c1 c2 c3 f3 f2 (fun h' y hy=>?_) (by show us.length≤sizeLine;rw [← r.length];exact z)
 obtain ⟨t0,e1,_,_⟩:=hy.there
 have nv:true=true→∃t,(#[.ref t0,.none,.none,.none,.bool false,.none]:Array Value)=#[.ref t,.none,.none,.none,.bool false,.none]:=fun _=>⟨t0,rfl⟩
 have hy0:H y=none:=by
  cases w':H y with
  | none=>rfl
  | some v=>obtain ⟨o1,e2⟩:=I.hok.there w';rw [hy.new]at e2;cases e2
 have hq:=q y hy0
 have I2:Inv X pins σ (upd H y (exO true y C none)) ⟨h',gn,dr,tk,os⟩:=I.born hex hy.keeps hy.new (exO_ok e1 nv)
 have r2:Vals (V.ref y::vs) (Value.ref y::us):= .cons rfl r
 have hl:(Value.ref y::us).length=ps.length:=by rw [← r2.length];exact F.len _ _ _ _ hq
 have hb':=hb ⟨h',gn,dr,tk,os⟩ (Value.ref y::us) I2.kIn (by simpa using hl)
 rw [List.append_nil]at hb'
 have hr':Room (j+1) X.A:=hr.mono hj
 refine wpAny_call (codeAny_mono (F.run _ X.stack _ _ ⟨Value.ref y::us,[]⟩ (Value.ref y::us) _ _ (EE σ) (hr'.make C us []) (I2.env0.make C us []) hb' r2 hq) fun r3 s' hq'=>?_)
 cases r3 with
 | error e=>exact hx pins σ _ _ e s' I2 hq'
 | ok fl=>
  cases fl with
  | ret u=>
   obtain ⟨v,H',I3,rv,ev,q3⟩:=I2.after hq'
   subst ev
   exact ⟨rv,⟨V.ref y,H',I3,rfl,q3⟩⟩
  | next=>exact False.elim hq'
  | brk=>exact False.elim hq'
  | cont=>exact False.elim hq'
end
end L2
namespace L2
open Sem (wp)
noncomputable def Lies(h:Heap)(x C:Addr)(od:Option Addr):Prop:=∃vs sl,h.get? x=some ⟨.ref C,od,.fields vs,sl⟩
section
variable {M:Model} {A:Around} {E:Value→Shared→Prop} {s:Shared} {base:Heap} {env:Env} {outer l:List Env} {L x C:Addr} {od:Option Addr} {vs:Array Value} {sl:Array (Option Value)} {a0 fl:Value} {Q:Unit→Shared→Prop}
theorem entry2{g1:Heap}{oT:Obj}{ts:Array Value}(tT:oT.data= .fields ts)(t3:ts[3]?=some fl)(ff:s.heap.FunFrames base l)(ex:s.heap.get? x=some ⟨.ref C,od,.fields vs,sl⟩)
 (s1:Heap.SlotsOnly (l.filterMap (·.frame)) s.heap g1) (y1:g1.get? x=some ⟨.ref C,od,.fields vs,sl⟩) (b1:base.StaysIn g1) (bx:base.get? x=none) (z1:1 < vs.size) (z0:vs[0]?=some a0)
 (q:∀h',Heap.NotedW base l x (.ref C) a0 fl s.heap h'→Lies h' x C od→Q () {s with heap:=h'}):
 wpAny M A (setField (.ref x) 1 (.ref g1.objs.size)) Q E {s with heap:=g1.push oT}:=by
 have y2:=Heap.get?_push_of_some oT y1
 have nT:g1.objs.size≠x:=Nat.ne_of_gt (Heap.lt_size y1)
 have y3:((g1.push oT).update x (Obj.mapFields (·.setIfInBounds 1 (.ref g1.objs.size)))).get? x=some ⟨.ref C,od,.fields (vs.setIfInBounds 1 (.ref g1.objs.size)),sl⟩:=Heap.get?_update_self _ y2 rfl
 have kp:∀b o,b≠x→g1.get? b=some o→((g1.push oT).update x (Obj.mapFields (·.setIfInBounds 1 (.ref g1.objs.size)))).get? b=some o:=fun b o nb e=>(Heap.get?_update_other _ _ (Ne.symm nb)).trans (Heap.get?_push_of_some _ e)
 have nr:∀b o,s.heap.get? b=some o→(∀us,o.data≠ .fields us)→b≠x:=fun b o e n z=>by rw [z,ex]at e;cases e;exact n vs rfl
 refine wpAny_setField y2 rfl z1 (q _ ⟨fun b o e=>kp b o (fun z=>by rw [z,bx]at e;cases e) (b1 b o e),ff.of_keeps fun b o e n=>?_,?_,fun b o e n=>?_⟩ ⟨_,_,y3⟩)
 · obtain ⟨r,e1⟩:=s1.2.2 b o e;exact ⟨_,kp b _ (nr b o e n) e1,rfl⟩
 · exact ⟨_,_,g1.objs.size,oT,ts,y3,⟨rfl,by rw [Array.getElem?_setIfInBounds_ne (by decide)];exact z0⟩,rfl,by simp [z1],b1.fresh,nT,(Heap.get?_update_other _ _ (Ne.symm nT)).trans (Heap.get?_push_size g1 (Obj.isFreed_of_fields tT)),tT,t3⟩
 · obtain ⟨r,e1⟩:=s1.2.2 b o e;exact ⟨r,kp b _ (nr b o e n) e1⟩
theorem entryD{hv:Value}{nx:Bool}(fr:A.frames=some (env::outer))(ff:s.heap.FunFrames base (env::outer))(el:env.frame=some L)
 (ex:s.heap.get? x=some ⟨.ref C,od,.fields vs,sl⟩) (bs:base.StaysIn s.heap) (bx:base.get? x=none) (z1:1 < vs.size) (z0:vs[0]?=some a0)
 (q:∀h',Heap.NotedW base (env::outer) x (.ref C) a0 (rawInt L) s.heap h'→Lies h' x C od→Q () {s with heap:=h'}):
 wpAny M A (do let a ← frameOf env;let pl ← entryPlaceOf L nx;let b ← EntryCells.newEntry hv a .none (rawInt L) .none pl;setField (.ref x) 1 b) Q E s:=by
 have nf:x∉(env::outer).filterMap (·.frame):=fun hm=>by
  obtain ⟨_,o1,e1,n1⟩:=ff.mem hm
  rw [ex]at e1;cases e1;exact n1 vs rfl
 refine wpAny_bind (wpAny_frameOf_fun fr ff el fun g1 s1=>wpAny_bind (wpAny_entryPlaceOf fun pl ip=>?_))
 unfold EntryCells.newEntry newFields
 refine wpAny_bind (wpAny_newObj_type ?_ (ip.sizeOk5 _ _ _ _ _))
 have y1:=(s1.2.1 x nf).trans ex
 have b1:base.StaysIn g1:=fun b o e=>(s1.2.1 b fun hm=>by rw [(ff.mem hm).1]at e;cases e).trans (bs b o e)
 refine entry2 (s:=s) (fl:=rawInt L) rfl ?_ ff ex s1 y1 b1 bx z1 z0 q
 first | (simp;done) | (rcases ip with rfl | ⟨_,_,_,_,_,_,_,rfl⟩ <;> simp)
theorem landD(bs:base.StaysIn s.heap)(ff:s.heap.FunFrames base l)(tr:s.heap.TracedAtW base x (.ref C) a0 fl)(ly:Lies s.heap x C od)
 (q:∀h',base.StaysIn h'→h'.FunFrames base l→h'.TracedW base x (.ref C) a0→s.heap.UpToSlots h'→Lies h' x C od→Q () {s with heap:=h'}):wpAny M A (setFlight (.ref x) none) Q E s:=by
 obtain ⟨oe,ws,T,oT,ts,e1,c1,d1,d2,n1,n2,e3,d3,t3⟩:=tr
 obtain ⟨v2,s2,l1⟩:=ly
 have z3:3 < ts.size:=(Array.getElem?_eq_some_iff.mp t3).1
 unfold setFlight
 refine wpAny_bind (wpAny_field e1 d1 d2 ?_)
 rw [if_pos (show (Value.ref T !=Value.none)=true from by simp)]
 have oth:∀b,b≠T→(s.heap.update T (Obj.mapFields (·.setIfInBounds 3 ((none:Option Addr).elim Value.none fun f=>rawInt f)))).get? b=s.heap.get? b:=fun b nb=>Heap.get?_update_other _ _ (Ne.symm nb)
 have nr:∀b o,s.heap.get? b=some o→(∀us,o.data≠ .fields us)→b≠T:=fun b o e n z=>by rw [z,e3]at e;cases e;exact n ts d3
 refine wpAny_setField e3 d3 z3 (q _ (fun b o e=>(oth b fun z=>by rw [z,n1]at e;cases e).trans (bs b o e)) (ff.of_keeps fun b o e n=>⟨o,(oth b (nr b o e n)).trans e,rfl⟩) ?_ (fun b o e n=>⟨o.slots,(oth b (nr b o e n)).trans e⟩) ⟨v2,s2,(oth x (Ne.symm n2)).trans l1⟩)
 exact ⟨oe,ws,T,_,_,(oth x (Ne.symm n2)).trans e1,c1,d1,d2,n1,n2,Heap.get?_update_self _ e3 (Obj.isFreed_of_fields (Obj.data_mapFields d3 _)),Obj.data_mapFields d3 _,by simp [z3]⟩
theorem noteD(fr:A.frames=some (env::outer))(ff:s.heap.FunFrames base (env::outer))(el:env.frame=some L)(tr:s.heap.TracedW base x (.ref C) a0)(bs:base.StaysIn s.heap)(bx:base.get? x=none)(ly:Lies s.heap x C od)
 (q:∀h',Heap.NotedW base (env::outer) x (.ref C) a0 (rawInt L) s.heap h'→Lies h' x C od→Q () {s with heap:=h'}):wpAny M A (noteFrame (.ref x) env) Q E s:=by
 obtain ⟨oe,ws,T,oT,ts,e1,⟨c1,c2⟩,d1,d2,n1,n2,e3,d3,t3⟩:=tr
 obtain ⟨v2,s2,l1⟩:=ly
 rw [l1]at e1;cases e1;cases d1
 unfold noteFrame
 simp only [el]
 refine wpAny_bind (wpAny_field l1 rfl d2 ?_)
 rw [if_pos (show (Value.ref T !=Value.none)=true from by simp)]
 refine wpAny_bind (wpAny_field e3 d3 t3 ?_)
 rw [if_neg (show ¬((Value.none==rawInt L)=true) from by simp [rawInt])]
 refine wpAny_bind (wpAny_setField e3 d3 (Array.getElem?_eq_some_iff.mp t3).1 ?_)
 have oth:∀b,b≠T→(s.heap.update T (Obj.mapFields (·.setIfInBounds 3 Value.none))).get? b=s.heap.get? b:=fun b nb=>Heap.get?_update_other _ _ (Ne.symm nb)
 have nr:∀b o,s.heap.get? b=some o→(∀us,o.data≠ .fields us)→b≠T:=fun b o e n z=>by rw [z,e3]at e;cases e;exact n ts d3
 refine entryD fr (ff.of_keeps fun b o e n=>⟨o,(oth b (nr b o e n)).trans e,rfl⟩) el ((oth x (Ne.symm n2)).trans l1) (fun b o e=>(oth b fun z=>by rw [z,n1]at e;cases e).trans (bs b o e)) bx (Array.getElem?_eq_some_iff.mp d2).1 c2 fun h' N ly'=>q h' ⟨N.1,N.2.1,N.2.2.1,fun b o e n=>N.2.2.2 b o ((oth b (nr b o e n)).trans e) n⟩ ly'
noncomputable def FlyD(base:Heap)(l:List Env)(x C:Addr)(od:Option Addr)(a0:Value)(h:Heap):Prop:=Heap.FlyingW base l x (.ref C) a0 h∧Lies h x C od
theorem leavesD(fr:A.frames=some (env::outer))(el:env.frame=some L)(f:FlyD base (env::outer) x C od a0 s.heap)(q:∀h',FlyD base outer x C od a0 h'→s.heap.UpToSlots h'→Q () {s with heap:=h'}):wpAny M A (leaving env (.ref x)) Q E s:=by
 obtain ⟨⟨f1,f2,f3,f4⟩,ly⟩:=f
 unfold leaving
 refine wpAny_bind (noteD fr f3 el f4 f1 f2 ly fun h1 N l1=>landD (s:={s with heap:=h1}) N.1 N.2.1 N.2.2.1 l1 fun h2 b2 g2 t2 u2 l2=>?_)
 obtain ⟨_,_,g3⟩:=g2
 exact q h2 ⟨⟨b2,f2,g3,t2⟩,l2⟩ (Heap.UpToSlots.trans N.2.2.2 u2)
theorem leavesD1{t:Addr}(fr:A.frames=some (env::outer))(el:env.frame=some L)(bs:base.StaysIn s.heap)(ff:s.heap.FunFrames base (env::outer))(bx:base.get? x=none)(ex:s.heap.get? x=some ⟨.ref C,od,.fields #[.ref t,.none,.none,.none,.bool false,.none],sl⟩)
 (q:∀h',FlyD base outer x C od (.ref t) h'→s.heap.UpToSlots h'→Q () {s with heap:=h'}):wpAny M A (leaving env (.ref x)) Q E s:=by
 unfold leaving noteFrame
 simp only [el]
 refine wpAny_bind (wpAny_bind (wpAny_field ex rfl (x:= .none) rfl ?_))
 rw [if_neg (by decide)]
 refine entryD fr ff el ex bs bx (by simp) rfl fun h1 N l1=>landD (s:={s with heap:=h1}) N.1 N.2.1 N.2.2.1 l1 fun h2 b2 g2 t2 u2 l2=>?_
 obtain ⟨_,_,g3⟩:=g2
 exact q h2 ⟨⟨b2,bx,g3,t2⟩,l2⟩ (Heap.UpToSlots.trans N.2.2.2 u2)
end
noncomputable def CXF(P:Program)(w:World):CXT:=fun outer H s E e s'=>∃(x C:Addr) (od:Option Addr) (a0:Value) (H':Hp) (B:Heap),e= .ref x∧s'.os=s.os∧AllBare s'.gens∧Un (frs outer) [] H H' s.heap s'.heap∧HOk P w H' s'.heap∧
 FlyD B outer x C od a0 s'.heap∧Spares (frs outer) H' s.heap s'.heap B∧H' x=none∧s.heap.get? x=none∧E (.ref C) (some x) (upd H' x (exO false x C od))
noncomputable def rem(H:Hp)(x:Addr):Hp:=fun b=>if b=x then none else H b
theorem rem_ne{H:Hp}{x b:Addr}(n:b≠x):rem H x b=H b:=if_neg n
theorem rem_same{H:Hp}{x:Addr}:rem H x x=none:=if_pos rfl
theorem upd_rem{H:Hp}{x:Addr}{o:HO}:upd (rem H x) x o=upd H x o:=by
 funext b
 by_cases h:b=x
 · subst h;rw [upd_same,upd_same]
 · rw [upd_ne h,upd_ne h,rem_ne h]
section
variable {X:Cx} {pins:List (Addr×Obj)} {σ:St} {H2:Hp} {s2:Shared} {h3:Heap} {n:Bool} {x C:Addr} {od:Option Addr}
theorem leaveX(I:Inv X pins σ H2 s2)(hex:X.ex=[])(hx:H2 x=some (exO n x C od))(x0:X.s₀.heap.get? x=none)(st:(PySem.W.hideAll s2.heap (x::frs X.stack)).StaysIn h3)(up:s2.heap.UpToSlots h3):
 Un X.fs [] X.H₀ (rem H2 x) X.s₀.heap h3∧HOk X.prog X.w (rem H2 x) h3∧Spares X.fs (rem H2 x) X.s₀.heap h3 (PySem.W.hideAll s2.heap (x::frs X.stack)):=by
 have bs:=I.base
 rw [hex]at bs
 have nl:∀b o,X.s₀.heap.get? b=some o→b≠X.env.locals:=fun b o e=>Nat.ne_of_lt (Nat.lt_of_lt_of_le (Heap.lt_size e) I.ok.above)
 have ns:∀b o,X.s₀.heap.get? b=some o→b∉X.fs→b∉frs X.stack:=fun b o e n hb=>(List.mem_cons.mp (I.stkSub b hb)).elim (nl b o e) n
 have nx:∀b o,X.s₀.heap.get? b=some o→b≠x:=fun b o e z=>by rw [z,x0]at e;cases e
 have sub:∀b∈X.fs,b∈frs X.stack:=fun b hb=>by
  rcases I.ok.stk with e | ⟨e,hf⟩
  · rw [e];exact hb
  · rw [e];unfold frs;rw [List.filterMap_cons,hf];exact List.mem_cons_of_mem _ hb
 have hid:∀b o,s2.heap.get? b=some o→b≠x→b∉frs X.stack→(PySem.W.hideAll s2.heap (x::frs X.stack)).get? b=some o:=fun b o e n1 n2=>PySem.W.hideAll_get _ e (fun z=>(List.mem_cons.mp z).elim n1 n2)
 have kp:∀b o,s2.heap.get? b=some o→b≠x→b∉frs X.stack→h3.get? b=some o:=fun b o e n1 n2=>st b o (hid b o e n1 n2)
 have tr:∀b o,H2 b=some o→b∉frs X.stack:=fun b o e hb=>by rw [I.stkFree b hb]at e;cases e
 have sl:∀b o,X.s₀.heap.get? b=some o→X.H₀ b=none→b∈X.fs→b∉([]:List Addr)→∃r,h3.get? b=some {o with slots:=r}:=fun b o e n hb hx=>by
  obtain ⟨r1,e1⟩:=bs.slot b o e n hb hx
  obtain ⟨o',e',d⟩:=I.frm b (sub b hb)
  rw [e1]at e';cases e'
  obtain ⟨r2,e2⟩:=up b _ e1 d
  exact ⟨r2,e2⟩
 have th:∀b o,X.s₀.heap.get? b=some o→∃o',s2.heap.get? b=some o':=fun b o e=>bs.there b o e (by simp)
 refine ⟨⟨fun b o e n hb hx=>kp b o (bs.keep b o e n hb hx) (nx b o e) (ns b o e hb),sl,fun b o e n hx=>?_,fun b o e hx=>?_,fun b xs e=>?_,fun b o v e=>?_,fun b ps e=>?_⟩,fun a o e=>?_,fun b o e hb c=>?_⟩
 · rw [rem_ne (nx b o e)];exact bs.free b o e n hx
 · obtain ⟨o',e1⟩:=th b o e
   by_cases hb:b∈frs X.stack
   · obtain ⟨o2,e2,d⟩:=I.frm b hb
     rw [e1]at e2;cases e2
     obtain ⟨r2,e3⟩:=up b _ e1 d
     exact ⟨_,e3⟩
   · exact ⟨o',kp b o' e1 (nx b o e) hb⟩
 · have e1:=bs.tups b xs e
   rw [rem_ne (fun z=>by rw [z,hx]at e1;cases e1)];exact e1
 · have e1:=bs.frzs b o v e
   rw [rem_ne (fun z=>by rw [z,hx]at e1;cases e1)];exact e1
 · obtain ⟨m1,e1⟩:=bs.tbls b ps e
   exact ⟨m1,by rw [rem_ne (fun z=>by rw [z,hx]at e1;cases e1)];exact e1⟩
 · have na:a≠x:=fun z=>by rw [z,rem_same]at e;cases e
   rw [rem_ne na]at e
   refine (I.hok a o e).stay (fun b v hc q=>?_) (fun b q=>?_) fun b xs q=>?_
   · rcases hc with rfl | hc
     · exact kp _ _ q na (tr _ _ e)
     · exact kp _ _ q (fun z=>by rw [z,hx]at hc;cases hc) (tr _ _ hc)
   · rw [rem_ne (fun z=>by rw [z,hx]at q;cases q)];exact q
   · rw [rem_ne (fun z=>by rw [z,hx]at q;cases q)];exact q
 · have w:∃o1,s2.heap.get? b=some o1∧b≠x∧b∉frs X.stack:=by
    rcases c with c | ⟨u0,e0⟩
    · cases q:rem H2 x b with
      | none=>exact absurd q c
      | some v=>
       have nb:b≠x:=fun z=>by rw [z,rem_same]at q;cases q
       rw [rem_ne nb]at q
       obtain ⟨o1,e1⟩:=I.hok.there q
       exact ⟨o1,e1,nb,tr _ _ q⟩
    · obtain ⟨o1,e1⟩:=th b u0 e0
      exact ⟨o1,e1,nx b u0 e0,ns b u0 e0 hb⟩
   obtain ⟨o1,e1,n1,n2⟩:=w
   have e2:=kp b o1 e1 n1 n2
   rw [e]at e2;cases e2
   exact hid b o e1 n1 n2
end
section
variable {P:Program} {w:World} {K:PySem.W.Frag} {mg:Str→Option Value} {base:Heap} {N:List Str} {qual:Str} {scope:Scope} {f:Addr} {cd:Value} {A:Around} {outer:List Env} {s:Shared} {H:Hp} {E:XK}
theorem raise_outF{pins:List (Addr×Obj)}{σ:St}{H2:Hp}{s2:Shared}{x C:Addr}{od:Option Addr}(I:Inv (cxOf (CXF P w) P w K mg base N qual scope f cd A outer s H E) pins σ H2 s2)
 (hx:H2 x=some (exO true x C od)) (h0:H x=none) (q:E (.ref C) (some x) (upd H2 x (exO false x C od))):(cxOf (CXF P w) P w K mg base N qual scope f cd A outer s H E).xe (.ref x) s2:=by
 have x0:s.heap.get? x=none:=by
  cases z:s.heap.get? x with
  | none=>rfl
  | some v=>
   have e:=I.base.free x v z h0 (by intro c;exact absurd (show x∈([]:List Addr) from c) (by simp))
   rw [hx]at e;cases e
 obtain ⟨vs,sl,e1,nv⟩:=(I.hok x _ hx).1
 obtain ⟨t,rfl⟩:=nv rfl
 have hin:∀env∈(cxOf (CXF P w) P w K mg base N qual scope f cd A outer s H E).stack,∀a,env.frame=some a→a∈x::frs (cxOf (CXF P w) P w K mg base N qual scope f cd A outer s H E).stack:=fun env he a ha=>List.mem_cons_of_mem _ (List.mem_filterMap.mpr ⟨env,he,ha⟩)
 refine leavesD1 (base:=PySem.W.hideAll s2.heap (x::frs (cxOf (CXF P w) P w K mg base N qual scope f cd A outer s H E).stack)) I.ok.frames rfl (fun b o e=>PySem.W.of_hideAll _ e) (PySem.W.funFrames_hide I.stack hin) (PySem.W.hideAll_none _ (List.mem_cons_self ..)) e1 fun h3 fl up=>?_
 obtain ⟨U,ok3,hB3⟩:=leaveX I rfl hx x0 fl.1.1 up
 exact ⟨x,C,od,.ref t,rem H2 x,_,rfl,I.os,I.bare,U,ok3,fl,hB3,rem_same,x0,by rw [upd_rem];exact q⟩
theorem pass_onF:Passes (CXF P w) (cxOf (CXF P w) P w K mg base N qual scope f cd A outer s H E) E:=by
 intro pins σ H1 s1 e s2 I h
 obtain ⟨x,C,od,a0,H2,B,rfl,os,bare,u,ok,fl,hB,hx,hnew,q⟩:=h
 refine leavesD (base:=B) I.ok.frames rfl fl fun h3 fl3 up=>?_
 obtain ⟨U,ok3,hB3⟩:=leave_of I rfl u ok hB fl3.1.1 up
 refine ⟨x,C,od,a0,H2,B,rfl,os.trans I.os,bare,U,ok3,fl3,hB3,hx,?_,q⟩
 cases z:s.heap.get? x with
 | none=>rfl
 | some v=>
  obtain ⟨o1,e1⟩:=I.base.there x v z (by intro c;exact absurd (show x∈([]:List Addr) from c) (by simp))
  rw [hnew]at e1;cases e1
theorem own_outF:PassesOwn (model P w) (A.deeper (envOfC qual scope s.heap.objs.size f cd)) (envOfC qual scope s.heap.objs.size f cd) (cxOf (CXF P w) P w K mg base N qual scope f cd A outer s H E).xe:=PassesOwn.leaving
theorem Fun.okF{x:Str}{st:Stmt}{fd:FuncData}{ps:List Str}{k:Nat}{sp:Sp}(F:Fun K x qual st f fd)(S:FnScope N ps (defScope st))(len:∀vs H Q E,sp vs H Q E→vs.length=ps.length)
 (hbody:∀(cdv:Value) (A:Around) (outer:List Env) (s:Shared) (H:Hp) (vs:List V) (Q:VK) (E:XK),Room k (A.deeper (envOfC qual (defScope st) s.heap.objs.size f cdv))→sp vs H Q E→
  ∃t,PSs (cxOf (CXF P w) P w K mg base N qual (defScope st) f cdv A outer s H E) (defBody st) t∧t {nx:=fun _ H'=>Q .non H',rt:=Q} (start N vs) H):FnOk P w K mg base (CXF P w) (k+1) f fd ps sp:=by
 obtain ⟨oc,od,kV,doc,pm,an,cdv,ct,osl,rfl,lk,hcd⟩:=F.ex
 exact fn_of lk hcd S len fun A outer s H vs Q E hr hsp=>hbody cdv A outer s H vs Q E hr hsp
noncomputable def RaisesF(X:Cx)(H₀:Hp)(EE:St→XK):Prop:=∀(pins:List (Addr×Obj)) (σ:St) (H2:Hp) (s2:Shared) (x C:Addr) (od:Option Addr),
 Inv X pins σ H2 s2→H2 x=some (exO true x C od)→H₀ x=none→EE σ (.ref C) (some x) (upd H2 x (exO false x C od))→X.xe (.ref x) s2
theorem raisesF:RaisesF (cxOf (CXF P w) P w K mg base N qual scope f cd A outer s H E) H (fun _=>E):=fun _ _ _ _ _ _ _ I hx h0 q=>raise_outF I hx h0 q
theorem pass_noF{Y:Cx}:Passes (CXF P w) Y fun _ _ _=>False:=fun _ _ _ _ _ _ _ h=>by
 obtain ⟨_,_,_,_,_,_,_,_,_,_,_,_,_,_,_,z⟩:=h
 exact z.elim
end
structure ExK(K:PySem.W.Frag)(C:Addr):Prop where
 at_:∀h:Heap,K.In h→∃(nm q:Str) (N:Addr) (bs bm:List Value) (hd:Bool) (sn:List Str) (su:List Value) (ab:Bool) (co:Option Bool) (dd:Option Addr) (k0 k1 k2 k3 k5:Option Value) (nw:String),
  h.get? C=some (excClassObj nm q C N bs bm hd sn su ab co dd k0 k1 k2 k3 k5 nw)∧bm.contains (.type "BaseException")=true
theorem ExcC.k{K:PySem.W.Frag}{C:Addr}(M:ExcC K C):ExK K C:=⟨fun h X=>by
 obtain ⟨nm,q,N,bs,bm,hd,sn,su,ab,co,dd,k0,k1,k2,k3,k5,mN,c1,c2,c3,c4⟩:=M.at_ h X
 exact ⟨nm,q,N,bs,bm,hd,sn,su,ab,co,dd,k0,k1,k2,k3,k5,_,c1,c4.hasType (by decide)⟩⟩
theorem MkX.k{K:PySem.W.Frag}{C f:Addr}(M:MkX K C f):ExK K C:=⟨fun h X=>by
 obtain ⟨nm,q,N,bs,bm,hd,sn,su,ab,co,dd,k0,k1,k2,k3,k5,mN,c1,c2,c3,c4⟩:=M.at_ h X
 exact ⟨nm,q,N,bs,bm,hd,sn,su,ab,co,dd,k0,k1,k2,k3,k5,_,c1,c4.hasType (by decide)⟩⟩
noncomputable def tRaiseP(P:St→Addr→Hp→Prop)(ta:TE):TS:=fun _ σ H=>ta σ H fun v H2=>∃x,v= .ref x∧P σ x H2
section
variable {X:Cx} {H₀:Hp} {EE:St→XK} {C:Addr} {e:Expr} {ta:TE} {pos:Pos}
theorem ps_raiseP{P:St→Addr→Hp→Prop}(hP:∀σ x H2,P σ x H2→∃od,H2 x=some (exO true x C od)∧H₀ x=none∧EE σ (.ref C) (some x) (upd H2 x (exO false x C od)))(k:ExK X.K C)(hc:X.calm=true)(hx:RaisesF X H₀ EE)(he:PE X e ta):
 PS X (.Raise (some e) none pos) (tRaiseP P ta):=by
 intro pins s σ H D I h
 rw [arm_exec_Raise]
 refine wpAny_bind (wpAny_standAt ?_)
 show wpAny _ _ (raiseStmt X.env (some (do let v ← eval e X.env;standAt pos;pure v)) none) _ _ _
 unfold raiseStmt
 refine wpAny_bind (wpAny_bind (wpAny_mono (he pins s σ H _ I h) (fun v s1 hv=>wpAny_bind (wpAny_standAt (wpAny_pure ?_))) fun _ _ z=>z))
 obtain ⟨v',H2,I2,rx,x,ev,hp⟩:=hv
 obtain ⟨od,hx2,h0,q⟩:=hP σ x H2 hp
 subst ev
 cases (show v=Value.ref x from rx)
 obtain ⟨nm,qn,N,bs,bm,hd,sn,su,ab,co,dd,k0,k1,k2,k3,k5,nw,c1,c2⟩:=k.at_ s1.heap I2.kIn
 obtain ⟨vs,sl,e1,nv⟩:=(I2.hok x _ hx2).1
 obtain ⟨t,rfl⟩:=nv rfl
 have fin:=hx pins σ H2 s1 x C od I2 hx2 h0 q
 have hB:(Value.ref C::bm).contains (.type "BaseException")=true:=by rw [List.contains_cons,c2,Bool.or_true]
 obtain ⟨hp',g,d,tk,os⟩:=s1
 repeat (first | with_reducible refine wpAny_loadPart_at e1 ?_ | with_reducible refine wpAny_loadPart_at c1 ?_ | (with_reducible refine wpAny_isSubtype_exc c1 ?_;rw [hB]) | wp_step)
 exact wpAny_raiseNew_none (I.ok.hd hc) fin
end
noncomputable def pN(C:Addr)(H₀:Hp)(EE:St→XK):St→Addr→Hp→Prop:=fun σ x H2=>H2 x=some (exO true x C none)∧H₀ x=none∧EE σ (.ref C) (some x) (upd H2 x (exO false x C none))
noncomputable def pI(C:Addr)(H₀:Hp)(EE:St→XK):St→Addr→Hp→Prop:=fun σ x H2=>∃od,H2 x=some (exO true x C od)∧H₀ x=none∧EE σ (.ref C) (some x) (upd H2 x (exO false x C od))
section
variable {X:Cx} {H₀:Hp} {CX:CXT} {EE:St→XK} {k j:Nat} {C:Addr} {ps:List Str} {sp:Sp} {x:Str} {np cpos pos:Pos} {e:Expr} {es:List Expr} {t:TA}
theorem ps_raiseF(M:ExcC X.K C)(hex:X.ex=[])(kp:PySem.W.keepIn X.K (.ref C)=true)(hc:X.calm=true)(hg:Gl X x)(hm:X.mg x=some (.ref C))(hx:RaisesF X H₀ EE)(ha:PA X (e::es) t)(hdb:(x==("__debug__":Str))=false:=by decide)
 (he:starEach (e::es) X.env=(false,eval e X.env)::starEach es X.env:=by rfl) (hpl:(backTo cpos (starEach es X.env)).any (·.1)=false:=by rfl):
 PS X (.Raise (some (.Call (.Name x np) (e::es) [] cpos)) none pos) (tRaiseP (pN C H₀ EE) (tExc C t)):=
 ps_raiseP (fun _ _ _ h=>⟨none,h⟩) M.k hc hx (pe_exc M hex kp hg hm ha hdb he hpl)
theorem DefX.exk(D:DefX X.prog X.w X.K X.mg X.base CX j x C ps sp):ExK X.K C:=by
 obtain ⟨f,fd,F,M,hm,hb⟩:=D.ex
 exact M.k
theorem ps_raiseI(D:DefX X.prog X.w X.K X.mg X.base CX j x C ps sp)(hex:X.ex=[])(hr:Room k X.A)(hc:X.calm=true)(hg:Gl X x)(hp:PassesS CX X EE)(hx:RaisesF X H₀ EE)(ha:PA X (e::es) t)(hj:j+1≤k:=by decide)(hdb:(x==("__debug__":Str))=false:=by decide)
 (he:starEach (e::es) X.env=(false,eval e X.env)::starEach es X.env:=by rfl) (hpl:(backTo cpos (starEach es X.env)).any (·.1)=false:=by rfl):
 PS X (.Raise (some (.Call (.Name x np) (e::es) [] cpos)) none pos) (tRaiseP (pI C H₀ EE) (tExcI C sp EE t)):=
 ps_raiseP (fun _ _ _ h=>h) D.exk hc hx (pe_excI D hex hr hg hp ha hj hdb he hpl)
end
section
variable {σ:St} {H H₀:Hp} {Q:VK} {D:Ends} {K:PySem.W.Frag} {C:Addr} {EE:St→XK} {t:TA} {sp:Sp}
theorem rd_raiseF:tRaiseP (pN C H₀ EE) (tExc C t) D σ H=t σ H fun vs H1=>vs.length≤sizeLine∧∀x,H1 x=none→H₀ x=none∧EE σ (.ref C) (some x) (upd H1 x (exO false x C none)):=by
 unfold tRaiseP pN tExc
 simp only [V.ref.injEq,exists_eq_left',upd_same,upd_upd,true_and]
theorem rd_raiseI:tRaiseP (pI C H₀ EE) (tExcI C sp EE t) D σ H=t σ H fun vs H1=>vs.length≤sizeLine∧∀x,H1 x=none→sp (.ref x::vs) (upd H1 x (exO true x C none)) (fun v H2=>v= .non∧∃od,H2 x=some (exO true x C od)∧H₀ x=none∧EE σ (.ref C) (some x) (upd H2 x (exO false x C od))) (EE σ):=by
 unfold tRaiseP pI tExcI
 simp only [V.ref.injEq,exists_eq_left']
end
section
variable {X:Cx} {pins:List (Addr×Obj)} {σ:St} {H:Hp} {x C:Addr} {od:Option Addr} {s:Shared}
theorem Air.landD(Z:Air X pins σ H x (.ref C) s)(ly:Lies s.heap x C od){M:Model}{A:Around}{Q:Unit→Shared→Prop}{E:Value→Shared→Prop}(h:∀s',Air X pins σ H x (.ref C) s'→Lies s'.heap x C od→Q () s'):wpAny M A (setFlight (.ref x) none) Q E s:=by
 obtain ⟨H0,s0,a0,B,I,os,bare,u,ok,fl,hB,hx,hn⟩:=Z.ex
 refine L2.landD fl.1 fl.2.2.1 fl.2.2.2.at ly fun h2 b2 g2 t2 u2 l2=>h _ ?_ l2
 obtain ⟨U,ok3,hB3⟩:=stay_of u ok I.frm I.stkFree hB b2 u2
 exact ⟨H0,s0,a0,B,I,os,bare,U,ok3,⟨b2,fl.2.1,g2,t2⟩,hB3,hx,hn⟩
theorem Air.trackF(Z:Air X pins σ H x (.ref C) s)(ly:Lies s.heap x C od)(hex:X.ex=[]):Inv X pins σ (upd H x (exO false x C od)) s:=by
 obtain ⟨H0,s0,a0,B,I0,os,bare,u,ok,fl,hB,hx,hn⟩:=Z.ex
 obtain ⟨vs,sl,e⟩:=ly
 exact Inv.track (H1:=H0) (s1:=s0) I0 hex hn Z.inv hx (exO_ok e fun z=>by cases z)
end
noncomputable def PHF(X:Cx)(hs:List ExceptHandler)(th:TH):Prop:=∀(pins:List (Addr×Obj)) (s:Shared) (σ:St) (H:Hp) (x C:Addr) (od:Option Addr) (D:Ends),Air X pins σ H x (.ref C) s→Lies s.heap x C od→th (.ref C) x D σ (upd H x (exO false x C od))→
 wpAny (model X.prog X.w) X.A (handleBy (.ref x) X.env hs) (SP X pins D) X.xe s
noncomputable def hAsF(K:PySem.W.Frag)(c:Value)(i:Nat)(ts:Addr→TS)(tr:TH):TH:=fun cls x D σ H=>∃b,PySem.W.exmOne K cls c=some b∧if b=true then ts x (endsAs i D) (σ.set i (some (.ref x))) H else tr cls x D σ H
section
variable {X:Cx} {Cn n:Str} {c:Value} {i:Nat} {np pos:Pos} {b₀:Stmt} {suite:List Stmt} {rest:List ExceptHandler} {ts:Addr→TS} {tr:TH}
theorem ph_nilF:PHF X [] hNil:=fun _ _ _ _ _ _ _ _ _ _ h=>h.elim
theorem ph_clsF(hex:X.ex=[])(hg:Gl X Cn)(hm:X.mg Cn=some c)(hs:∀x,PSs (X.sui x) (b₀::suite) (ts x))(hr:PHF X rest tr)(hdb:(Cn==("__debug__":Str))=false:=by decide):
 PHF X (.ExceptHandler (some (.Name Cn np)) none (b₀::suite) pos::rest) (hClsV X.K c ts tr):=by
 intro pins s σ H x C od D Z ly h
 obtain ⟨b,e,h⟩:=h
 refine wpAny_handleBy_cons (clause_test (c:=c) Z (fun Q E q=>ld_glob (X:=X.sui x) (Z.inv.sui x) hg hm q hdb) e ?_) (by intro q;cases q)
 cases b with
 | false=>exact hr pins s σ H x C od D Z ly h
 | true=>
  refine codeAny_handlers_suite (Z.landD ly fun s' Z' ly'=>?_)
  exact wpAny_mono (hs x pins s' σ _ D ((Z'.trackF ly' hex).sui x) h) (fun f s2 q=>q.unsui Z.inv.ok) fun _ _ q=>False.elim q
theorem ph_asF(hex:X.ex=[])(hN:X.N.Nodup)(hi:X.N[i]?=some n)(hl:X.env.kindOf n=some .local)(hg:Gl X Cn)(hm:X.mg Cn=some c)(hs:∀x,PSs (X.sui x) (b₀::suite) (ts x))(hr:PHF X rest tr)(hdb:(Cn==("__debug__":Str))=false:=by decide):
 PHF X (.ExceptHandler (some (.Name Cn np)) (some n) (b₀::suite) pos::rest) (hAsF X.K c i ts tr):=by
 intro pins s σ H x C od D Z ly h
 obtain ⟨b,e,h⟩:=h
 refine wpAny_handleBy_cons (clause_test (c:=c) Z (fun Q E q=>ld_glob (X:=X.sui x) (Z.inv.sui x) hg hm q hdb) e ?_) (by intro q;cases q)
 cases b with
 | false=>exact hr pins s σ H x C od D Z ly h
 | true=>
  refine codeAny_handlers_suite_as (Z.landD ly fun s' Z' ly'=>?_)
  refine store_ok (X:=X) (Z'.trackF ly' hex) hN hi (.inl hl) (v:= .ref x) rfl (fun s2 I2=>?_) (.inr hl)
  refine wpAny_mono (hs x pins s2 _ _ _ (I2.sui x) h) (fun f s3 q=>?_) fun _ _ q=>False.elim q
  have q':=q.unsui Z.inv.ok
  show wpAny _ _ _ _ _ _
  cases f with
  | next=>obtain ⟨σ',H',I3,q3⟩:=q';exact name_goes I3 hN hi hl fun s4 I4=>⟨_,H',I4,q3⟩
  | brk=>obtain ⟨σ',H',I3,q3⟩:=q';exact name_goes I3 hN hi hl fun s4 I4=>⟨_,H',I4,q3⟩
  | cont=>obtain ⟨σ',H',I3,q3⟩:=q';exact name_goes I3 hN hi hl fun s4 I4=>⟨_,H',I4,q3⟩
  | ret u=>obtain ⟨v,σ',H',I3,r3,q3⟩:=q';exact name_goes I3 hN hi hl fun s4 I4=>⟨v,_,H',I4,r3,q3⟩
theorem ps_tryF{body:List Stmt}{h₀:ExceptHandler}{hs:List ExceptHandler}{tb:TryB→TS}{th:TH}(hst:X.stack=X.env::X.outer)(hfr:X.env.frame=some X.env.locals)
 (hb:∀t:TryB,PassesS (CXF X.prog X.w) (X.tryX t.pn t.xe) t.EE→PSs (X.tryX t.pn t.xe) body (tb t)) (hh:PHF X (h₀::hs) th):
 PS X (.Try body (h₀::hs) [] [] pos) (tTryV tb th):=by
 intro pins s σ H D I h
 refine wpAny_Try_except ?_
 have P1:PassesS (CXF X.prog X.w) (X.tryX (X.pn++pins) (fun e s'=>∃σ H' x C od,e= .ref x∧Air X pins σ H' x (.ref C) s'∧Lies s'.heap x C od∧th (.ref C) x D σ (upd H' x (exO false x C od)))) (fun σ' cls ox H'=>∃x,ox=some x∧th cls x D σ' H'):=by
  intro pl σ1 H1 s1 e s2 I1 hc
  obtain ⟨x,C,od,a0,H2,B,rfl,os,bare,u,ok,fl,hB,hx,hn,⟨y,hy,q⟩⟩:=hc
  cases hy
  exact ⟨σ1,H2,x,C,od,rfl,⟨H1,s1,a0,B,I1.tryOut I.ok,os,bare,u,ok,fl.1,hB,hx,hn⟩,fl.2,q⟩
 refine wpAny_mono (hb ⟨_,_,_⟩ P1 [] s σ H D (I.tryIn _) (h _ _)) (fun f s1 q=>?_) fun e s1 q=>?_
 · have q':=q.tryOut I.ok
   cases f with
   | next=>exact wpAny_execs_nil q'
   | brk=>exact q'
   | cont=>exact q'
   | ret u=>exact q'
 · obtain ⟨σ1,H1,x,C,od,rfl,Z,ly,q⟩:=q
   have fr:X.A.frames=some (X.env::X.outer):=by rw [← hst];exact I.ok.frames
   obtain ⟨H0,s0,a0,B,I0,os,bare,u,ok,fl,hB,hx,hn⟩:=Z.ex
   have fl':=fl
   rw [hst]at fl'
   obtain ⟨f1,f2,f3,f4⟩:=fl'
   refine noteD fr f3 hfr f4 f1 f2 ly fun h1 N1 l1=>landD (s:={s1 with heap:=h1}) N1.1 N1.2.1 N1.2.2.1 l1 fun h3 b3 g3 t3 u3 l3=>?_
   have fl3:Heap.FlyingW B X.stack x (.ref C) a0 h3:=by rw [hst];exact ⟨b3,f2,g3,t3⟩
   obtain ⟨U,ok3,hB3⟩:=stay_of u ok I0.frm I0.stkFree hB b3 (Heap.UpToSlots.trans N1.2.2.2 u3)
   exact hh pins _ σ1 H1 x C od D ⟨H0,s0,a0,B,I0,os,bare,U,ok3,fl3,hB3,hx,hn⟩ l3 q
end
section
variable {σ:St} {H:Hp} {D:Ends} {K:PySem.W.Frag}
theorem rd_hasF{c cls:Value}{i:Nat}{x:Addr}{ts:Addr→TS}{tr:TH}:hAsF K c i ts tr cls x D σ H=∃b,PySem.W.exmOne K cls c=some b∧if b=true then ts x (endsAs i D) (σ.set i (some (.ref x))) H else tr cls x D σ H:=rfl
theorem rd_fldX{Q:VK}{ta:TE}{f:Str}:tFldX K ta f σ H Q=ta σ H fun x H1=>∃nw a C B dx fs v,x= .ref a∧H1 a=some (exO nw a C (some dx))∧H1 dx=some (exD dx fs)∧ExcQ K C B∧PySem.W.findIn K (.ref C) f=some none∧fs.lookup f=some v∧Q v H1:=rfl
theorem rd_sfldX{ta tv:TE}{f:Str}:sFldX K ta tv f D σ H=tv σ H fun y H1=>ta σ H1 fun x H2=>∃nw a C B,x= .ref a∧ExcQ K C B∧PySem.W.findIn K (.ref C) f=some none∧
 ((H2 a=some (exO nw a C none)∧∀dx,H2 dx=none→D.nx σ (upd (upd H2 a (exO nw a C (some dx))) dx (exD dx (putF f y []))))∨
  ∃dx fs,H2 a=some (exO nw a C (some dx))∧H2 dx=some (exD dx fs)∧fs.length < 1000∧D.nx σ (upd H2 dx (exD dx (putF f y fs)))):=rfl
theorem rd_exc{C:Addr}{t:TA}{Q:VK}:tExc C t σ H Q=t σ H fun vs H1=>vs.length≤sizeLine∧∀x,H1 x=none→Q (.ref x) (upd H1 x (exO true x C none)):=rfl
theorem rd_excI{C:Addr}{sp:Sp}{EE:St→XK}{t:TA}{Q:VK}:tExcI C sp EE t σ H Q=t σ H fun vs H1=>vs.length≤sizeLine∧∀x,H1 x=none→sp (.ref x::vs) (upd H1 x (exO true x C none)) (fun v H2=>v= .non∧Q (.ref x) H2) (EE σ):=rfl
end
section
open PySem.W
theorem walk_ofKF{l:PySem.W.OpenLaw}{n k:Nat}{q:Program}{loose:List Str}{XP:(Str→Option Value)→Heap→Prop}{YP:World→Heap→Prop}{d:DefRec}{K:Params→PySem.W.Frag}{sp:PySem.W.Frag→Sp}{x:Str}
 (hn:l.most=some n) (hn2:n≤sizeLine) (hdf:d.params.defaults=[]) (hr:Room k callerA) (hY:∀(w:World) (h:Heap),YP w h→(K w.params).In h)
 (F:∀(w:World) (mg:Str→Option Value) (fa:Addr) (h:Heap),(K w.params).In h→h.Ns mainGlobals mg→mg d.name=some (.ref fa)→
  ∃fd:FuncData,(∀(s:Shared) (u:Value),BindsTo s fd ⟨[u],[]⟩ [(x,u)])∧∀base:Heap,(K w.params).In base→base.Ns mainGlobals mg→FnOk l.prog w (K w.params) mg base (CXF l.prog w) k fa fd [x] (sp (K w.params)))
 (hsp:∀(K:PySem.W.Frag) (H:Hp) (a:Addr) (ns:List Int),ns.length≤n→Only H→SqL K H a (ns.map V.int)→sp K [.ref a] H (fun v _=>v= .bl true) fun _ _ _=>False):
 PySem.W.WalkO q loose XP YP l.row.toRowW d [] (fun f vs=>PySem.call f vs):=
 walk_of (K:=K) (CX:=fun w=>CXF l.prog w) (sp:=fun w=>sp (K w.params)) hn hn2 hdf hr hY F (fun w H a ns h1 h2 h3=>hsp (K w.params) H a ns h1 h2 h3) fun _ _ _ _ _ ⟨_,_,_,_,_,_,_,_,_,_,_,_,_,_,_,z⟩=>z
end
section
open PySem.W
variable {K:Frag} {C N A f:Addr} {nm q:Str} {bs:List Value} {hdct:Bool} {sn:List Str} {sub:List Value} {ab:Bool} {col:Option Bool} {dd:Option Addr} {k0 k1 k2 k3 k5:Option Value} {oc c0 oc2:Value} {od dA od2:Option Addr} {es es2:Array DictEntry} {ep ep2:Nat} {sl slA sl2:Array (Option Value)} {cdA:ClassData} {nw:String}
theorem mkX_of{fo:Obj}(lC:K.lookup C=some (excClassObj nm q C N bs (.ref A::veTail) hdct sn sub ab col dd k0 k1 k2 k3 k5 "ValueError.__new__"))(lN:K.lookup N=some ⟨oc,od,.dict es ep,sl⟩)(sN:strKeysB es=true)(iN:nsFind es "__init__"=some (.ref f))
 (lA:K.lookup A=some ⟨c0,dA,.cls cdA,slA⟩) (lNA:K.lookup cdA.ns=some ⟨oc2,od2,.dict es2 ep2,sl2⟩) (sNA:strKeysB es2=true) (iNA:nsFind es2 "__init__"=none) (lF:K.lookup f=some fo) (cF:fo.cls= .type "function") (kp:keepIn K (.ref C)=true):MkX K C f:=
 ⟨fun h X=>⟨nm,q,N,bs,_,hdct,sn,sub,ab,col,dd,k0,k1,k2,k3,k5,nsFind es,X _ _ lC,ns_of X lN sN,iN,.own (X _ _ lA) (ns_of X lNA sNA) iNA .base⟩,⟨fo,lF,cF⟩,kp⟩
theorem excQ_of(lC:K.lookup C=some (excClassObj nm q C N bs (.ref A::veTail) true sn sub ab col dd k0 k1 k2 k3 k5 nw))(ga:findIn K (.ref C) "__getattribute__"=some (some (.builtin "BaseException.__getattribute__")))(gh:findIn K (.ref C) "__getattr__"=some none)
 (sa:findIn K (.ref C) "__setattr__"=some (some (.builtin "object.__setattr__"))):ExcQ K C A:=by
 refine ⟨⟨ga,gh⟩,?_,sa⟩
 unfold clsIn
 rw [lC]
 exact ⟨_,rfl,rfl,rfl⟩
end
end L2
namespace L2
theorem kV_of{P:Program}{w:World}{k:Key}{u:Value}(h:(mixKind P w).is k u=true):RelV (kV k) u:=by
 cases k with
 | inl i=>
  cases u <;> first | (exact absurd h (by intro z;cases z)) | skip
  rename_i j t
  have e:j=i:=by simpa [mixKind,keyIs,Value.isInt] using h
  exact ⟨t,by rw [e]⟩
 | inr x=>
  cases u <;> first | (exact absurd h (by intro z;cases z)) | skip
  rename_i j t
  have e:j=x:=by simpa [mixKind,keyIs,Value.isStrOf] using h
  exact ⟨t,by rw [e]⟩
theorem vals_get:∀{xs:List V} {us:List Value},Vals xs us→∀{i:Nat} {u:Value},us[i]?=some u→∃x,xs[i]?=some x∧RelV x u
 | _,_,.cons r t,0,u,e=>by cases e;exact ⟨_,rfl,r⟩
 | _,_,.cons r t,i+1,u,e=>vals_get t (i:=i) e
theorem vals_at:∀{xs:List V} {us:List Value},xs.length=us.length→(∀(j:Nat) (u:Value),us[j]?=some u→∃x,xs[j]?=some x∧RelV x u)→Vals xs us
 | [],[],_,_=> .nil
 | x::xs,u::us,hl,h=>by
  obtain ⟨y,e,r⟩:=h 0 u rfl
  cases e
  exact .cons r (vals_at (by simpa using hl) fun j v e=>h (j+1) v e)
theorem paired_get{α β:Type}{F:α→β→Prop}:∀{l:List α} {m:List β},Paired F l m→∀{i:Nat} {b:β},m[i]?=some b→∃a,l[i]?=some a∧F a b
 | _,_,.cons r t,0,b,e=>by cases e;exact ⟨_,rfl,r⟩
 | _,_,.cons r t,i+1,b,e=>paired_get t (i:=i) e
noncomputable def rListD:List V→Hp→VK→Prop:=fun xs H Q=>∃a kvs,xs=[.ref a]∧H a=some (.dK kvs)∧∀l,H l=none→Q (.ref l) (upd H l (.lst (kvs.map fun p=>kV p.1)))
section
variable {X:Cx}
theorem call_listD(hc:X.calm=true):CallR X (.type "list") rListD:=by
 intro pins s σ H xs us Q I r h
 obtain ⟨a,kvs,rfl,ha,q⟩:=h
 obtain ⟨u,rfl,rx⟩:=vals1 r
 cases rx
 obtain ⟨z,lo,ws,rel,ob,es,ep,e1,e2⟩:=I.hok a _ ha
 have dat:s.heap.DictAt (mixKind X.prog X.w) a ws ep:=⟨ob,es,e1,e2⟩
 refine PySem.W.kdl_call (PySem.W.kdl_dict (knd:=mixKind X.prog X.w) (kvs:=ws) (ep:=ep) lo) (I.ok.hd hc) dat (by rw [← rel.length];exact z) fun h' tk acc c' kp e hi=>?_
 have hv:Vals (kvs.map fun p=>kV p.1) acc.toList:=by
  have h1:=hi.1
  have h2:=rel.length
  refine vals_at (by rw [List.length_map];exact h2.trans (h1.symm.trans (Array.length_toList (xs:=acc)).symm)) fun j u ej=>?_
  obtain ⟨k,x,ek,hk⟩:=hi.2 j u (by rw [← Array.getElem?_toList];exact ej)
  obtain ⟨p,ep',hp⟩:=paired_get rel ek
  exact ⟨kV p.1,by rw [List.getElem?_map,ep'];rfl,by rw [hp.1];exact kV_of hk⟩
 refine ⟨.ref s.heap.objs.size,_,I.laid (t':=tk) kp (Nat.le_refl _) (show ObjOk X.prog X.w _ h' _ (.lst (kvs.map fun p=>kV p.1)) from ⟨by rw [List.length_map];exact z,acc.toList,c',hv,?_⟩),rfl,q _ I.fresh⟩
 rw [Array.toArray_toList];exact e
end
section
variable {σ:St} {H:Hp} {Q:VK} {xs:List V} {x y:V}
theorem rd_dget2{td ty tx:TE}:tDGet2 td ty tx σ H Q=td σ H fun x H1=>∃a,x= .ref a∧IsD H1 a∧ty σ H1 fun y H2=>tx σ H2 fun z H3=>∃o,DGet H3 a y o∧Q (o.getD z) H3:=rfl
theorem rd_listD:rListD xs H Q=∃a kvs,xs=[.ref a]∧H a=some (.dK kvs)∧∀l,H l=none→Q (.ref l) (upd H l (.lst (kvs.map fun p=>kV p.1))):=rfl
end
section
variable {i j:Int} {a b:Bool} {x y:Str}
theorem sc_nn:scal .non .non=true:=rfl
theorem sc_ni:scal .non (.int j)=true:=rfl
theorem sc_in:scal (.int i) .non=true:=rfl
theorem sc_nb:scal .non (.bl b)=true:=rfl
theorem sc_bn:scal (.bl a) .non=true:=rfl
theorem sc_ns:scal .non (.str y)=true:=rfl
theorem sc_sn:scal (.str x) .non=true:=rfl
theorem sc_ii:scal (.int i) (.int j)=true:=rfl
theorem sc_bb:scal (.bl a) (.bl b)=true:=rfl
theorem sc_ss:scal (.str x) (.str y)=true:=rfl
theorem sc_is:scal (.int i) (.str y)=true:=rfl
theorem sc_si:scal (.str x) (.int j)=true:=rfl
theorem sc_bs:scal (.bl a) (.str y)=true:=rfl
theorem sc_sb:scal (.str x) (.bl b)=true:=rfl
end
end L2
namespace N1
open PySem L2
noncomputable def letters:List Nat:=List.range' 97 26
noncomputable def figures:List Nat:=List.range' 48 10
theorem let_list:(Str.ofString "abcdefghijklmnopqrstuvwxyz").cps.toList=letters:=by decide+kernel
theorem fig_list:(Str.ofString "0123456789").cps.toList=figures:=by decide+kernel
theorem both_list:(Str.ofString "abcdefghijklmnopqrstuvwxyz0123456789").cps.toList=letters++figures:=by decide+kernel
theorem both_len:(letters++figures).length=36:=by decide
noncomputable def headIn(l:List Nat)(s:List Nat):Bool:=match l with
 | []=>false
 | c::_=>decide (c∈s)
noncomputable def nameB(l:List Nat):Bool:=decide (1≤l.length) && decide (l.length≤8) && headIn l letters && l.all fun c=>decide (c∈letters++figures)
end N1
namespace N1
open PySem L2
noncomputable def tx(l:List Nat):Str:=⟨l.toArray⟩
theorem T_list{l:List Nat}:(tx l).cps.toList=l:=by simp [tx]
theorem T_eq{z:Str}:tx z.cps.toList=z:=by cases z;simp [tx]
theorem T_inj{a b:List Nat}(h:tx a=tx b):a=b:=by rw [← T_list (l:=a),h,T_list]
theorem T_app{a b:List Nat}:tx a++tx b=tx (a++b):=by
 have h:=app_list (a:=tx a) (b:=tx b)
 rw [T_list,T_list]at h
 rw [← T_eq (z:=tx a++tx b),h]
theorem T_len{l:List Nat}:(tx l).length=l.length:=by rw [← str_len,T_list]
noncomputable def grow(ps:List (List Nat))(d:Nat):List (List Nat):=ps.dropLast++[ps.getLastD []++[d]]
theorem both_length:(Str.ofString "abcdefghijklmnopqrstuvwxyz0123456789").length=36:=by decide+kernel
noncomputable def bc(i:Int):Nat:=(letters++figures).getD i.toNat 0
theorem ix_bc(i:Int){k:Int}(h0:0 < k)(h1:k≤36):atI (Str.ofString "abcdefghijklmnopqrstuvwxyz0123456789").cps.toList (i % k)=some (bc (i % k)):=by
 have h2:=Int.emod_lt_of_pos i h0
 have h3:=Int.emod_nonneg i (show k≠0 by omega)
 refine atI_of h3 ?_
 have h4:(i % k).toNat < (letters++figures).length:=by rw [both_len];omega
 unfold bc
 rw [both_list,List.getD_eq_getElem?_getD,List.getElem?_eq_getElem h4]
 rfl
end N1
namespace N1
open L2
noncomputable def sp_cell(K:PySem.W.Frag):Sp:=fun vs H Q _=>∃(a:Addr) (ns:List Int) (k:Int),vs=[.ref a,.int k]∧SqL K H a (ns.map V.int)∧0≤k∧ns.length≤63∧Q (.int (ns.getD k.toNat 0)) H
noncomputable def sp_made:Sp:=fun vs H Q _=>∃(z w:Str),vs=[.str z,.str w]∧z.length≤sizeLine∧∀H',Same H H'→Q (.bl (z.cps.toList.all fun c=>decide (c∈w.cps.toList))) H'
noncomputable def sp_is_name(K:PySem.W.Frag):Sp:=fun vs H Q _=>∃(x:V),vs=[x]∧((∃z:Str,x= .str z∧z.length≤sizeLine∧∀H',Same H H'→Q (.bl (nameB z.cps.toList)) H')∨(Isi K H x "str" false∧Q (.bl false) H))
noncomputable def sp_law(K:PySem.W.Frag):Sp:=fun vs H Q _=>∃(a:Addr) (ns:List Int),vs=[.ref a]∧SqL K H a (ns.map V.int)∧ns.length≤63∧∀H',Q (.bl true) H'
end N1
namespace N1
open L2
inductive StE where
 | noname | twice | nonum | many
noncomputable def nOk:V→Bool
 | .str z=>nameB z.cps.toList
 | _=>false
noncomputable def sOf:V→Str
 | .str z=>z
 | _=>Str.empty
noncomputable def wIn(lo hi:Int):V→Bool
 | .int i=>decide (lo≤i) && decide (i≤hi)
 | _=>false
noncomputable abbrev Rw:=Addr×V×V×V
noncomputable def rowR(ks:List Str)(n c r:V):Option StE:=if nOk n=false then some .noname else if sOf n∈ks then some .twice else if wIn 0 (10 ^ 30) c=false then some .nonum else if wIn 1 1000 r=false then some .nonum else none
noncomputable def stockR(ks:List Str):List Rw→Option StE
 | []=>none
 | t::rs=>match rowR ks t.2.1 t.2.2.1 t.2.2.2 with
  | some e=>some e
  | none=>stockR (ks++[sOf t.2.1]) rs
noncomputable def initR(rs:List Rw):Option StE:=if 60 < rs.length then some .many else stockR [] rs
theorem num_isi{K:PySem.W.Frag}{H:Hp}{v:V}(h:flatV v=true):∃b c,Isi K H v "int" b∧(b=true→Isi K H v "bool" c)∧((b && !c)=true→∃i,v= .int i)∧((b && !c)=false→∀i,v≠ .int i):=by
 cases v with
 | non=>exact ⟨false,false,isi_ni,fun h=>by (cases h),fun h=>by (cases h),fun _ i h=>by cases h⟩
 | bl b=>exact ⟨true,true,isi_bi,fun _=>isi_bb,fun h=>by (cases h),fun _ i h=>by cases h⟩
 | int i=>exact ⟨true,false,isi_ii,fun _=>isi_ib,fun _=>⟨i,rfl⟩,fun h=>by cases h⟩
 | str z=>exact ⟨false,false,isi_si,fun h=>by (cases h),fun h=>by (cases h),fun _ i h=>by cases h⟩
 | _=>cases h
noncomputable def sp_is_whole(K:PySem.W.Frag):Sp:=fun vs H Q _=>∃(x:V) (b c:Bool),vs=[x]∧Isi K H x "int" b∧(b=true→Isi K H x "bool" c)∧Q (.bl (b && !c)) H
noncomputable def sp_within(K:PySem.W.Frag):Sp:=fun vs H Q _=>∃(v:V) (lo hi:Int),vs=[v,.int lo,.int hi]∧flatV v=true∧Q (.bl (wIn lo hi v)) H
noncomputable def SameBut(p:Addr)(H H':Hp):Prop:=∀b o,H b=some o→b≠p→H' b=some o
theorem SameBut.trans{p:Addr}{H H1 H2:Hp}(h1:SameBut p H H1)(h2:SameBut p H1 H2):SameBut p H H2:=fun b o e n=>h2 b o (h1 b o e n) n
theorem sameBut_upd{p:Addr}{H:Hp}{o:HO}:SameBut p H (upd H p o):=fun b u e n=>by rw [upd_ne n];exact e
noncomputable abbrev Th:=Str×Int×Int
noncomputable def flds(d:Addr):List (Str×V):=putF "things" (.ref d) []
structure StockAt(K:PySem.W.Frag)(C:Addr)(H:Hp)(p:Addr)(ts:List Th):Prop where
 ex:∃(dx d:Addr) (kvs:List (Key×V)),H p=some (.ins C dx (flds d))∧H d=some (.dK kvs)∧kvs.map (·.1)=ts.map (fun t=>Sum.inr t.1)∧
  ∀(i:Nat) (t:Th),ts[i]?=some t→∃a,kvs[i]?=some (Sum.inr t.1,.ref a)∧SqT K H a [.int i,.int t.2.1,.int t.2.2]
theorem StockAt.same{K:PySem.W.Frag}{C:Addr}{H H':Hp}{p:Addr}{ts:List Th}(s:Same H H')(h:StockAt K C H p ts):StockAt K C H' p ts:=by
 obtain ⟨dx,d,kvs,h1,h2,h3,h4⟩:=h.ex
 refine ⟨dx,d,kvs,s _ _ h1,s _ _ h2,h3,fun i t e=>?_⟩
 obtain ⟨a,e1,e2⟩:=h4 i t e
 exact ⟨a,e1,s.tup e2⟩
noncomputable def iOf:V→Int
 | .int i=>i
 | _=>0
noncomputable def thOf(t:Rw):Th:=(sOf t.2.1,iOf t.2.2.1,iOf t.2.2.2)
theorem SqT.but{K:PySem.W.Frag}{H H':Hp}{p a C dx:Addr}{fs:List (Str×V)}{xs:List V}(s:SameBut p H H')(hp:H p=some (.ins C dx fs))(h:SqT K H a xs):SqT K H' a xs:=by
 rcases h with (h | ⟨o,h⟩) | h
 · exact .inl (.inl (s _ _ h (ne_of h hp (by intro z;cases z))))
 · exact .inl (.inr ⟨o,s _ _ h (ne_of h hp (by intro z;cases z))⟩)
 · exact .inr h
theorem SqL.but{K:PySem.W.Frag}{H H':Hp}{p a C dx:Addr}{fs:List (Str×V)}{xs:List V}(s:SameBut p H H')(hp:H p=some (.ins C dx fs))(h:SqL K H a xs):SqL K H' a xs:=by
 rcases h with (h | ⟨o,h⟩) | h
 · exact .inl (.inl (s _ _ h (ne_of h hp (by intro z;cases z))))
 · exact .inl (.inr ⟨o,s _ _ h (ne_of h hp (by intro z;cases z))⟩)
 · exact .inr h
theorem key_mem{kvs:List (Key×V)}{ks:List Str}{z:Str}(h:kvs.map (·.1)=ks.map Sum.inr):(valV kvs (Sum.inr z)).isSome=decide (z∈ks):=by
 have e:(Sum.inr z:Key)∈kvs.map (·.1)↔z∈ks:=by
  rw [h,List.mem_map]
  constructor
  · rintro ⟨a,ha,e⟩;injection e with e;subst e;exact ha
  · intro h;exact ⟨z,h,rfl⟩
 cases hv:valV kvs (Sum.inr z:Key) with
 | none=>rw [decide_eq_false fun q=>valV_not hv (e.mpr q)];rfl
 | some v=>rw [decide_eq_true (e.mp (valV_in hv))];rfl
theorem flds_things{d:Addr}:(flds d).lookup ("things":Str)=some (V.ref d):=by
 unfold flds
 rw [lookup_putF,if_pos rfl]
theorem rowR_none{ks:List Str}{n co r:V}(h:rowR ks n co r=none):∃z c q,n= .str z∧co= .int c∧r= .int q∧¬z∈ks∧nameB z.cps.toList=true∧0≤c∧c≤10 ^ 30∧1≤q∧q≤1000:=by
 unfold rowR at h
 split at h
 · cases h
 rename_i h1
 split at h
 · cases h
 rename_i h2
 split at h
 · cases h
 rename_i h3
 split at h
 · cases h
 rename_i h4
 cases n with
 | str z=>
  cases co with
  | int c=>
   cases r with
   | int q=>
    simp only [wIn,Bool.and_eq_false_iff,decide_eq_false_iff_not,not_or,Decidable.not_not]at h3 h4
    exact ⟨z,c,q,rfl,rfl,rfl,h2,by simpa [nOk] using h1,h3.1,h3.2,h4.1,h4.2⟩
   | _=>exact absurd rfl h4
  | _=>exact absurd rfl h3
 | _=>exact absurd rfl h1
theorem stockR_step{ks:List Str}{rs:List Rw}{i:Nat}{t:Rw}(h:rs[i]?=some t):stockR ks (rs.drop i)=match rowR ks t.2.1 t.2.2.1 t.2.2.2 with
 | some e=>some e
 | none=>stockR (ks++[sOf t.2.1]) (rs.drop (i+1)):=by
 have e:rs.drop i=t::rs.drop (i+1):=by
  obtain ⟨hi,rfl⟩:=List.getElem?_eq_some_iff.mp h
  exact List.drop_eq_getElem_cons hi
 rw [e]
 rfl
noncomputable def nmsOf(rs:List Rw):List Str:=rs.map fun t=>sOf t.2.1
structure MidAt(K:PySem.W.Frag)(H:Hp)(d:Addr)(rs:List Rw):Prop where
 ex:∃kvs:List (Key×V),H d=some (.dK kvs)∧kvs.map (·.1)=(nmsOf rs).map Sum.inr∧∀(j:Nat) (t:Rw),rs[j]?=some t→∃a,kvs[j]?=some (Sum.inr (sOf t.2.1),.ref a)∧SqT K H a [.int j,.int (iOf t.2.2.1),.int (iOf t.2.2.2)]
theorem MidAt.snoc{K:PySem.W.Frag}{H:Hp}{d a:Addr}{rs:List Rw}{t:Rw}{kvs:List (Key×V)}{c q:Int}{z:Str}(h1:H d=some (.dK kvs))(h2:kvs.map (·.1)=(nmsOf rs).map Sum.inr)
 (h3:∀(j:Nat) (t:Rw),rs[j]?=some t→∃a,kvs[j]?=some (Sum.inr (sOf t.2.1),.ref a)∧SqT K H a [.int j,.int (iOf t.2.2.1),.int (iOf t.2.2.2)])
 (e1:t.2.1= .str z) (e2:t.2.2.1= .int c) (e3:t.2.2.2= .int q) (nz:¬z∈nmsOf rs) (ha:H a=some (.tup [.int kvs.length,.int c,.int q])):
 MidAt K (upd H d (.dK (putK kvs (Sum.inr z) (.ref a)))) d (rs++[t]):=by
 have hl:kvs.length=rs.length:=by
  have:=congrArg List.length h2
  simpa [nmsOf] using this
 have hv:valV kvs (Sum.inr z:Key)=none:=by
  have:=key_mem (z:=z) h2
  rw [decide_eq_false nz]at this
  cases h:valV kvs (Sum.inr z:Key) with
  | none=>rfl
  | some v=>rw [h]at this;cases this
 have keep2:∀{b:Addr} {xs:List V} {o:List (Key×V)},SqT K H b xs→SqT K (upd H d (.dK o)) b xs:=fun {b xs o} h=>by
  rcases h with (h | ⟨o',h⟩) | h
  · exact .inl (.inl (by rw [upd_ne (ne_of h h1 (by intro z;cases z))];exact h))
  · exact .inl (.inr ⟨_,by rw [upd_ne (ne_of h h1 (by intro z;cases z))];exact h⟩)
  · exact .inr h
 refine ⟨_,upd_same,?_,fun j t' hj=>?_⟩
 · rw [putK_new _ hv,List.map_append,h2]
   simp [nmsOf,e1,sOf]
 · rw [putK_new _ hv]
   by_cases hlt:j < rs.length
   · rw [List.getElem?_append_left hlt]at hj
     obtain ⟨b,e,hb⟩:=h3 j t' hj
     exact ⟨b,by rw [List.getElem?_append_left (by omega)];exact e,keep2 hb⟩
   · rw [List.getElem?_append_right (by omega)]at hj
     have hj0:j - rs.length=0:=by
      have:=(List.getElem?_eq_some_iff.mp hj).1
      simp at this;omega
     rw [hj0]at hj
     cases hj
     have ej:j=rs.length:=by omega
     subst ej
     refine ⟨a,?_,?_⟩
     · rw [← hl,List.getElem?_append_right (by omega)];simp [e1,sOf]
     · rw [e2,e3]
       refine keep2 (SqT.of ?_)
       rw [ha,hl];rfl
end N1
namespace L2
section
variable {X:Cx} {pins:List (Addr×Obj)} {σ:St} {H:Hp} {s:Shared}
theorem pa_consK{c:Const}{j pos}{es:List Expr}{te:TE}{t:TA}(ha:PE X (.Constant c j pos) te)(hr:PA X es t):PA X (.Constant c j pos::es) (tCons te t):=pa_cons ha hr rfl
end
theorem rd_setL{o i v:V}{H:Hp}{Q:Hp→Prop}:rSetL o i v H Q=∃p xs k j,o= .ref p∧i= .int k∧H p=some (.lst xs)∧ixN xs.length k=some j∧Q (upd H p (.lst (xs.set j v))):=rfl
end L2
namespace N5
open L2 N1
noncomputable def md(j:Nat):Int:=if j=0 then 26 else 36
noncomputable def sgn(F:Nat→Int)(at':Int)(k j:Nat):Nat:=bc ((F j+if (j:Int)=at' then (k:Int) else 0) % md j)
noncomputable def nmL(F:Nat→Int)(at':Int)(long k:Nat):List Nat:=(List.range long).map (sgn F at' k)
theorem bc_let{i:Int}:bc (i % 26)∈letters:=by
 have h1:=Int.emod_nonneg i (show (26:Int)≠0 by decide)
 have h2:=Int.emod_lt_of_pos i (show (0:Int) < 26 by decide)
 unfold bc
 generalize i % 26=x at *
 have h3:x.toNat < letters.length:=by simp [letters];omega
 rw [List.getD_eq_getElem?_getD,List.getElem?_append_left h3,List.getElem?_eq_getElem h3]
 exact List.getElem_mem h3
theorem bc_both{i:Int}:bc (i % 36)∈letters++figures:=by
 have h1:=Int.emod_nonneg i (show (36:Int)≠0 by decide)
 have h2:=Int.emod_lt_of_pos i (show (0:Int) < 36 by decide)
 unfold bc
 generalize i % 36=x at *
 have h3:x.toNat < (letters++figures).length:=by rw [both_len];omega
 rw [List.getD_eq_getElem?_getD,List.getElem?_eq_getElem h3]
 exact List.getElem_mem h3
theorem bc_inj{x y:Int}(hx0:0≤x)(hx:x < 36)(hy0:0≤y)(hy:y < 36)(h:bc x=bc y):x=y:=by
 have key:∀a:Fin 36,∀b:Fin 36,(letters++figures).getD a.val 0=(letters++figures).getD b.val 0→a=b:=by decide+kernel
 have:=key ⟨x.toNat,by omega⟩ ⟨y.toNat,by omega⟩ h
 have:=congrArg Fin.val this
 simp at this
 omega
theorem nmL_name{F:Nat→Int}{at':Int}{long k:Nat}(h1:1≤long)(h2:long≤8):nameB (nmL F at' long k)=true:=by
 obtain ⟨n,rfl⟩:∃n,long=n+1:=⟨long - 1,by omega⟩
 have hall:∀c∈nmL F at' (n+1) k,c∈letters++figures:=by
  intro c hc
  obtain ⟨j,_,rfl⟩:=List.mem_map.mp hc
  have hm:md j=26∨md j=36:=by unfold md;split <;> simp
  unfold sgn
  rcases hm with hm | hm <;> rw [hm]
  · exact List.mem_append_left _ bc_let
  · exact bc_both
 have hl:(nmL F at' (n+1) k).length=n+1:=by simp [nmL]
 have hh:headIn (nmL F at' (n+1) k) letters=true:=by
  unfold nmL
  rw [List.range_succ_eq_map,List.map_cons]
  show decide (sgn F at' k 0∈letters)=true
  rw [decide_eq_true_eq]
  unfold sgn md
  rw [if_pos rfl]
  exact bc_let
 unfold nameB
 rw [hl,hh,decide_eq_true h1,decide_eq_true h2]
 simp only [Bool.true_and]
 exact List.all_eq_true.mpr fun c hc=>decide_eq_true (hall c hc)
theorem nmL_inj{F:Nat→Int}{at':Int}{long k k':Nat}(h0:0≤at')(h1:at' < long)(hk:k < 26)(hk':k' < 26)(h:nmL F at' long k=nmL F at' long k'):k=k':=by
 have hl:at'.toNat < long:=by omega
 have e:=congrArg (fun l=>l[at'.toNat]?) h
 simp only [nmL,List.getElem?_map,List.getElem?_range hl,Option.map_some,Option.some.injEq]at e
 unfold sgn at e
 rw [if_pos (by omega),if_pos (by omega)]at e
 have hm:md at'.toNat=26∨md at'.toNat=36:=by unfold md;split <;> simp
 rcases hm with hm | hm <;> rw [hm]at e
 · have:=bc_inj (by omega) (by omega) (by omega) (by omega) e
   omega
 · have:=bc_inj (by omega) (by omega) (by omega) (by omega) e
   omega
noncomputable def nms(F:Nat→Int)(at':Int)(long m:Nat):List Str:=(List.range m).map fun k=>tx (nmL F at' long k)
theorem nms_nodup{F:Nat→Int}{at':Int}{long m:Nat}(h0:0≤at')(h1:at' < long)(hm:m≤26):(nms F at' long m).Nodup:=by
 unfold nms List.Nodup
 rw [List.pairwise_map]
 refine List.Pairwise.imp_of_mem (R:=fun a b=>a≠b) ?_ List.nodup_range
 intro a b ha hb ne e
 have ha:=List.mem_range.mp ha
 have hb:=List.mem_range.mp hb
 exact ne (nmL_inj h0 h1 (by omega) (by omega) (T_inj e))
theorem same_made{H H':Hp}{x dx C:Addr}(hx:H x=none)(hd:H dx=none)(s:SameBut x (upd (upd H dx (.own x)) x (.ins C dx [])) H'):Same H H':=fun b o e=>by
 have n1:=ne_of_none e hx
 have n2:=ne_of_none e hd
 exact s b o (by rw [upd_ne n1,upd_ne n2];exact e) n1
theorem name_len{z:Str}(h:nameB z.cps.toList=true):z.length≤8:=by
 unfold nameB at h
 simp only [Bool.and_eq_true,decide_eq_true_eq]at h
 have:=h.1.1.2
 rw [str_len]at this;exact this
end N5
namespace L2
open N1 N5
section
variable {K:PySem.W.Frag} {tail:St} {te:Blk→TE} {Q:VK} {H1:Hp}
theorem compL_ix{a:Addr}{xs:List V}(f:Nat→V)(hS:SqL K H1 a xs)(hz:xs.length≤sizeLine)(he:∀b i x H Q',xs[i]?=some x→Same H1 H→Q' (f i) H→te b (some x::tail) H Q')
 (q:∀D,H1 D=none→Q (.ref D) (upd H1 D (.lst ((List.range xs.length).map f)))):CompTail (none::tail) (fun _=>gName 0) (fun _=>tYes) te Q (Itl K a) H1:=by
 refine comp_by xs.length (fun b D hD=>⟨fun i ys H=>i≤xs.length∧ys=(List.range i).map f∧H=upd H1 D (.lst ys),⟨Nat.zero_le _,rfl,rfl⟩,?_,?_,?_⟩)
 · rintro i ys H ⟨hi,rfl,rfl⟩
   exact upd_same
 · rintro ys H ⟨_,rfl,rfl⟩
   exact ⟨⟨xs,(same_new hD).seq hS,Nat.le_refl _⟩,q D hD⟩
 · rintro i ys H hi ⟨_,rfl,rfl⟩
   refine ⟨⟨xs,xs[i],(same_new hD).seq hS,by simp [hi]⟩,fun x H3 ⟨e3,ex⟩=>?_⟩
   subst e3
   refine he b i x _ _ (ex xs ((same_new hD).seq hS)) (same_new hD) (compNext upd_same (by rw [List.length_map,List.length_range];omega) hi ⟨hi,?_,?_⟩)
   · rw [List.range_succ];simp
   · funext a;by_cases ha:a=D <;> simp [upd,ha]
noncomputable def OffLists(P:V→Hp→Prop):Prop:=∀y H H' l zs,P y H→H l=some (.lst zs)→SameBut l H H'→P y H'
theorem compR_mk{lo:Int}{n:Nat}(P:Nat→V→Hp→Prop)(hP:∀i,OffLists (P i))(hz:n≤sizeLine)(he:∀b (i:Nat) H Q',i < n→Same H1 H→(∀y H',Same H H'→P i y H'→Q' y H')→te b (some (.int (lo+i))::tail) H Q')
 (q:∀D ys H',H1 D=none→Same H1 H'→H' D=some (.lst ys)→ys.length=n→(∀i y,ys[i]?=some y→P i y H')→Q (.ref D) H'):CompTail (none::tail) (fun _=>gName 0) (fun _=>tYes) te Q (Itr lo n) H1:=by
 refine comp_by n (fun b D hD=>⟨fun i ys H=>i≤n∧ys.length=i∧H D=some (.lst ys)∧Same H1 H∧∀j y,ys[j]?=some y→P j y H,⟨Nat.zero_le _,rfl,upd_same,same_new hD,fun j y e=>by simp at e⟩,?_,?_,?_⟩)
 · rintro i ys H ⟨hi,_,h,_⟩
   exact h
 · rintro ys H ⟨_,hl,h,sm,hall⟩
   exact ⟨Nat.le_refl _,q D ys H hD sm h hl hall⟩
 · rintro i ys H hi ⟨_,hl,h,sm,hall⟩
   refine ⟨hi,fun x H3 ⟨e3,ex⟩=>?_⟩
   subst e3 ex
   refine he b i _ _ hi sm fun y H4 sm4 py=>?_
   have h4:=sm4 _ _ h
   have sb:SameBut D H4 (upd H4 D (.lst (ys++[y]))):=sameBut_upd
   refine compNext h4 (by omega) hi ⟨hi,by rw [List.length_append,hl];rfl,upd_same,fun c o e=>?_,fun j y' e=>?_⟩
   · rw [upd_ne (ne_of_none e hD)];exact sm4 _ _ (sm _ _ e)
   · by_cases hj:j < ys.length
     · rw [List.getElem?_append_left hj]at e
       have:=hall j y' e
       exact hP j _ _ _ _ _ this h fun c o e n=>by rw [upd_ne n];exact sm4 _ _ e
     · rw [List.getElem?_append_right (by omega)]at e
       have hj0:j=i:=by have:=(List.getElem?_eq_some_iff.mp e).1;simp at this;omega
       subst hj0
       rw [show j - ys.length=0 by omega]at e
       cases e
       exact hP j _ _ _ _ _ py h4 sb
end
end L2
namespace N4
open L2 N1 N5
noncomputable def unkF(n p:V):List (Str×V):=putF "place" p (putF "name" n [])
theorem unk_name{n p:V}:(unkF n p).lookup ("name":Str)=some n:=by
 unfold unkF
 rw [lookup_putF,if_neg (by decide),lookup_putF,if_pos rfl]
theorem unk_place{n p:V}:(unkF n p).lookup ("place":Str)=some p:=by
 unfold unkF
 rw [lookup_putF,if_pos rfl]
noncomputable def ErrU(C:Addr)(H:Hp)(x:Addr)(n p:V):Prop:=∃dx,H x=some (exO false x C (some dx))∧H dx=some (exD dx (unkF n p))
noncomputable def sp_unk(C:Addr):Sp:=fun vs H Q _=>∃(x:Addr) (n p:V) (nw:Bool),vs=[.ref x,n,p]∧H x=some (exO nw x C none)∧∀dx,H dx=none→Q .non (upd (upd H x (exO nw x C (some dx))) dx (exD dx (unkF n p)))
noncomputable def sp_checkG(K:PySem.W.Frag):Sp:=fun vs H Q _=>∃(n co r:V) (e:Addr) (kvs:List (Key×V)) (ks:List Str),vs=[n,co,r,.ref e]∧H e=some (.dK kvs)∧kvs.map (·.1)=ks.map Sum.inr∧rowR ks n co r=none∧∀H',Same H H'→Q .non H'
noncomputable def sp_initG(K:PySem.W.Frag)(C:Addr):Sp:=fun vs H Q _=>∃(p dx ra:Addr) (rs:List Rw),vs=[.ref p,.ref ra]∧H p=some (.ins C dx [])∧SqL K H ra (rs.map fun t=>V.ref t.1)∧(∀t∈rs,SqT K H t.1 [t.2.1,t.2.2.1,t.2.2.2])∧initR rs=none∧
 ∀H',SameBut p H H'→StockAt K C H' p (rs.map thOf)→Q .non H'
theorem initR_none{rs:List Rw}(h:initR rs=none):rs.length≤60∧stockR [] rs=none:=by
 unfold initR at h
 split at h
 · cases h
 · exact ⟨by omega,h⟩
theorem wIn_ok{lo hi c:Int}(h1:lo≤c)(h2:c≤hi):wIn lo hi (.int c)=true:=by
 show (decide (lo≤c) && decide (c≤hi))=true
 rw [decide_eq_true h1,decide_eq_true h2];rfl
theorem stockR_ok:∀(rs:List Rw) (ks:List Str),(∀t∈rs,∃z c q,t.2.1= .str z∧t.2.2.1= .int c∧t.2.2.2= .int q∧nameB z.cps.toList=true∧0≤c∧c≤10 ^ 30∧1≤q∧q≤1000)→(ks++rs.map fun t=>sOf t.2.1).Nodup→stockR ks rs=none
 | [],_,_,_=>rfl
 | t::rs,ks,h,nd=>by
  obtain ⟨z,c,q,e1,e2,e3,hn,h1,h2,h3,h4⟩:=h t (List.mem_cons_self ..)
  have hz:¬z∈ks:=fun hz=>by
   rw [List.map_cons,List.nodup_append]at nd
   exact nd.2.2 z hz (sOf t.2.1) (List.mem_cons_self ..) (by rw [e1];rfl)
  have r0:rowR ks t.2.1 t.2.2.1 t.2.2.2=none:=by
   unfold rowR
   rw [e1,e2,e3]
   rw [if_neg (by show ¬nameB z.cps.toList=false;rw [hn];decide),if_neg (show ¬sOf (.str z)∈ks from hz),if_neg (by rw [wIn_ok h1 h2];decide),if_neg (by rw [wIn_ok h3 h4];decide)]
  unfold stockR
  rw [r0]
  refine stockR_ok rs _ (fun t' ht=>h t' (List.mem_cons_of_mem _ ht)) ?_
  rw [List.append_assoc]
  exact nd
theorem valV_nth{kvs:List (Key×V)}{i:Nat}{k:Key}{v:V}(nd:(kvs.map (·.1)).Nodup)(e:kvs[i]?=some (k,v)):valV kvs k=some v:=by
 induction kvs generalizing i with
 | nil=>rw [List.getElem?_nil]at e;cases e
 | cons p r ih=>
  cases i with
  | zero=>cases e;exact valV_pos rfl
  | succ i=>
   rw [List.map_cons,List.nodup_cons]at nd
   have hm:(k,v)∈r:=List.mem_of_getElem? e
   rw [valV_neg (fun z=>nd.1 (by rw [z];exact List.mem_map_of_mem (f:=(·.1)) hm))]
   exact ih nd.2 e
theorem inr_nodup{ks:List Str}(h:ks.Nodup):(ks.map (Sum.inr:Str→Key)).Nodup:=by
 unfold List.Nodup at *
 rw [List.pairwise_map]
 exact h.imp fun n e=>n (by injection e)
section
variable {K:PySem.W.Frag} {C:Addr} {H H':Hp} {p:Addr} {ts:List Th} {z:Str}
theorem StockAt.has(h:StockAt K C H p ts):∃dx d kvs,H p=some (.ins C dx (flds d))∧H d=some (.dK kvs)∧(kvs.map fun q=>kV q.1)=ts.map (fun t=>V.str t.1)∧(∀z,(valV kvs (Sum.inr z)).isSome=decide (z∈ts.map (·.1)))∧
 ((ts.map (·.1)).Nodup→∀(i:Nat) (t:Th),ts[i]?=some t→∃a,valV kvs (Sum.inr t.1)=some (.ref a)∧SqT K H a [.int i,.int t.2.1,.int t.2.2]):=by
 obtain ⟨dx,d,kvs,h1,h2,h3,h4⟩:=h.ex
 have h3':kvs.map (·.1)=(ts.map (·.1)).map Sum.inr:=by rw [h3,List.map_map];rfl
 refine ⟨dx,d,kvs,h1,h2,?_,fun z=>key_mem h3',fun nd i t e=>?_⟩
 · have:=congrArg (List.map kV) h3
   rw [List.map_map,List.map_map]at this
   exact this
 · obtain ⟨a,e1,e2⟩:=h4 i t e
   exact ⟨a,valV_nth (by rw [h3'];exact inr_nodup nd) e1,e2⟩
end
noncomputable def sp_has(K:PySem.W.Frag)(C:Addr):Sp:=fun vs H Q _=>∃(p:Addr) (ts:List Th) (z:Str),vs=[.ref p,.str z]∧StockAt K C H p ts∧Q (.bl (decide (z∈ts.map (·.1)))) H
theorem mem_nth{ts:List Th}{z:Str}(h:z∈ts.map (·.1)):∃(i:Nat) (t:Th),ts[i]?=some t∧t.1=z:=by
 obtain ⟨t,ht,e⟩:=List.mem_map.mp h
 obtain ⟨i,hi⟩:=List.mem_iff_getElem?.mp ht
 exact ⟨i,t,hi,e⟩
end N4
namespace N4
open L2 N1 N5
structure RowsAt(K:PySem.W.Frag)(H:Hp)(r:Addr)(as:List Addr)(ts:List Th):Prop where
 l:SqL K H r (as.map V.ref)
 n:as.length=ts.length
 m:ts.length≤60
 at_:∀(i:Nat) (a:Addr) (t:Th),as[i]?=some a→ts[i]?=some t→SqT K H a [.str t.1,.int t.2.1,.int t.2.2]
 ok:∀t∈ts,nameB t.1.cps.toList=true∧0≤t.2.1∧t.2.1≤10 ^ 30∧1≤t.2.2∧t.2.2≤1000
 nd:(ts.map (·.1)).Nodup
noncomputable def rwOf(a:Addr)(t:Th):Rw:=(a,.str t.1,.int t.2.1,.int t.2.2)
theorem RowsAt.init{K:PySem.W.Frag}{H:Hp}{r:Addr}{as:List Addr}{ts:List Th}(h:RowsAt K H r as ts):∃rs:List Rw,rs.map (fun t=>V.ref t.1)=as.map V.ref∧(∀t∈rs,SqT K H t.1 [t.2.1,t.2.2.1,t.2.2.2])∧initR rs=none∧rs.map thOf=ts:=by
 have hn:=h.n
 have gt:∀(i:Nat) (x:Addr×Th),(as.zip ts)[i]?=some x→as[i]?=some x.1∧ts[i]?=some x.2:=fun i x e=>by
  rw [List.getElem?_zip_eq_some]at e;exact e
 have e1:((as.zip ts).map fun x=>rwOf x.1 x.2).map thOf=ts:=by
  rw [List.map_map]
  have:(thOf∘fun x:Addr×Th=>rwOf x.1 x.2)=Prod.snd:=by funext x;rfl
  rw [this,List.map_snd_zip (by omega)]
 refine ⟨(as.zip ts).map fun x=>rwOf x.1 x.2,?_,?_,?_,e1⟩
 · rw [List.map_map]
   have:((fun t:Rw=>V.ref t.1)∘fun x:Addr×Th=>rwOf x.1 x.2)=V.ref∘Prod.fst:=by funext x;rfl
   rw [this,← List.map_map,List.map_fst_zip (by omega)]
 · intro t ht
   obtain ⟨x,hx,rfl⟩:=List.mem_map.mp ht
   obtain ⟨i,hi⟩:=List.mem_iff_getElem?.mp hx
   obtain ⟨h1,h2⟩:=gt i x hi
   exact h.at_ i x.1 x.2 h1 h2
 · unfold initR
   rw [if_neg (by rw [List.length_map,List.length_zip];have:=h.m;omega)]
   refine stockR_ok _ _ (fun t ht=>?_) ?_
   · obtain ⟨x,hx,rfl⟩:=List.mem_map.mp ht
     obtain ⟨i,hi⟩:=List.mem_iff_getElem?.mp hx
     obtain ⟨h1,h2⟩:=gt i x hi
     obtain ⟨o1,o2,o3,o4,o5⟩:=h.ok x.2 (List.mem_of_getElem? h2)
     exact ⟨x.2.1,x.2.2.1,x.2.2.2,rfl,rfl,rfl,o1,o2,o3,o4,o5⟩
   · rw [List.nil_append,List.map_map]
     have:((fun t:Rw=>sOf t.2.1)∘fun x:Addr×Th=>rwOf x.1 x.2)=(fun t:Th=>t.1)∘Prod.snd:=by funext x;rfl
     rw [this,← List.map_map,List.map_snd_zip (by omega)]
     exact h.nd
end N4
namespace N6
open L2 N1 N5 N4
noncomputable abbrev Ly:=List (Str×Int)
noncomputable def Err0(C:Addr)(H':Hp)(x:Addr):Prop:=H' x=some (exO false x C none)
end N6
namespace N6
open L2 N1 N5 N4
theorem inV_strs{z:Str}{ys:List Str}:inV (.str z) (ys.map V.str)=decide (z∈ys):=by
 unfold inV
 induction ys with
 | nil=>rfl
 | cons y ys ih=>
  rw [List.map_cons,List.any_cons,ih,eqV_str]
  by_cases h:y=z
  · subst h;simp
  · have h':¬z=y:=fun e=>h e.symm
    simp [h,h']
theorem notin_go{K:PySem.W.Frag}{H:Hp}{p:Addr}{z:Str}{ys:List Str}{Q:VK}(h:SqL K H p (ys.map V.str))(q:Q (.bl (!decide (z∈ys))) H):rIn K true (.str z) (.ref p) H Q:=by
 refine ⟨p,_,rfl,.inl h,rfl,all_strs,?_⟩
 rw [if_pos rfl,inV_strs]
 exact q
theorem getD_str{ys:List Str}{i:Nat}(h:i < ys.length):ys[i]?=some (ys.getD i Str.empty):=by
 rw [List.getD_eq_getElem?_getD,List.getElem?_eq_getElem h];rfl
noncomputable def aOf:V→Addr
 | .ref a=>a
 | _=>0
theorem cut_to(ys:List Str)(m:Nat)(h:m≤ys.length):cutV (ys.map V.str) none (some (m:Int))=(ys.take m).map V.str:=by
 unfold cutV
 rw [← List.map_drop,← List.map_take,List.length_map]
 congr 1
 unfold HT.sIx
 simp only [Option.getD_none,Option.getD_some]
 first
  | (rw [if_neg (show ¬((m:Int) < 0) by omega)];simp;omega)
  | (rw [if_neg (show ¬((m:Int) < 0) by omega)];simp [Nat.min_eq_left h])
end N6
namespace L2
theorem Inv.turned2{X:Cx}{pins:List (Addr×Obj)}{σ:St}{H:Hp}{s:Shared}{h':Heap}{t':Nat}{fp:List Addr}(I:Inv X pins σ H s)(k:∀b o,b∉fp→s.heap.get? b=some o→h'.get? b=some o)(hf:∀it∈fp,FpOk X pins H it):
 Inv X pins σ H {s with heap:=h',toks:=t'}:=by
 have nit:∀b u,H b=some u→b∉fp:=fun b u e z=>by rw [(hf b z).1]at e;cases e
 refine I.step (g':=s.gens) (d':=s.drawn) (ch:=fp) (fun b hb=>?_) (fun b o _ _ hc e _=>k b o hc e) (fun b o _ _ hc e _=>⟨o.slots,k b o hc e⟩) (fun _ _ _ _ n=>n)
  (fun b o hc e=>⟨o,k b o hc e⟩) (fun _ _ e=>e) (fun _ _ _ e=>e) (fun b ps e=>⟨#[],by rw [e];simp⟩) (fun m hm=>?_) (fun b u e=>?_) I.bare
 · obtain ⟨_,h1,_,h2,h3,h4⟩:=hf b hb
   exact ⟨h2,h1,h3,h4⟩
 · obtain ⟨o,es,ep,ho,r⟩:=hm
   exact ⟨o,es,ep,k _ o (fun z=>(hf _ z).2.1 rfl) ho,r⟩
 · refine (I.hok b u e).stay (fun c v hc q=>k c v ?_ q) (fun _ q=>q) fun _ _ q=>q
   rcases hc with z | z
   · rw [z];exact nit b u e
   · exact nit c _ z
noncomputable def Ite(K:PySem.W.Frag)(a:Addr):It:=
 ⟨fun i H=>∃xs x,SqL K H a xs∧xs[i]?=some x,fun i H y H'=>∃t x,y= .ref t∧H t=none∧H'=upd H t (.tup [.int i,x])∧∀xs,SqL K H a xs→xs[i]?=some x,fun i H=>∃xs,SqL K H a xs∧xs.length≤i⟩
noncomputable def tnE(e it a:Addr)(i:Nat)(h:Heap):Prop:=(∃old,IsEnum h e it i old)∧h.IsListIter it a i
theorem turn_enum{P:Program}{w:World}{K:PySem.W.Frag}{es:List Expr}{k:Nat}{pos:Pos}(a e it:Addr)(ne:e≠it):Turn P w K (.Tuple es k pos) (Ite K a) [e,it] e (tnE e it a) where
 mem:=by simp
 obj:=fun i h st b hb=>by
  obtain ⟨⟨old,h1⟩,o,h2,c,d⟩:=st
  have hb:b=e∨b=it:=by simpa using hb
  rcases hb with rfl | rfl
  · exact ⟨_,h1,fun v z=>by cases z⟩
  · exact ⟨o,h2,fun v z=>by rw [d]at z;cases z⟩
 keep:=fun i h h' st kk=>by
  obtain ⟨⟨old,h1⟩,h2⟩:=st
  exact ⟨⟨old,kk e (by simp) _ h1⟩,h2.at fun o q=>kk it (by simp) o q⟩
 item:=by
  intro X hP hw hK hc i pins s σ H E I hf st hg
  subst hP hw hK
  obtain ⟨xs,x,hq,hx⟩:=hg
  obtain ⟨its,rv,p,hz⟩:=I.list hq
  obtain ⟨u,hu,ru⟩:=rv.get hx
  obtain ⟨⟨old,h1⟩,h2⟩:=st
  have hlt:e < s.heap.objs.size:=Heap.lt_size h1
  have hit:it < s.heap.objs.size:=by obtain ⟨o,q,_⟩:=id h2;exact Heap.lt_size q
  refine wpAny_pyNext_enum_item h1 h2 p.isList (x:=u) (by simpa using hu) ne fun h' eo it' ht hs hk=>?_
  refine ⟨_,rfl,wpAny_letOwnedTupleGo_enum (s:={s with heap:=h',toks:=s.toks+1}) eo fun h3 e3 sb=>?_⟩
  have hf0:H s.heap.objs.size=none:=I.hok.fresh (Nat.le_refl _)
  have nt:∀b∈[e,it],b≠s.heap.objs.size:=fun b hb=>by
   have hb:b=e∨b=it:=by simpa using hb
   rcases hb with rfl | rfl
   · exact Nat.ne_of_lt hlt
   · exact Nat.ne_of_lt hit
  have I0:Inv X pins σ (upd H s.heap.objs.size (.tup [.int i,x])) {s with heap:=s.heap.push {cls:= .type "tuple",data:= .seq #[.int i s.toks,u]},toks:=s.toks+1}:=
   I.laid (fun b u e=>Heap.get?_push_of_some _ e) (Nat.le_refl _) ⟨by simp [sizeLine];try decide,[.int i s.toks,u],.cons ⟨_,rfl⟩ (.cons ru .nil),⟨_,Heap.get?_push_size _ rfl,rfl,_,rfl⟩⟩
  have hfp:∀b∈[e,it],FpOk X pins (upd H s.heap.objs.size (.tup [.int i,x])) b:=fun b hb=>by
   obtain ⟨f0,f1,f2,f3,f4,f5⟩:=hf b hb
   exact ⟨by rw [upd_ne (nt b hb)];exact f0,f1,f2,f3,f4,f5⟩
  have I1:Inv X pins σ (upd H s.heap.objs.size (.tup [.int i,x])) {s with heap:=h3,toks:=s.toks+1}:=by
   refine Inv.turned2 (s:={s with heap:=s.heap.push {cls:= .type "tuple",data:= .seq #[.int i s.toks,u]},toks:=s.toks+1}) (t':=s.toks+1) I0 (fun b o hb q=>?_) hfp
   have hb':b≠e∧b≠it:=by simpa using hb
   refine (sb.2 b hb'.1).trans ?_
   rcases Heap.get?_push_cases q with ⟨rfl,rfl⟩ | q2
   · exact ht
   · exact hk b o hb'.1 hb'.2 q2
  refine ⟨.ref s.heap.objs.size,upd H s.heap.objs.size (.tup [.int i,x]),I1,rfl,⟨_,x,rfl,hf0,rfl,fun ys hy=>by rw [I.list_inj hy hq];exact hx⟩,⟨⟨u,?_⟩,?_⟩,fun b hb=>(hfp b hb).1⟩
  · show IsEnum h3 e it ((i+1:Nat):Int) u
    rw [show ((i+1:Nat):Int)=(i:Int)+1 from rfl]
    exact e3
  · exact it'.at fun o q=>(sb.2 it (Ne.symm ne)).trans q
 done:=by
   intro X hP hw hK hc i pins s σ H E I hf st hg
   subst hP hw hK
   obtain ⟨xs,hq,hx⟩:=hg
   obtain ⟨its,rv,p,hz⟩:=I.list hq
   obtain ⟨⟨old,h1⟩,h2⟩:=st
   have hl:=rv.length
   exact wpAny_pyNext_enum_end (I.ok.hd hc) h1 h2 p.isList (by simp;omega) fun h' eb=>⟨rfl,Inv.turned2 (t':=s.toks) I (fun b o hb q=>eb b o (fun z=>hb (by simp [z])) q) hf⟩
 self:=fun _ _ _ _ _ st h=>wpAny_pyIter_enum st.1.choose_spec h
section
variable {X:Cx}
noncomputable def iEnum(K:PySem.W.Frag)(ta:TA):TI:=fun σ H R=>ta σ H fun vs H1=>∃a,vs=[.ref a]∧(∃xs,SqL K H1 a xs)∧R (Ite K a) H1
theorem pi_enum{l:Expr}{ta:TA}{p pos pp:Pos}{es:List Expr}{k:Nat}(hg:Gl X "enumerate")(hm:X.mg "enumerate"=none)(ha:PA X [l] ta)(hs:starEach [l] X.env=[(false,eval l X.env)]:=by rfl):PI X (.Tuple es k pp) (.Call (.Name "enumerate" p) [l] [] pos) (iEnum X.K ta):=by
 intro pins s σ H R I h
 refine Call_ (ld_blt I hg hm boot_enumerate (PyProof.Rows.callWith_type1 (thn (ha pos pins s σ H _ I h) fun us s1 hq_=>?_) hs rfl))
 obtain ⟨vs,H1,I1,r1,q1⟩:=hq_
 obtain ⟨a,e,⟨xs,hq⟩,q⟩:=q1
 subst e
 cases r1 with
 | cons r rr=>
  cases rr
  cases r
  obtain ⟨its,rv,p',hz⟩:=I1.list hq
  refine call_enumerate_list p'.isList fun h' h1 h2 h3 h4=>?_
  refine wpAny_pyIter_enum h1 ?_
  refine ⟨_,[s1.heap.objs.size+1,s1.heap.objs.size],_,_,H1,rfl,I1.kept (t':=s1.toks) h4,turn_enum a _ _ (Nat.succ_ne_self _),⟨⟨_,h1⟩,h2⟩,fun b hb=>?_,q⟩
  have hb:b=s1.heap.objs.size+1∨b=s1.heap.objs.size:=by simpa using hb
  rcases hb with rfl | rfl
  · exact I1.fpOk (Nat.le_succ _) (I1.hok.fresh (Nat.le_succ _))
  · exact I1.fpOk (Nat.le_refl _) (I1.hok.fresh (Nat.le_refl _))
end
section
variable {K:PySem.W.Frag} {σ:St} {H:Hp} {D:Ends}
theorem rd_ienum{ta:TA}{R:It→Hp→Prop}:iEnum K ta σ H R=ta σ H fun vs H1=>∃a,vs=[.ref a]∧(∃xs,SqL K H1 a xs)∧R (Ite K a) H1:=rfl
theorem forE_by{a:Addr}{xs:List V}{g:TG}{tb:TS}(Pv:Nat→St→Hp→Prop)(h0:Pv 0 σ H)(hl:∀i σ H,i≤xs.length→Pv i σ H→SqL K H a xs)
 (hs:∀i x σ H t,xs[i]?=some x→Pv i σ H→H t=none→g (.ref t) σ (upd H t (.tup [.int i,x])) fun σ2 H2=>tb {D with nx:=Pv (i+1),ct:=Pv (i+1),bk:=D.nx} σ2 H2) (hd:∀σ H,Pv xs.length σ H→D.nx σ H):ForTail g tb D σ (Ite K a) H:=by
 refine ⟨fun i m σ H=>i≤xs.length∧m=xs.length - i∧Pv i σ H,⟨_,Nat.zero_le _,rfl,h0⟩,fun i m σ H ⟨hi,hm,hP⟩=>?_⟩
 have hq:=hl i σ H hi hP
 cases hx:xs[i]? with
 | none=>
  have hn:xs.length≤i:=by simpa using hx
  have e:i=xs.length:=Nat.le_antisymm hi hn
  subst e
  exact .inl ⟨⟨xs,hq,Nat.le_refl _⟩,hd σ H hP⟩
 | some x=>
  have hlt:i < xs.length:=(List.getElem?_eq_some_iff.mp hx).1
  refine .inr ⟨⟨xs,x,hq,hx⟩,Pv (i+1),fun σ' H' h=>⟨xs.length - (i+1),by omega,by omega,rfl,h⟩,?_⟩
  rintro y H' ⟨t,x',rfl,ht,rfl,hy⟩
  have e:=(hy xs hq).symm.trans hx
  cases e
  exact hs i x σ H t hx hP ht
end
end L2
namespace L2
noncomputable def Itz(K:PySem.W.Frag)(a b:Addr):It:=
 ⟨fun i H=>∃xs ys x y,SqL K H a xs∧SqL K H b ys∧xs[i]?=some x∧ys[i]?=some y,fun i H v H'=>∃t x y,v= .ref t∧H t=none∧H'=upd H t (.tup [x,y])∧(∀xs,SqL K H a xs→xs[i]?=some x)∧∀ys,SqL K H b ys→ys[i]?=some y,
  fun i H=>∃xs ys,SqL K H a xs∧SqL K H b ys∧(xs.length≤i∨ys.length≤i)⟩
noncomputable def tnZ(z TI TO i1 i2 a b:Addr)(i:Nat)(h:Heap):Prop:=IsZip h z TI TO .none∧IsPair h TI (.ref i1) (.ref i2)∧(∃x y,IsPair h TO x y)∧h.IsListIter i1 a i∧h.IsListIter i2 b i
theorem turn_zip{P:Program}{w:World}{K:PySem.W.Frag}{es:List Expr}{k:Nat}{pos:Pos}(a b z TI TO i1 i2:Addr)(D:ZipApart z TI TO i1 i2 a b):Turn P w K (.Tuple es k pos) (Itz K a b) [z,TI,TO,i1,i2] z (tnZ z TI TO i1 i2 a b) where
 mem:=by simp
 obj:=fun i h st c hc=>by
  obtain ⟨h1,h2,⟨x,y,h3⟩,⟨o4,e4,c4,d4⟩,⟨o5,e5,c5,d5⟩⟩:=st
  have hc:c=z∨c=TI∨c=TO∨c=i1∨c=i2:=by simpa using hc
  rcases hc with rfl | rfl | rfl | rfl | rfl
  · exact ⟨_,h1,fun v z=>by cases z⟩
  · exact ⟨_,h2,fun v z=>by cases z⟩
  · exact ⟨_,h3,fun v z=>by cases z⟩
  · exact ⟨o4,e4,fun v z=>by rw [d4]at z;cases z⟩
  · exact ⟨o5,e5,fun v z=>by rw [d5]at z;cases z⟩
 keep:=fun i h h' st kk=>by
  obtain ⟨h1,h2,⟨x,y,h3⟩,h4,h5⟩:=st
  exact ⟨kk z (by simp) _ h1,kk TI (by simp) _ h2,⟨x,y,kk TO (by simp) _ h3⟩,h4.at fun o q=>kk i1 (by simp) o q,h5.at fun o q=>kk i2 (by simp) o q⟩
 item:=by
  intro X hP hw hK hc i pins s σ H E I hf st hg
  subst hP hw hK
  obtain ⟨xs,ys,x,y,hq,hq2,hx,hy⟩:=hg
  obtain ⟨its,rv,p,hz⟩:=I.list hq
  obtain ⟨jts,rv2,p2,hz2⟩:=I.list hq2
  obtain ⟨u,hu,ru⟩:=rv.get hx
  obtain ⟨v,hv,rw'⟩:=rv2.get hy
  obtain ⟨h1,h2,⟨x0,y0,h3⟩,h4,h5⟩:=st
  have lts:∀c∈[z,TI,TO,i1,i2],c < s.heap.objs.size:=fun c hc'=>by
   have hc':c=z∨c=TI∨c=TO∨c=i1∨c=i2:=by simpa using hc'
   rcases hc' with rfl | rfl | rfl | rfl | rfl
   · exact Heap.lt_size h1
   · exact Heap.lt_size h2
   · exact Heap.lt_size h3
   · obtain ⟨o,q,_⟩:=id h4;exact Heap.lt_size q
   · obtain ⟨o,q,_⟩:=id h5;exact Heap.lt_size q
  refine wpAny_pyNext_zip_item D h1 h2 h3 h4 h5 p.isList p2.isList (x:=u) (y:=v) (by simpa using hu) (by simpa using hv) fun h' e1 e3 e4 e5 ht hs hk=>?_
  refine ⟨_,rfl,wpAny_letOwnedTupleGo_zip (s:={s with heap:=h'}) e1 fun h6 e6 sb=>?_⟩
  have hf0:H s.heap.objs.size=none:=I.hok.fresh (Nat.le_refl _)
  have nt:∀c∈[z,TI,TO,i1,i2],c≠s.heap.objs.size:=fun c hc'=>Nat.ne_of_lt (lts c hc')
  have I0:Inv X pins σ (upd H s.heap.objs.size (.tup [x,y])) {s with heap:=s.heap.push {cls:= .type "tuple",data:= .seq #[u,v]}}:=
   I.laid (t':=s.toks) (fun b u e=>Heap.get?_push_of_some _ e) (Nat.le_refl _) ⟨by simp [sizeLine];try decide,[u,v],.cons ru (.cons rw' .nil),⟨_,Heap.get?_push_size _ rfl,rfl,_,rfl⟩⟩
  have hfp:∀c∈[z,TI,TO,i1,i2],FpOk X pins (upd H s.heap.objs.size (.tup [x,y])) c:=fun c hc'=>by
   obtain ⟨f0,f1,f2,f3,f4,f5⟩:=hf c hc'
   exact ⟨by rw [upd_ne (nt c hc')];exact f0,f1,f2,f3,f4,f5⟩
  have I1:Inv X pins σ (upd H s.heap.objs.size (.tup [x,y])) {s with heap:=h6}:=by
   refine Inv.turned2 (s:={s with heap:=s.heap.push {cls:= .type "tuple",data:= .seq #[u,v]}}) (t':=s.toks) I0 (fun c o hc' q=>?_) hfp
   have hb':c≠z∧c≠TI∧c≠TO∧c≠i1∧c≠i2:=by simpa using hc'
   refine (sb.2 c hb'.1).trans ?_
   rcases Heap.get?_push_cases q with ⟨rfl,rfl⟩ | q2
   · exact ht
   · exact hk c o hb'.1 hb'.2.2.1 hb'.2.2.2.1 hb'.2.2.2.2 q2
  refine ⟨.ref s.heap.objs.size,upd H s.heap.objs.size (.tup [x,y]),I1,rfl,⟨_,x,y,rfl,hf0,rfl,fun zs hy'=>by rw [I.list_inj hy' hq];exact hx,fun zs hy'=>by rw [I.list_inj hy' hq2];exact hy⟩,?_,fun c hc'=>(hfp c hc').1⟩
  have k6:∀c o,c≠z→h'.get? c=some o→h6.get? c=some o:=fun c o n q=>(sb.2 c n).trans q
  exact ⟨e6,k6 TI _ D.TIz (hk TI _ D.TIz D.TITO D.TIi1 D.TIi2 h2),⟨_,_,k6 TO _ D.TOz e3⟩,e4.at fun o q=>k6 i1 o D.i1z q,e5.at fun o q=>k6 i2 o D.i2z q⟩
 done:=by
   intro X hP hw hK hc i pins s σ H E I hf st hg
   subst hP hw hK
   obtain ⟨xs,ys,hq,hq2,hx⟩:=hg
   obtain ⟨its,rv,p,hz⟩:=I.list hq
   obtain ⟨jts,rv2,p2,hz2⟩:=I.list hq2
   obtain ⟨h1,h2,⟨x0,y0,h3⟩,h4,h5⟩:=st
   have hl:=rv.length
   have hl2:=rv2.length
   exact wpAny_pyNext_zip_end (I.ok.hd hc) D h1 h2 h3 h4 h5 p.isList p2.isList (hx.imp (fun h=>by simp;omega) fun h=>by simp;omega) fun h' eb=>⟨rfl,Inv.turned2 (t':=s.toks) I (fun c o hb q=>by
    have hb':c≠z∧c≠TI∧c≠TO∧c≠i1∧c≠i2:=by simpa using hb
    exact eb c o hb'.1 hb'.2.2.1 hb'.2.2.2.1 hb'.2.2.2.2 q) hf⟩
 self:=fun _ _ _ _ _ st h=>wpAny_pyIter_zip st.1 h
section
variable {X:Cx}
noncomputable def iZip(K:PySem.W.Frag)(ta:TA):TI:=fun σ H R=>ta σ H fun vs H1=>∃a b,vs=[.ref a,.ref b]∧(∃xs,SqL K H1 a xs)∧(∃ys,SqL K H1 b ys)∧R (Itz K a b) H1
theorem pi_zip{l r:Expr}{ta:TA}{p pos pp:Pos}{es:List Expr}{k:Nat}(hg:Gl X "zip")(hm:X.mg "zip"=none)(ha:PA X [l,r] ta)(hs:starEach [l,r] X.env=[(false,eval l X.env),(false,eval r X.env)]:=by rfl)(hs2:starEach [r] X.env=[(false,eval r X.env)]:=by rfl):
 PI X (.Tuple es k pp) (.Call (.Name "zip" p) [l,r] [] pos) (iZip X.K ta):=by
 intro pins s σ H R I h
 refine Call_ (ld_blt I hg hm boot_zip (PyProof.Rows.callWith_type1 (thn (ha pos pins s σ H _ I h) fun us s1 ⟨vs,H1,I1,r1,q1⟩=>?_) (by rw [hs,hs2]) (by rw [hs2];rfl)))
 obtain ⟨a,b,e,⟨xs,hq⟩,⟨ys,hq2⟩,q⟩:=q1
 subst e
 cases r1 with
 | cons r rr=>
  cases rr with
  | cons r' rr=>
   cases rr
   cases r
   cases r'
   obtain ⟨its,rv,p',hz⟩:=I1.list hq
   obtain ⟨jts,rv2,p2,hz2⟩:=I1.list hq2
   have la:a < s1.heap.objs.size:=by obtain ⟨o,e,_⟩:=p'.isList;exact Heap.lt_size e
   have lb:b < s1.heap.objs.size:=by obtain ⟨o,e,_⟩:=p2.isList;exact Heap.lt_size e
   refine call_zip_2 p'.isList p2.isList fun h' h1 h2 h3 h4 h5 h6 h7=>?_
   refine wpAny_pyIter_zip h1 ?_
   refine ⟨_,[s1.heap.objs.size+4,s1.heap.objs.size+2,s1.heap.objs.size+3,s1.heap.objs.size,s1.heap.objs.size+1],_,_,H1,rfl,I1.kept (t':=s1.toks) h7,turn_zip a b _ _ _ _ _ (PySem.W.ktu_apart _ _ _ la lb),⟨h1,h2,⟨_,_,h3⟩,h4,h5⟩,fun c hc=>?_,q⟩
   have hc:s1.heap.objs.size≤c:=by
    have hc:c=s1.heap.objs.size+4∨c=s1.heap.objs.size+2∨c=s1.heap.objs.size+3∨c=s1.heap.objs.size∨c=s1.heap.objs.size+1:=by simpa using hc
    rcases hc with rfl | rfl | rfl | rfl | rfl
    · exact Nat.le_add_right _ _
    · exact Nat.le_add_right _ _
    · exact Nat.le_add_right _ _
    · exact Nat.le_refl _
    · exact Nat.le_add_right _ _
   exact I1.fpOk hc (I1.hok.fresh hc)
end
section
variable {K:PySem.W.Frag} {σ:St} {H:Hp} {D:Ends}
theorem rd_izip{ta:TA}{R:It→Hp→Prop}:iZip K ta σ H R=ta σ H fun vs H1=>∃a b,vs=[.ref a,.ref b]∧(∃xs,SqL K H1 a xs)∧(∃ys,SqL K H1 b ys)∧R (Itz K a b) H1:=rfl
end
end L2
namespace L2
noncomputable abbrev tComp1I(wi:TI)(fs:List Nat)(tt:Blk→TT)(te:Blk→TE):TE:=tComp wi 1 fs (fun _=>gName 0) tt te
noncomputable abbrev g2(K:PySem.W.Frag):Blk→TG:=fun _=>gTup K 2 (gCons (gName 0) (gCons (gName 1) gNil))
noncomputable abbrev tComp2(K:PySem.W.Frag)(wi:TI)(fs:List Nat)(tt:Blk→TT)(te:Blk→TE):TE:=tComp wi 2 fs (g2 K) tt te
section
variable {X:Cx} {scope:Scope} {x y:Str} {px py pt:Pos} {n:Nat} {fs:List Nat} {elt iter c:Expr} {pos:Pos} {wi:TI} {tt:Blk→TT} {te:Blk→TE}
theorem pg_own2(hc:X.calm=true)(hok:compOkB X.N X.env.scope scope [x,y] fs=true)(b:Blk):PG (X.blk scope ([x,y]++around X.N fs) b) (.Tuple [.Name x px,.Name y py] n pt) (g2 X.K b):=by
 have O:=compOk_of hok
 refine pg_tup (X:=X.blk scope ([x,y]++around X.N fs) b) hc (pgs_cons (pg_name O.nd rfl (.inl (lookup_relabel_local (O.own x (by simp)))) (.inr (lookup_relabel_local (O.own x (by simp)))))
  (pgs_cons (pg_name O.nd rfl (.inl (lookup_relabel_local (O.own y (by simp)))) (.inr (lookup_relabel_local (O.own y (by simp))))) pgs_nil))
end
section
variable {K:PySem.W.Frag} {tail:St} {tt:Blk→TT} {te:Blk→TE} {Q:VK} {H1:Hp} {σ:St} {H:Hp}
theorem rd_compI{wi:TI}{fs:List Nat}:tComp1I wi fs tt te σ H Q=wi σ H (CompTail (none::fs.map fun j=>σ.getD j none) (fun _=>gName 0) tt te Q):=rfl
theorem rd_comp2{wi:TI}{fs:List Nat}:tComp2 K wi fs tt te σ H Q=wi σ H (CompTail (none::none::fs.map fun j=>σ.getD j none) (g2 K) tt te Q):=rfl
theorem kept2{x y:Option V}{r:St}:Kept (none::none::r) (x::y::r):=fun i v e=>by
 match i with
 | 0=>cases e
 | 1=>cases e
 | i+2=>exact e
theorem same_put{H H':Hp}{p:Addr}{o:HO}(s:Same H H')(h:H p=none):Same H (upd H' p o):=fun b u e=>by
 rw [upd_ne (ne_of_none e h)];exact s b u e
theorem compZ_2{a c:Addr}{xs zs:List V}(hlen:xs.length=zs.length)(p:Nat→Bool)(f:Nat→V)(hA:SqL K H1 a xs)(hC:SqL K H1 c zs)(hz:xs.length≤sizeLine)
 (ht:∀b i x z H QT,xs[i]?=some x→zs[i]?=some z→Same H1 H→(∀H',Same H H'→QT (p i) H')→tt b (some x::some z::tail) H QT)
 (he:∀b i x z H Q',xs[i]?=some x→zs[i]?=some z→p i=true→Same H1 H→(∀H',Same H H'→Q' (f i) H')→te b (some x::some z::tail) H Q')
 (q:∀D H',H1 D=none→Same H1 H'→H' D=some (.lst (((List.range xs.length).filter p).map f))→Q (.ref D) H'):CompTail (none::none::tail) (g2 K) tt te Q (Itz K a c) H1:=by
 intro b D hD
 refine ⟨fun i m ys H=>m=xs.length - i∧i≤xs.length∧ys=((List.range i).filter p).map f∧H D=some (.lst ys)∧Same H1 H,⟨_,rfl,Nat.zero_le _,rfl,upd_same,same_new hD⟩,?_⟩
 rintro i m ys H ⟨rfl,hi,rfl,hd,sm⟩
 refine ⟨hd,?_⟩
 by_cases hlt:i < xs.length
 · have hx:xs[i]?=some xs[i]:=List.getElem?_eq_getElem hlt
   have hy:zs[i]?=some (zs[i]'(by omega)):=List.getElem?_eq_getElem (by omega)
   refine .inr ⟨⟨xs,zs,_,_,sm.seq hA,sm.seq hC,hx,hy⟩,?_⟩
   rintro v H3 ⟨t,x',z',rfl,hn,rfl,g1,g2'⟩
   have e1:=(g1 xs (sm.seq hA)).symm.trans hx
   have e2:=(g2' zs (sm.seq hC)).symm.trans hy
   cases e1
   cases e2
   have s3:Same H (upd H t (.tup [xs[i],zs[i]'(by omega)])):=Same.new hn
   have hl:(((List.range i).filter p).map f).length≤i:=by
    rw [List.length_map];exact Nat.le_trans (List.length_filter_le _ _) (by rw [List.length_range];omega)
   have htk:(List.range (i+1)).filter p=(List.range i).filter p++[i].filter p:=by rw [List.range_succ,List.filter_append]
   refine ⟨t,_,rfl,SqT.of upd_same,rfl,_,_,rfl,_,_,rfl,rfl,kept2,?_⟩
   refine ht b i _ _ _ _ hx hy (sm.trans s3) fun H7 s7=>?_
   by_cases hp:p i=true
   · rw [if_pos hp]
     refine he b i _ _ H7 _ hx hy hp ((sm.trans s3).trans s7) fun H8 s8=>?_
     have hd8:=((s3.trans s7).trans s8) _ _ hd
     refine ⟨hd8,by omega,xs.length - (i+1),by omega,rfl,hlt,?_,upd_same,same_put (((sm.trans s3).trans s7).trans s8) hD⟩
     rw [htk,List.filter_cons_of_pos hp,List.filter_nil,List.map_append];rfl
   · rw [if_neg hp]
     refine ⟨xs.length - (i+1),by omega,rfl,hlt,?_,(s3.trans s7) _ _ hd,(sm.trans s3).trans s7⟩
     rw [htk,List.filter_cons_of_neg hp,List.filter_nil,List.append_nil]
 · have e:i=xs.length:=by omega
   subst e
   exact .inl ⟨⟨_,_,sm.seq hA,sm.seq hC,.inl (Nat.le_refl _)⟩,q D H hD sm hd⟩
end
end L2
namespace L2
section
variable {X:Cx} {scope:Scope} {x y v:Str} {px py pt pv':Pos} {n i:Nat} {fs:List Nat} {elt iter c:Expr} {pos spos:Pos} {wi:TI} {tt:Blk→TT} {te:Blk→TE}
theorem ps_compI(x:Str)(fs:List Nat)(hN:X.N.Nodup)(hy:X.N[i]?=some v)(hyl:X.env.kindOf v=some .local)(hc:X.calm=true)(hok:compOkB X.N X.env.scope scope [x] fs=true)(hi:PI X (.Name x px) iter wi)(ht:∀b,PT (X.blk scope ([x]++around X.N fs) b) c (tt b))(he:∀b,PE (X.blk scope ([x]++around X.N fs) b) elt (te b))
 (hsw:swapsWith (.ListComp elt [⟨.Name x px,iter,[c],0⟩] scope pos) (some (.Name v pv')) spos.line X.env=pure true:=by rfl)
 (hs:∀x,foldedSetIterable iter X.env x=pure x:=by intro _;rfl):PS X (.Assign [.Name v pv'] (.ListComp elt [⟨.Name x px,iter,[c],0⟩] scope pos) spos) (tAsg (tComp1I wi fs tt te) (gName i)):=
 ps_comp (xs:=[x]) (g:=fun _=>gName 0) (tt:=tt) hN hy hyl hc hok hi (pg_own hok) (fun b=>pts_one (ht b)) he hsw hs
theorem ps_comp2I(x y:Str)(fs:List Nat)(hN:X.N.Nodup)(hy:X.N[i]?=some v)(hyl:X.env.kindOf v=some .local)(hc:X.calm=true)(hok:compOkB X.N X.env.scope scope [x,y] fs=true)(hi:PI X (.Tuple [.Name x px,.Name y py] n pt) iter wi)(ht:∀b,PT (X.blk scope ([x,y]++around X.N fs) b) c (tt b))(he:∀b,PE (X.blk scope ([x,y]++around X.N fs) b) elt (te b))
 (hsw:swapsWith (.ListComp elt [⟨.Tuple [.Name x px,.Name y py] n pt,iter,[c],0⟩] scope pos) (some (.Name v pv')) spos.line X.env=pure true:=by rfl)
 (hs:∀x,foldedSetIterable iter X.env x=pure x:=by intro _;rfl):PS X (.Assign [.Name v pv'] (.ListComp elt [⟨.Tuple [.Name x px,.Name y py] n pt,iter,[c],0⟩] scope pos) spos) (tAsg (tComp2 X.K wi fs tt te) (gName i)):=
 ps_comp (xs:=[x,y]) (g:=g2 X.K) (tt:=tt) hN hy hyl hc hok hi (pg_own2 hc hok) (fun b=>pts_one (ht b)) he hsw hs
end
end L2
namespace L2
open N1 N5
theorem eqV_self{x:V}(h:flatV x=true):eqV x x=true:=by
 cases x with
 | non=>rfl
 | bl b=>cases b <;> rfl
 | int i=>exact beq_self_eq_true i
 | str z=>rw [eqV_str];simp
 | _=>cases h
theorem flatEq_self:∀{xs:List V},xs.all flatV=true→flatEq xs xs=true
 | [],_=>rfl
 | x::xs,h=>by
  rw [List.all_cons,Bool.and_eq_true]at h
  show (eqV x x && flatEq xs xs)=true
  rw [eqV_self h.1,flatEq_self h.2];rfl
end L2
namespace L2
section
variable {K:PySem.W.Frag} {tail:St} {te:Blk→TE} {Q:VK} {H1:Hp} {σ:St} {H:Hp}
theorem rd_cat{x y:V}:rCat x y H Q=∃l b xs zs,x= .ref l∧y= .ref b∧H l=some (.lst xs)∧H b=some (.lst zs)∧xs.length+zs.length≤sizeLine∧∀p,H p=none→Q (.ref p) (upd H p (.lst (xs++zs))):=rfl
end
end L2
namespace N12
open L2 N1 N5 N4 N6
noncomputable def rmOf(ts:List Th)(z:Str):Int:=match ts.find? (fun t=>decide (t.1=z)) with
 | some t=>t.2.2
 | none=>0
theorem rmOf_is{ts:List Th}(nd:(ts.map (·.1)).Nodup){t:Th}(h:t∈ts):rmOf ts t.1=t.2.2:=by
 unfold rmOf
 induction ts with
 | nil=>cases h
 | cons a ts ih=>
  rw [List.map_cons,List.nodup_cons]at nd
  by_cases e:a.1=t.1
  · rw [List.find?_cons_of_pos (by simpa using e)]
    rcases List.mem_cons.mp h with rfl | h'
    · rfl
    · exact absurd (List.mem_map.mpr ⟨t,h',e.symm⟩) nd.1
  · rw [List.find?_cons_of_neg (by simpa using e)]
    rcases List.mem_cons.mp h with rfl | h'
    · exact absurd rfl e
    · exact ih nd.2 h'
theorem rm_some{ts:List Th}{z:Str}(h:z∈ts.map (·.1)):valV (ts.map fun t=>((Sum.inr t.1:Key),V.int t.2.2)) (Sum.inr z)=some (.int (rmOf ts z)):=by
 unfold rmOf
 induction ts with
 | nil=>cases h
 | cons a ts ih=>
  by_cases e:a.1=z
  · subst e
    rw [List.find?_cons_of_pos (by simp)]
    simp [valV]
  · rw [List.find?_cons_of_neg (by simpa using e)]
    have h2:=ih ((List.mem_cons.mp (by rw [List.map_cons]at h;exact h)).resolve_left fun z=>e z.symm)
    rw [← h2]
    simp [valV,e]
theorem rm_is{ts:List Th}{z:Str}:(valV (ts.map fun t=>((Sum.inr t.1:Key),V.int t.2.2)) (Sum.inr z)).isSome=decide (z∈ts.map (·.1)):=key_mem (by rw [List.map_map,List.map_map];rfl)
end N12
namespace L2
open PySem.W
noncomputable def rSumL(K:PySem.W.Frag):List V→Hp→VK→Prop:=fun xs H Q=>∃(p:Addr) (is:List Int),xs=[.ref p]∧SqL K H p (is.map V.int)∧Q (.int is.sum) H
noncomputable def rGetL(K:PySem.W.Frag):V→V→Hp→VK→Prop:=fun o i H Q=>∃(p:Addr) (xs:List V) (k:Nat) (v:V),o= .ref p∧i= .int k∧SqL K H p xs∧xs[k]?=some v∧Q v H
theorem preSum_is(is:List Int):preSum (fun i=>is.getD i 0) is.length=is.sum:=by
 have key:∀n,n≤is.length→preSum (fun i=>is.getD i 0) n=(is.take n).sum:=by
  intro n
  induction n with
  | zero=>intro _;rfl
  | succ n ih=>
   intro h
   have e:is.take (n+1)=is.take n++[is.getD n 0]:=by
    rw [List.take_add_one,List.getD_eq_getElem?_getD,List.getElem?_eq_getElem (by omega)]
    rfl
   rw [preSum,ih (by omega),e,List.sum_append]
   simp
 have:=key is.length (Nat.le_refl _)
 rwa [List.take_length]at this
section
variable {X:Cx}
theorem call_sumL(hc:X.calm=true):CallR X (.builtin "sum") (rSumL X.K):=by
 intro pins s σ H xs us Q I r h
 obtain ⟨p,is,rfl,hp,q⟩:=h
 obtain ⟨u,rfl,ru⟩:=vals1 r
 cases ru
 obtain ⟨its,r,pl,hz⟩:=I.list hp
 have hlt:p < s.heap.objs.size:=by obtain ⟨o,n,e,_⟩:=pl;exact Heap.lt_size e
 have hlen:=r.length
 rw [List.length_map]at hlen
 refine call_sum_walkAnyS (wpAny_pyIter_list pl.isList ⟨s.heap.objs.size,_,_,_,_,_,_,fun i=>is.getD i 0,rfl,(Walks.list (show X.A.in1.handled=none from I.ok.hd hc) s.heap.objs.size p (Nat.ne_of_lt hlt) its.toArray).toS,⟨⟨_,Heap.get?_push_size _ rfl,rfl,rfl⟩,pl.isList.push _⟩,fun b hb=>?_,fun i v hP=>?_,fun s' t' hmv=>?_⟩)
 · show b < (s.heap.push _).objs.size
   rw [Heap.size_push]
   rcases List.mem_cons.mp hb with e | hb
   · rw [e];exact Nat.lt_succ_self _
   · rw [List.mem_singleton.mp hb];exact Nat.lt_succ_of_lt hlt
 · have hP:its.toArray[i]?=some v:=hP
   have hi:i < is.length:=by
    have:=(Array.getElem?_eq_some_iff.mp hP).1
    rw [List.size_toArray]at this
    omega
   obtain ⟨u,hu,ru⟩:=r.get (i:=i) (x:=V.int (is[i])) (by simp [hi])
   have e:u=v:=by
    have:its[i]?=some v:=by simpa using hP
    rw [hu]at this;exact Option.some.inj this
   subst e
   show ∃t,u=Value.int (is.getD i 0) t
   rw [List.getD_eq_getElem?_getD,List.getElem?_eq_getElem hi]
   exact ru
 · have hk:∀b o,s.heap.get? b=some o→s'.heap.get? b=some o:=fun b o e=>
    hmv.heap b o (fun hI=>absurd (Heap.lt_size e) (by rw [List.mem_singleton.mp hI];exact Nat.lt_irrefl _)) (Heap.get?_push_of_some _ e)
   rw [Moved.eq_with hmv]
   refine ⟨.int is.sum,H,I.kept (t':=s'.toks) hk,⟨t',?_⟩,q⟩
   rw [List.size_toArray,← hlen,preSum_is]
theorem get_list:PGet X (rGetL X.K):=by
 intro pins s σ H o i ov iv Q I ro ri h
 obtain ⟨p,xs,k,v,rfl,rfl,hq,he,q⟩:=h
 cases ro
 obtain ⟨t,rfl⟩:=ri
 obtain ⟨its,r,pl,hz⟩:=I.list hq
 obtain ⟨w,ew,rw'⟩:=r.get he
 have hl:=r.length
 have hn:=line63
 have hk:=(List.getElem?_eq_some_iff.mp he).1
 exact wpAny_getItem_list pl.isList (by omega) (by omega) (by simpa using ew) ⟨v,H,I,rw',q⟩
end
section
variable {σ:St} {H:Hp} {Q:VK} {D:Ends} {K:PySem.W.Frag} {xs:List V} {x y:V}
theorem rd_sumL:rSumL K xs H Q=∃(p:Addr) (is:List Int),xs=[.ref p]∧SqL K H p (is.map V.int)∧Q (.int is.sum) H:=rfl
theorem rd_getL:rGetL K x y H Q=∃(p:Addr) (xs:List V) (k:Nat) (v:V),x= .ref p∧y= .int k∧SqL K H p xs∧xs[k]?=some v∧Q v H:=rfl
theorem rd_augS{to ti te:TE}{tget:V→V→Hp→VK→Prop}{tip:TIp}{tset:TSet}:tAugS to ti te tget tip tset D σ H=to σ H fun o H1=>ti σ H1 fun i H2=>tget o i H2 fun x H3=>te σ H3 fun y H4=>tip x y H4 fun z H5=>tset o i z H5 fun H6=>D.nx σ H6:=rfl
theorem rd_ipI{f:Int→Int→Int}:ipI f x y H Q=∃i j,x= .int i∧y= .int j∧Q (.int (f i j)) H:=rfl
theorem rd_rep:rRep x y H Q=∃l k xs,x= .ref l∧y= .int k∧H l=some (.lst xs)∧-(2 ^ 63)≤k∧k < 2 ^ 63∧xs.length * k.toNat≤sizeLine∧
 ∀p,H p=none→Q (.ref p) (upd H p (.lst (List.replicate k.toNat xs).flatten)):=rfl
end
end L2
namespace N31
open L2 N1 N5
noncomputable def fldN(l:Addr):List (Str×V):=putF "numbers" (.ref l) []
theorem fldN_is{l:Addr}:(fldN l).lookup ("numbers":Str)=some (V.ref l):=by
 unfold fldN
 rw [lookup_putF,if_pos rfl]
structure SumsAt(C:Addr)(H:Hp)(p l:Addr)(is:List Int):Prop where
 o:∃dx,H p=some (.ins C dx (fldN l))
 l:H l=some (.lst (is.map V.int))
theorem SumsAt.same{C:Addr}{H H':Hp}{p l:Addr}{is:List Int}(s:Same H H')(h:SumsAt C H p l is):SumsAt C H' p l is:=
 ⟨h.o.imp fun dx e=>s _ _ e,s _ _ h.l⟩
theorem SumsAt.off{C:Addr}{H:Hp}{p l b:Addr}{is:List Int}{xs ys:List V}(h:SumsAt C H p l is)(hb:H b=some (.lst xs))(n:l≠b):SumsAt C (upd H b (.lst ys)) p l is:=by
 obtain ⟨⟨dx,e⟩,hl⟩:=h
 refine ⟨⟨dx,?_⟩,?_⟩
 · rw [upd_ne (ne_of e hb (by intro z;cases z))];exact e
 · rw [upd_ne n];exact hl
theorem SumsAt.put{C:Addr}{H:Hp}{p l:Addr}{is js:List Int}(h:SumsAt C H p l is):SumsAt C (upd H l (.lst (js.map V.int))) p l js:=by
 obtain ⟨⟨dx,e⟩,hl⟩:=h
 refine ⟨⟨dx,?_⟩,upd_same⟩
 rw [upd_ne (ne_of e hl (by intro z;cases z))];exact e
noncomputable def Off(K:PySem.W.Frag)(a:Addr)(xs:List V)(b:Addr):Prop:=∀(H2:Hp) (o:HO),SqL K H2 a xs→SqL K (upd H2 b o) a xs
theorem off_of{K:PySem.W.Frag}{H:Hp}{a b:Addr}{xs:List V}(h:SqL K H a xs)(hb:H b=none):Off K a xs b:=by
 intro H2 o h2
 have key:a≠b→SqL K (upd H2 b o) a xs:=fun n=>by
  rcases h2 with (h2 | ⟨o2,h2⟩) | h2
  · exact .inl (.inl (by rw [upd_ne n];exact h2))
  · exact .inl (.inr ⟨o2,by rw [upd_ne n];exact h2⟩)
  · exact .inr h2
 rcases h with (h | ⟨o',h⟩) | h
 · exact key (ne_of_none h hb)
 · exact key (ne_of_none h hb)
 · exact .inr h
theorem made_none{C:Addr}{H:Hp}{p d l:Addr}(hp:H p=none)(hd:H d=none)(h:upd (upd H d (.own p)) p (.ins C d []) l=none):H l=none:=by
 cases e:H l with
 | none=>rfl
 | some o=>rw [upd_ne (ne_of_none e hp),upd_ne (ne_of_none e hd),e]at h;cases h
theorem cut_ints(is:List Int)(m:Nat)(h:m≤is.length):cutV (is.map V.int) none (some (m:Int))=(is.take m).map V.int:=by
 unfold cutV
 rw [← List.map_drop,← List.map_take,List.length_map]
 congr 1
 unfold HT.sIx
 simp only [Option.getD_none,Option.getD_some]
 first
  | (rw [if_neg (show ¬((m:Int) < 0) by omega)];simp;omega)
  | (rw [if_neg (show ¬((m:Int) < 0) by omega)];simp [Nat.min_eq_left h])
theorem ixN_nat{n k:Nat}(h:k < n):ixN n (k:Int)=some k:=by
 unfold ixN
 rw [if_pos (by omega),if_pos (by omega)]
 simp
theorem map_set(is:List Int)(k:Nat)(v:Int):(is.map V.int).set k (V.int v)=(is.set k v).map V.int:=by
 rw [List.map_set]
end N31
namespace N32
open L2 N1 N5 N31
noncomputable def lastIx(ys:List Str)(z:Str):Nat→Option Nat
 | 0=>none
 | n+1=>if ys.getD n Str.empty=z then some n else lastIx ys z n
theorem last_lt{ys:List Str}{z:Str}:∀{n j:Nat},lastIx ys z n=some j→j < n∧ys.getD j Str.empty=z
 | 0,j,h=>by cases h
 | n+1,j,h=>by
  unfold lastIx at h
  split at h
  · rename_i e
    cases h
    exact ⟨Nat.lt_succ_self _,e⟩
  · have:=last_lt h
    exact ⟨by omega,this.2⟩
noncomputable def ear(ys:List Str)(i:Nat):Option Nat:=lastIx ys (ys.getD i Str.empty) i
noncomputable def W(R:Str→Int)(ys:List Str)(n j:Nat):Int:=if lastIx ys (ys.getD j Str.empty) n=some j then R (ys.getD j Str.empty) else 0
noncomputable def nums(R:Str→Int)(ys:List Str)(n:Nat):List Int:=(List.range ys.length).map (W R ys n)
theorem nums_len{R:Str→Int}{ys:List Str}{n:Nat}:(nums R ys n).length=ys.length:=by simp [nums]
theorem nums_get{R:Str→Int}{ys:List Str}{n j:Nat}(h:j < ys.length):(nums R ys n).getD j 0=W R ys n j:=by
 unfold nums
 rw [List.getD_eq_getElem?_getD,List.getElem?_map,List.getElem?_range h];rfl
theorem list_ext{xs ys:List Int}(hl:xs.length=ys.length)(h:∀j,j < xs.length→xs.getD j 0=ys.getD j 0):xs=ys:=by
 refine List.ext_getElem hl fun j h1 h2=>?_
 have:=h j h1
 rw [List.getD_eq_getElem?_getD,List.getElem?_eq_getElem h1,List.getD_eq_getElem?_getD,List.getElem?_eq_getElem h2]at this
 exact this
theorem getD_set{xs:List Int}{i j:Nat}{v:Int}(hi:i < xs.length):(xs.set i v).getD j 0=if j=i then v else xs.getD j 0:=by
 rw [List.getD_eq_getElem?_getD,List.getElem?_set]
 by_cases h:i=j
 · subst h;simp [hi]
 · rw [if_neg h,if_neg (Ne.symm h),List.getD_eq_getElem?_getD]
theorem W_self{R:Str→Int}{ys:List Str}{n:Nat}:W R ys n n=0:=by
 unfold W
 rw [if_neg]
 intro h
 exact absurd (last_lt h).1 (Nat.lt_irrefl _)
theorem W_other{R:Str→Int}{ys:List Str}{n j:Nat}(h:ys.getD j Str.empty≠ys.getD n Str.empty):W R ys (n+1) j=W R ys n j:=by
 unfold W
 rw [show lastIx ys (ys.getD j Str.empty) (n+1)=lastIx ys (ys.getD j Str.empty) n from if_neg (Ne.symm h)]
theorem W_new{R:Str→Int}{ys:List Str}{n:Nat}:W R ys (n+1) n=R (ys.getD n Str.empty):=by
 unfold W
 rw [if_pos]
 exact if_pos rfl
theorem W_old{R:Str→Int}{ys:List Str}{n j:Nat}(h:ys.getD j Str.empty=ys.getD n Str.empty)(hj:j≠n):W R ys (n+1) j=0:=by
 unfold W
 rw [h,if_neg]
 intro e
 rw [show lastIx ys (ys.getD n Str.empty) (n+1)=some n from if_pos rfl]at e
 cases e
 exact hj rfl
theorem nums_first{R:Str→Int}{ys:List Str}{n:Nat}(hn:n < ys.length)(h:ear ys n=none):(nums R ys n).set n ((nums R ys n).getD n 0+R (ys.getD n Str.empty))=nums R ys (n+1):=by
 refine list_ext (by rw [List.length_set,nums_len,nums_len]) fun j hj=>?_
 rw [List.length_set,nums_len]at hj
 rw [getD_set (by rw [nums_len];exact hn),nums_get hn,nums_get hj,nums_get hj,W_self]
 by_cases e:j=n
 · subst e;rw [if_pos rfl,W_new];omega
 · rw [if_neg e]
   by_cases ey:ys.getD j Str.empty=ys.getD n Str.empty
   · rw [W_old ey e]
     unfold W
     rw [if_neg]
     intro z
     rw [ey]at z
     unfold ear at h
     rw [h]at z;cases z
   · rw [W_other ey]
theorem nums_again{R:Str→Int}{ys:List Str}{n b:Nat}(hn:n < ys.length)(h:ear ys n=some b):
 ((nums R ys n).set b ((nums R ys n).getD b 0+(0 - R (ys.getD n Str.empty)))).set n (((nums R ys n).set b ((nums R ys n).getD b 0+(0 - R (ys.getD n Str.empty)))).getD n 0+R (ys.getD n Str.empty))=nums R ys (n+1):=by
 obtain ⟨h1,h2⟩:=last_lt h
 have hb:b < ys.length:=by omega
 refine list_ext (by rw [List.length_set,List.length_set,nums_len,nums_len]) fun j hj=>?_
 rw [List.length_set,List.length_set,nums_len]at hj
 rw [getD_set (by rw [List.length_set,nums_len];exact hn),getD_set (by rw [nums_len];exact hb),getD_set (by rw [nums_len];exact hb),nums_get hn,nums_get hj,nums_get hj,nums_get hb,W_self,if_neg (show ¬n=b by omega)]
 by_cases e:j=n
 · subst e;rw [if_pos rfl,W_new];omega
 · rw [if_neg e]
   by_cases ey:ys.getD j Str.empty=ys.getD n Str.empty
   · rw [W_old ey e]
     by_cases eb:j=b
     · subst eb
       rw [if_pos rfl]
       unfold W
       unfold ear at h
       rw [h2,if_pos h];omega
     · rw [if_neg eb]
       unfold W
       rw [if_neg]
       intro z
       rw [ey]at z
       unfold ear at h
       rw [h]at z
       cases z
       exact eb rfl
   · rw [W_other ey,if_neg (fun z=>ey (by rw [z];exact h2))]
noncomputable def tl(f:Nat→Int)(b n:Nat):Int:=((List.range' b (n - b)).map f).sum
theorem tl_end{f:Nat→Int}{n:Nat}:tl f n n=0:=by unfold tl;rw [Nat.sub_self];rfl
theorem sum_diff{f:Nat→Int}{n:Nat}:∀{b:Nat},b≤n→((List.range n).map f).sum - ((List.range b).map f).sum=tl f b n:=by
 intro b hb
 induction n with
 | zero=>
  have e:b=0:=by omega
  subst e;rfl
 | succ n ih=>
  by_cases e:b=n+1
  · subst e;rw [tl_end];omega
  · have ih:=ih (by omega)
    rw [List.range_succ,List.map_append,List.sum_append]
    have e2:tl f b (n+1)=tl f b n+f n:=by
     unfold tl
     rw [show n+1 - b=(n - b)+1 by omega,List.range'_concat,List.map_append,List.sum_append]
     simp
     rw [show b+(n - b)=n by omega]
    rw [e2,← ih]
    simp;omega
theorem upto_nums{R:Str→Int}{ys:List Str}{n k:Nat}(h:k≤ys.length):((nums R ys n).take k)=(List.range k).map (W R ys n):=by
 unfold nums
 rw [← List.map_take,List.take_range,Nat.min_eq_left h]
noncomputable def dep(R:Str→Int)(ys:List Str)(n:Nat):Option Int:=(ear ys n).map fun b=>tl (W R ys n) b n
noncomputable def optV:Option Int→V
 | none=> .non
 | some i=> .int i
noncomputable def earV(ys:List Str)(i:Nat):V:=optV ((ear ys i).map fun j=>(j:Int))
noncomputable def depsV(R:Str→Int)(ys:List Str):List V:=(List.range ys.length).map fun i=>optV (dep R ys i)
end N32
namespace N32
open L2 N1 N5 N31 N4
noncomputable def rm(ts:List Th)(z:Str):Int:=((ts.find? fun t=>decide (t.1=z)).map (·.2.2)).getD 0
theorem rm_at{ts:List Th}(nd:(ts.map (·.1)).Nodup){i:Nat}{t:Th}(h:ts[i]?=some t):rm ts t.1=t.2.2:=by
 induction ts generalizing i with
 | nil=>simp at h
 | cons u r ih=>
  rw [List.map_cons,List.nodup_cons]at nd
  cases i with
  | zero=>
   rw [List.getElem?_cons_zero]at h
   cases h
   simp [rm]
  | succ i=>
   rw [List.getElem?_cons_succ]at h
   have ne:¬u.1=t.1:=fun e=>nd.1 (by rw [e];exact List.mem_map.mpr ⟨t,List.mem_of_getElem? h,rfl⟩)
   have:=ih nd.2 h
   unfold rm at this ⊢
   rw [List.find?_cons_of_neg (by simpa using ne)]
   exact this
theorem none_of{H H':Hp}{D:Addr}(s:Same H H')(h:H' D=none):H D=none:=by
 cases e:H D with
 | none=>rfl
 | some o=>rw [s _ _ e]at h;cases h
theorem same_upd{H H':Hp}{p:Addr}{o:HO}(s:Same H H')(h:H p=none):Same H (upd H' p o):=fun b u e=>by
 rw [upd_ne (ne_of_none e h)];exact s b u e
noncomputable def sp32_check:Sp:=fun vs H Q _=>∃(i:Int),vs=[.int i]∧1≤i∧i≤1000000∧Q .non H
noncomputable def sp32_thing(K:PySem.W.Frag)(C:Addr):Sp:=fun vs H Q _=>∃(p:Addr) (ts:List Th) (z:Str),vs=[.ref p,.str z]∧StockAt K C H p ts∧(ts.map (·.1)).Nodup∧z∈ts.map (·.1)∧∀(i:Nat) (t:Th),ts[i]?=some t→t.1=z→∀a,SqT K H a [.int i,.int t.2.1,.int t.2.2]→Q (.ref a) H
noncomputable def sp32_room(K:PySem.W.Frag)(C:Addr):Sp:=fun vs H Q _=>∃(p:Addr) (ts:List Th) (z:Str),vs=[.ref p,.str z]∧StockAt K C H p ts∧(ts.map (·.1)).Nodup∧z∈ts.map (·.1)∧Q (.int (rm ts z)) H
noncomputable def sp32_early(K:PySem.W.Frag):Sp:=fun vs H Q _=>∃(a:Addr) (ys:List Str),vs=[.ref a]∧SqL K H a (ys.map V.str)∧ys.length≤200∧∀p H',H p=none→Same H H'→H' p=some (.lst ((List.range ys.length).map (earV ys)))→Q (.ref p) H'
noncomputable def sp32_init(C:Addr):Sp:=fun vs H Q _=>∃(p dx:Addr) (n:Nat),vs=[.ref p,.int n]∧H p=some (.ins C dx [])∧n≤200∧∀l H',H l=none→SameBut p H H'→SumsAt C H' p l (List.replicate n 0)→Q .non H'
noncomputable def sp32_add(C:Addr):Sp:=fun vs H Q _=>∃(p l:Addr) (k:Nat) (b:Int) (is:List Int),vs=[.ref p,.int k,.int b]∧SumsAt C H p l is∧is.length≤200∧k < is.length∧Q .non (upd H l (.lst ((is.set k (is.getD k 0+b)).map V.int)))
noncomputable def sp32_upto(C:Addr):Sp:=fun vs H Q _=>∃(p l:Addr) (k:Nat) (is:List Int),vs=[.ref p,.int k]∧SumsAt C H p l is∧is.length≤200∧k≤is.length∧∀H',Same H H'→Q (.int (is.take k).sum) H'
section
variable {K:PySem.W.Frag} {σ:L2.St} {H:Hp} {Q:VK}
theorem rd_dget1{td ty:TE}:tDGet1 td ty σ H Q=td σ H fun x H1=>∃a,x= .ref a∧IsD H1 a∧ty σ H1 fun y H2=>∃o,DGet H2 a y o∧Q (o.getD .non) H2:=rfl
end
end N32
namespace N32
open L2 N1 N5 N31 N4
theorem SqT.offL{K:PySem.W.Frag}{H:Hp}{a l:Addr}{xs zs:List V}{o:HO}(hl:H l=some (.lst zs))(h:SqT K H a xs):SqT K (upd H l o) a xs:=by
 rcases h with (h | ⟨o',h⟩) | h
 · exact .inl (.inl (by rw [upd_ne (ne_of h hl (by intro z;cases z))];exact h))
 · exact .inl (.inr ⟨o',by rw [upd_ne (ne_of h hl (by intro z;cases z))];exact h⟩)
 · exact .inr h
theorem StockAt.offL{K:PySem.W.Frag}{C:Addr}{H:Hp}{p l:Addr}{ts:List Th}{zs:List V}{o:HO}(hl:H l=some (.lst zs))(h:StockAt K C H p ts):StockAt K C (upd H l o) p ts:=by
 obtain ⟨dx,d,kvs,h1,h2,h3,h4⟩:=h.ex
 refine ⟨dx,d,kvs,by rw [upd_ne (ne_of h1 hl (by intro z;cases z))];exact h1,by rw [upd_ne (ne_of h2 hl (by intro z;cases z))];exact h2,h3,fun i t e=>?_⟩
 obtain ⟨a,e1,e2⟩:=h4 i t e
 exact ⟨a,e1,SqT.offL hl e2⟩
theorem ear_val{ys:List Str}{i:Nat}:((lastIx ys (ys.getD i Str.empty) i).map fun j=>V.int (j:Int)).getD .non=earV ys i:=by
 unfold earV ear
 cases lastIx ys (ys.getD i Str.empty) i <;> rfl
theorem last_put{ys:List Str}{kvs:List (Key×V)}{i:Nat}(h:∀z,valV kvs (Sum.inr z)=(lastIx ys z i).map fun j=>V.int (j:Int))(z:Str):valV (putK kvs (Sum.inr (ys.getD i Str.empty)) (V.int (i:Int))) (Sum.inr z)=(lastIx ys z (i+1)).map fun j=>V.int (j:Int):=by
 rw [valV_put]
 by_cases e:ys.getD i Str.empty=z
 · rw [if_pos (by rw [e]),show lastIx ys z (i+1)=some i from if_pos e];rfl
 · rw [if_neg (fun h=>e (by injection h with h;exact h.symm)),show lastIx ys z (i+1)=lastIx ys z i from if_neg e];exact h z
end N32
namespace N32
open L2 N1 N5 N31 N4
theorem nums_zero{R:Str→Int}{ys:List Str}:nums R ys 0=List.replicate ys.length 0:=by
 unfold nums
 have e:W R ys 0=fun _=>0:=by
  funext j
  unfold W
  rw [if_neg (by intro h;cases h)]
 rw [e,List.map_const',List.length_range]
theorem sums_dep{R:Str→Int}{ys:List Str}{i b:Nat}(hi:i < ys.length)(h:ear ys i=some b):((nums R ys i).take i).sum - ((nums R ys i).take b).sum=tl (W R ys i) b i∧dep R ys i=some (tl (W R ys i) b i):=by
 have hb:=(last_lt h).1
 refine ⟨?_,by unfold dep;rw [h];rfl⟩
 rw [upto_nums (by omega),upto_nums (by omega)]
 exact sum_diff (by omega)
theorem nd_getD{ys:List Str}(nd:ys.Nodup){i j:Nat}(hi:i < ys.length)(hj:j < ys.length)(h:ys.getD i Str.empty=ys.getD j Str.empty):i=j:=by
 rw [List.getD_eq_getElem?_getD,List.getElem?_eq_getElem hi,List.getD_eq_getElem?_getD,List.getElem?_eq_getElem hj]at h
 exact (List.getElem_inj nd).mp h
theorem cut_tail(ws:List Str):cutV (ws.map V.str) (some 1) none=(ws.drop 1).map V.str:=by
 unfold cutV
 rw [show (some (1:Int))=some ((1:Nat):Int) from rfl,HT.sIx_nat,HT.sIx_none,List.length_map,← List.map_drop,← List.map_take]
 congr 1
 by_cases h:1≤ws.length
 · rw [Nat.min_eq_left h]
   exact List.take_of_length_le (by rw [List.length_drop];omega)
 · have e:ws=[]:=List.length_eq_zero_iff.mp (by omega)
   subst e;rfl
end N32
open L2 N1 N5 N31 N4 N32
namespace N41
noncomputable def seg(T:List Int)(a b:Nat):Int:=((T.take b).drop a).sum
noncomputable def leastAt(c r:Str→Int)(T:List Int)(S:Int)(ys:List Str)(n:Nat):Int:=
 match ear ys n with
 | none=>c (ys.getD n Str.empty) * S
 | some e=>min (c (ys.getD n Str.empty) * S) (r (ys.getD n Str.empty) * seg T (e+1) n)
noncomputable def sm(f:Str→Int)(L:List Str):Int:=(L.map f).sum
end N41
namespace N41
noncomputable def cst(ts:List Th)(z:Str):Int:=((ts.find? fun t=>decide (t.1=z)).map (·.2.1)).getD 0
theorem cst_at{ts:List Th}(nd:(ts.map (·.1)).Nodup){i:Nat}{t:Th}(h:ts[i]?=some t):cst ts t.1=t.2.1:=by
 induction ts generalizing i with
 | nil=>simp at h
 | cons u r ih=>
  rw [List.map_cons,List.nodup_cons]at nd
  cases i with
  | zero=>
   rw [List.getElem?_cons_zero]at h
   cases h
   simp [cst]
  | succ i=>
   rw [List.getElem?_cons_succ]at h
   have ne:¬u.1=t.1:=fun e=>nd.1 (by rw [e];exact List.mem_map.mpr ⟨t,List.mem_of_getElem? h,rfl⟩)
   have:=ih nd.2 h
   unfold cst at this ⊢
   rw [List.find?_cons_of_neg (by simpa using ne)]
   exact this
noncomputable def sp41_asks(K:PySem.W.Frag)(C:Addr):Sp:=fun vs H Q _=>∃(p a:Addr) (pl:Int) (ts:List Th) (ys:List Str),vs=[.ref p,.ref a,.int pl]∧StockAt K C H p ts∧(ts.map (·.1)).Nodup∧SqL K H a (ys.map V.str)∧ys.length≤200∧(∀y∈ys,y∈ts.map (·.1))∧(∀y∈ys,rm ts y≤pl)∧1≤pl∧pl≤1000000∧∀H',Same H H'→Q (.bl true) H'
noncomputable def sp41_cost(K:PySem.W.Frag)(C:Addr):Sp:=fun vs H Q _=>∃(p:Addr) (ts:List Th) (z:Str),vs=[.ref p,.str z]∧StockAt K C H p ts∧(ts.map (·.1)).Nodup∧z∈ts.map (·.1)∧Q (.int (cst ts z)) H
end N41
namespace L2
open PySem.W
noncomputable def rMaxL(K:PySem.W.Frag):List V→Hp→VK→Prop:=fun xs H Q=>∃(p:Addr) (is:List Int),xs=[.ref p]∧SqL K H p (is.map V.int)∧is≠[]∧∀v∈is,(∀x∈is,x≤v)→Q (.int v) H
theorem best_gt(val:Nat→Int):∀k,argBest (fun i j=>decide (val i > val j)) k≤k∧∀j,j≤k→val j≤val (argBest (fun i j=>decide (val i > val j)) k):=by
 intro k
 induction k with
 | zero=>exact ⟨Nat.le_refl _,fun j hj=>by rw [Nat.le_zero.mp hj];exact Int.le_refl _⟩
 | succ k ih=>
  unfold argBest
  split
  · rename_i h
    have h:=of_decide_eq_true h
    refine ⟨Nat.le_refl _,fun j hj=>?_⟩
    by_cases e:j=k+1
    · rw [e];exact Int.le_refl _
    · have:=ih.2 j (by omega);omega
  · rename_i h
    have h:¬(val (k+1) > _):=fun z=>h (decide_eq_true z)
    refine ⟨Nat.le_succ_of_le ih.1,fun j hj=>?_⟩
    by_cases e:j=k+1
    · rw [e];omega
    · exact ih.2 j (by omega)
theorem best_lt(val:Nat→Int):∀k,argBest (fun i j=>decide (val i < val j)) k≤k∧∀j,j≤k→val (argBest (fun i j=>decide (val i < val j)) k)≤val j:=by
 intro k
 induction k with
 | zero=>exact ⟨Nat.le_refl _,fun j hj=>by rw [Nat.le_zero.mp hj];exact Int.le_refl _⟩
 | succ k ih=>
  unfold argBest
  split
  · rename_i h
    have h:=of_decide_eq_true h
    refine ⟨Nat.le_refl _,fun j hj=>?_⟩
    by_cases e:j=k+1
    · rw [e];exact Int.le_refl _
    · have:=ih.2 j (by omega);omega
  · rename_i h
    have h:¬(val (k+1) < _):=fun z=>h (decide_eq_true z)
    refine ⟨Nat.le_succ_of_le ih.1,fun j hj=>?_⟩
    by_cases e:j=k+1
    · rw [e];omega
    · exact ih.2 j (by omega)
section
variable {X:Cx}
theorem ints_at{is:List Int}{its:List Value}(r:Vals (is.map V.int) its){i:Nat}{v:Value}(hP:its.toArray[i]?=some v):i < is.length∧∃t,v=Value.int (is.getD i 0) t:=by
 have hlen:=r.length
 rw [List.length_map]at hlen
 have hi:i < is.length:=by
  have:=(Array.getElem?_eq_some_iff.mp hP).1
  rw [List.size_toArray]at this
  omega
 obtain ⟨u,hu,ru⟩:=r.get (i:=i) (x:=V.int (is[i])) (by simp [hi])
 have e:u=v:=by
  have:its[i]?=some v:=by simpa using hP
  rw [hu]at this;exact Option.some.inj this
 subst e
 refine ⟨hi,?_⟩
 rw [List.getD_eq_getElem?_getD,List.getElem?_eq_getElem hi]
 exact ru
theorem call_maxL(hc:X.calm=true):CallR X (.builtin "max") (rMaxL X.K):=by
 intro pins s σ H xs us Q I r h
 obtain ⟨p,is,rfl,hp,hne,q⟩:=h
 obtain ⟨u,rfl,ru⟩:=vals1 r
 cases ru
 obtain ⟨its,r,pl,hz⟩:=I.list hp
 have hlt:p < s.heap.objs.size:=by obtain ⟨o,n,e,_⟩:=pl;exact Heap.lt_size e
 have hlen:=r.length
 rw [List.length_map]at hlen
 have hpos:0 < is.length:=List.length_pos_iff.mpr hne
 have hb:=best_gt (fun i=>is.getD i 0) (is.length - 1)
 refine call_max_walkS (wpAny_pyIter_list pl.isList ⟨s.heap.objs.size,_,_,_,_,_,_,fun i j=>decide (is.getD i 0 > is.getD j 0),rfl,(Walks.list (show X.A.in1.handled=none from I.ok.hd hc) s.heap.objs.size p (Nat.ne_of_lt hlt) its.toArray).toS,⟨⟨_,Heap.get?_push_size _ rfl,rfl,rfl⟩,pl.isList.push _⟩,fun b hb=>?_,by rw [List.size_toArray];omega,CmpOf.ints_gt (fun i=>is.getD i 0) (fun i v hP=>(ints_at r hP).2),fun v s' hP hmv=>?_⟩)
 · show b < (s.heap.push _).objs.size
   rw [Heap.size_push]
   rcases List.mem_cons.mp hb with e | hb
   · rw [e];exact Nat.lt_succ_self _
   · rw [List.mem_singleton.mp hb];exact Nat.lt_succ_of_lt hlt
 · have hk:∀b o,s.heap.get? b=some o→s'.heap.get? b=some o:=fun b o e=>
    hmv.heap b o (fun hI=>absurd (Heap.lt_size e) (by rw [List.mem_singleton.mp hI];exact Nat.lt_irrefl _)) (Heap.get?_push_of_some _ e)
   rw [Moved.eq_with hmv]
   rw [List.size_toArray,← hlen]at hP
   obtain ⟨hi,t,rfl⟩:=ints_at r hP
   refine ⟨V.int _,H,I.kept (t':=s'.toks) hk,⟨t,rfl⟩,q _ ?_ fun x hx=>?_⟩
   · rw [List.getD_eq_getElem?_getD,List.getElem?_eq_getElem hi];exact List.getElem_mem hi
   · obtain ⟨j,hj⟩:=List.mem_iff_getElem?.mp hx
     have hjl:=(List.getElem?_eq_some_iff.mp hj).1
     have:=hb.2 j (by omega)
     rw [show is.getD j 0=x by rw [List.getD_eq_getElem?_getD,hj];rfl]at this
     exact this
end
section
variable {K:PySem.W.Frag} {H:Hp} {Q:VK} {xs:List V}
theorem rd_maxL:rMaxL K xs H Q=∃(p:Addr) (is:List Int),xs=[.ref p]∧SqL K H p (is.map V.int)∧is≠[]∧∀v∈is,(∀x∈is,x≤v)→Q (.int v) H:=rfl
end
end L2
namespace N14
open L2 N1 N5 N4 N6 N12 N32
noncomputable abbrev Row:=Str×Bool×List Str
theorem new_none{H:Hp}{x dx d:Addr}{o1 o2:HO}(h:upd (upd H dx o1) x o2 d=none):H d=none:=by
 by_cases e1:d=x
 · rw [e1,upd_same]at h;cases h
 rw [upd_ne e1]at h
 by_cases e2:d=dx
 · rw [e2,upd_same]at h;cases h
 rw [upd_ne e2]at h;exact h
theorem same_none{H H':Hp}{d:Addr}(s:Same H H')(h:H' d=none):H d=none:=by
 cases e:H d with
 | none=>rfl
 | some o=>rw [s _ _ e]at h;cases h
noncomputable def Kp(M:List Addr)(H H':Hp):Prop:=∀b o,b∉M→H b=some o→H' b=some o
theorem Kp.trans{M:List Addr}{H H1 H2:Hp}(h1:Kp M H H1)(h2:Kp M H1 H2):Kp M H H2:=fun b o n e=>h2 b o n (h1 b o n e)
theorem Kp.of{M:List Addr}{H H1:Hp}(h:Same H H1):Kp M H H1:=fun b o _ e=>h b o e
theorem Kp.upd{M:List Addr}{H H1:Hp}{p:Addr}{o:HO}(h:Kp M H H1)(hp:p∈M):Kp M H (upd H1 p o):=fun b u n e=>by
 have hb:b≠p:=fun e2=>n (by rw [e2];exact hp)
 rw [upd_ne hb];exact h b u n e
theorem Kp.same{M:List Addr}{H0 H H1:Hp}(s:Same H0 H)(h:Kp M H H1)(hn:∀p∈M,H0 p=none):Same H0 H1:=fun b o e=>h b o (fun hb=>by rw [hn b hb]at e;cases e) (s b o e)
end N14
namespace L2
structure DefB(P:Program)(w:World)(K:PySem.W.Frag)(mg:Str→Option Value)(base:Heap)(CX:CXT)(k:Nat)(x:Str)(C:Addr)(ps:List Str)(sp:Sp):Prop where
 ex:∃(f:Addr) (fd:FuncData),FnOk P w K mg base CX k f fd ps sp∧Mk K C f∧mg x=some (.ref C)∧Binds K fd ps []∧PySem.W.findCls K (.ref C) (.type "type") "__init__"=some (.val (.ref f))∧PySem.W.keepIn K (.ref f)=true
 sp:PySem.W.specialIn K (.ref C) "__getattribute__"=some (some (.builtin "type.__getattribute__"))
 rd:PySem.W.readsIn K C (.type "type")=true
theorem DefB.toI{P:Program}{w:World}{K:PySem.W.Frag}{mg:Str→Option Value}{base:Heap}{CX:CXT}{k:Nat}{x:Str}{C:Addr}{ps:List Str}{sp:Sp}(D:DefB P w K mg base CX k x C ps sp):DefI P w K mg base CX k x C ps sp:=
 let ⟨f,fd,a,b,c,d,_⟩:=D.ex;⟨f,fd,a,b,c,d⟩
noncomputable def tCallS(sp:Sp)(EE:St→XK)(t:TA):TE:=fun σ H Q=>t σ H fun vs H1=>sp vs H1 Q (EE σ)
section
variable {X:Cx} {CX:CXT} {k j:Nat} {C:Addr} {ps:List Str} {sp:Sp} {EE:St→XK} {x:Str} {pos apos:Pos} {e o:Expr} {es:List Expr} {t:TA}
theorem pe_initC{pl:Sem Bool}(D:DefB X.prog X.w X.K X.mg X.base CX j x C ps sp)(hr:Room k X.A)(hx:PassesS CX X EE)(he:PE X o (tC (.ref C)))(ha:PA X (e::es) t)(hj:j≤k:=by decide)
 (hst:starEach (e::es) X.env=(false,eval e X.env)::starEach es X.env:=by rfl) (hpl:(backTo pos (starEach es X.env)).any (·.1)=false:=by rfl)
 (ht:eval (.Call (.Attribute o "__init__" apos) (e::es) [] pos) X.env=(do
  let ov ← eval o X.env
  standAt apos.atName
  let (f,first) ← holding [ov] (getMethod ov "__init__" pl)
  callWith pos f first (backTo pos (starEach (e::es) X.env)) (backToKw pos (keywordEach [] X.env))):=by rfl):
 PE X (.Call (.Attribute o "__init__" apos) (e::es) [] pos) (tCallS sp EE t):=by
 obtain ⟨f,fd,F,M,hm,hb,hc,hk⟩:=D.ex
 intro pins s σ H Q I h
 refine PySem.W.methodCall_KW (pl:=pl) (thn (he pins s σ H (fun v H1=>v= .ref C∧t σ H1 fun vs H2=>sp vs H2 Q (EE σ)) I ⟨rfl,h⟩) fun u s1 hq_=>?_) ht
 obtain ⟨x,H1,I1,rx,q⟩:=hq_
 obtain ⟨rfl,q⟩:=q
 obtain rfl:u=Value.ref C:=rx
 refine PySem.W.method_cls I1.kIn D.sp (PySem.W.cls_value I1.kIn D.rd hc rfl ?_)
 have I2:=I1.tok (s1.toks+1)
 exact PySem.W.callWith_K (first:=[]) (h₀:=X.base) I.ok.mod.kin hk (thn (ha pos pins _ σ H1 _ I2 q) fun us s2 ⟨vs,H2,I3,r,q2⟩=>⟨I3.kIn,run_fnS (us:=us) (vs:=vs) (F.mono hj) hr hb hx I3 r q2⟩) hst hpl
theorem rd_callS{σ:St}{H:Hp}{Q:VK}:tCallS sp EE t σ H Q=t σ H fun vs H1=>sp vs H1 Q (EE σ):=rfl
end
end L2
namespace N20
open L2 N1 N5 N4 N6 N12 N32 N14
end N20
namespace N71
open L2 N1 N5 N4 N6 N12
structure TwA where
 st:Addr
 si:Addr
 ro:Addr
 he:Addr
 la:Addr
 so:Addr
 en:Addr
 fi:Addr
structure TwS where
 zs:List Int
 R:List Str
 kh:List (Key×V)
 kl:List (Key×V)
 ks:List (Key×V)
 es:List V
 ff:List Int
 pd:Int
end N71
namespace L2
section
variable {K:PySem.W.Frag} {σ:St} {H:Hp} {D:Ends} {Q:VK}
theorem rd_fldaug{ta tv:TE}{rd:V→V→Hp→VK→Prop}{f:Str}:sFldAug K ta tv rd f D σ H=ta σ H fun x H1=>∃a C dx fs v,x= .ref a∧H1 a=some (.ins C dx fs)∧Cls K C∧NoAttr K C f∧fs.lookup f=some v∧
 tv σ H1 fun y H2=>rd v y H2 fun z H3=>∃dx' fs',H3 a=some (.ins C dx' fs')∧fs'.length < 1000∧D.nx σ (upd H3 a (.ins C dx' (putF f z fs'))):=rfl
end
end L2
namespace L2
theorem inV_texts{z:Str}{ys:List Str}:inV (.str z) (ys.map V.str)=decide (z∈ys):=by
 unfold inV
 induction ys with
 | nil=>rfl
 | cons y ys ih=>
  rw [List.map_cons,List.any_cons,ih,eqV_str]
  by_cases h:y=z
  · subst h;simp
  · have h':¬z=y:=fun e=>h e.symm
    simp [h,h']
theorem inT_go{K:PySem.W.Frag}{H:Hp}{p:Addr}{z:Str}{ys:List Str}{Q:VK}(h:SqL K H p (ys.map V.str))(q:Q (.bl (decide (z∈ys))) H):rIn K false (.str z) (.ref p) H Q:=by
 refine ⟨p,_,rfl,.inl h,rfl,all_strs,?_⟩
 rw [if_neg (by decide),inV_texts]
 exact q
end L2
namespace N53
open L2 N1 N5
noncomputable def NumV(K:PySem.W.Frag)(H:Hp)(v:V):Prop:=∃b c,Isi K H v "int" b∧(b=true→Isi K H v "bool" c)∧((b && !c)=true→∃i,v= .int i)∧((b && !c)=false→∀i,v≠ .int i)
theorem NumV.flat{K:PySem.W.Frag}{H:Hp}{v:V}(h:flatV v=true):NumV K H v:=num_isi h
theorem wIn_one{lo hi:Int}{v:V}(h:wIn lo hi v=true):∃i:Int,v= .int i∧lo≤i∧i≤hi:=by
 cases v with
 | int i=>
  simp only [wIn,Bool.and_eq_true,decide_eq_true_eq]at h
  exact ⟨i,rfl,h.1,h.2⟩
 | _=>cases h
theorem wIn_is{lo hi i:Int}(h1:lo≤i)(h2:i≤hi):wIn lo hi (.int i)=true:=by
 simp only [wIn,Bool.and_eq_true,decide_eq_true_eq];exact ⟨h1,h2⟩
noncomputable def sp53_within(K:PySem.W.Frag):Sp:=fun vs H Q _=>∃(v:V) (lo hi:Int),vs=[v,.int lo,.int hi]∧NumV K H v∧Q (.bl (wIn lo hi v)) H
end N53
namespace N53
open L2 N1 N5
theorem put_both{kvs:List (Key×V)}{ks:List Str}{z:Str}{v:V}(h:kvs.map (·.1)=ks.map Sum.inr):(putK kvs (Sum.inr z) v).map (·.1)=(if z∈ks then ks else ks++[z]).map Sum.inr:=by
 have hm:=key_mem (z:=z) h
 by_cases hz:z∈ks
 · rw [if_pos hz,← h]
   unfold putK
   rw [valV_any,hm,decide_eq_true hz,if_pos rfl,List.map_map]
   refine List.map_congr_left fun e _=>?_
   show (if e.1=Sum.inr z then (e.1,v) else e).1=e.1
   split <;> rfl
 · rw [if_neg hz,putK_new v (by rw [decide_eq_false hz]at hm;simpa using hm),List.map_append,List.map_append,h]
   rfl
end N53
namespace N18
open L2 N1 N5 N4 N6 N12 N32 N14
end N18
namespace N25
open L2 N1 N5 N4 N6 N12 N32 N14 N20
noncomputable def hfl(p od md:Addr)(n:Int):List (Str×V):=putF "marked" (.ref md) (putF "order" (.ref od) (putF "places" (.int n) (putF "stock" (.ref p) [])))
theorem hfl_stock{p od md:Addr}{n:Int}:(hfl p od md n).lookup ("stock":Str)=some (V.ref p):=by
 unfold hfl
 rw [lookup_putF,if_neg (by decide),lookup_putF,if_neg (by decide),lookup_putF,if_neg (by decide),lookup_putF,if_pos rfl]
theorem hfl_places{p od md:Addr}{n:Int}:(hfl p od md n).lookup ("places":Str)=some (V.int n):=by
 unfold hfl
 rw [lookup_putF,if_neg (by decide),lookup_putF,if_neg (by decide),lookup_putF,if_pos rfl]
theorem inr_ne'{y z:Str}(h:y≠z):(Sum.inr y:Key)≠Sum.inr z:=fun e=>h (by injection e)
end N25
namespace N25
open L2 N1 N5 N4 N6 N12 N32 N14 N20
theorem nd_len{L M:List Str}(h:L.Nodup)(hs:∀z∈L,z∈M):L.length≤M.length:=by
 induction L generalizing M with
 | nil=>exact Nat.zero_le _
 | cons x r ih=>
  obtain ⟨hx,hr⟩:=List.nodup_cons.mp h
  have hm:=hs x (List.mem_cons_self ..)
  have:=ih (M:=M.erase x) hr fun z hz=>(List.mem_erase_of_ne (fun e=>hx (by rw [← e];exact hz))).mpr (hs z (List.mem_cons_of_mem _ hz))
  rw [List.length_erase_of_mem hm]at this
  have hp:0 < M.length:=List.length_pos_of_mem hm
  rw [List.length_cons]
  omega
end N25
namespace NR
open L2 N1 N5 N4 N6 N12 N32 N14 N20 N18 N25
structure RuleT where
 C:Addr
 St:Type
 At:Hp→List Addr→Addr→Addr→Int→St→Prop
 asked:Int→St→Str→St
 pick:Int→St→List Str→St×Str
 gone:Int→St→Str→St
 came:Int→St→Str→St
 inv:List Str→Int→St→List Str→Prop
 mid:List Str→Int→Str→St→List Str→Prop
 dep:∀{H H':Hp} {M:List Addr} {q p:Addr} {n:Int} {s:St},(∀m∈M,∀o,H m=some o→H' m=some o)→At H M q p n s→At H' M q p n s
 live:∀{H:Hp} {M:List Addr} {q p:Addr} {n:Int} {s:St},At H M q p n s→∀m∈M,H m≠none
 obj:∀{H:Hp} {M:List Addr} {q p:Addr} {n:Int} {s:St},At H M q p n s→∃dx fs,H q=some (.ins C dx fs)∧fs.lookup ("stock":Str)=some (.ref p)∧fs.lookup ("places":Str)=some (.int n)∧fs.lookup ("asked":Str)=none∧fs.lookup ("choice":Str)=none∧fs.lookup ("gone":Str)=none∧fs.lookup ("came":Str)=none∧fs.lookup ("nests":Str)=none
 i_hit:∀{ns:List Str} {n:Int} {s:St} {l:List Str} {z:Str},inv ns n s l→z∈ns→z∈l→inv ns n (asked n s z) l
 i_mid:∀{ns:List Str} {n:Int} {s:St} {l:List Str} {z:Str},inv ns n s l→z∈ns→z∉l→mid ns n z (asked n s z) l
 i_pick:∀{ns:List Str} {n:Int} {s:St} {l:List Str} {z:Str},mid ns n z s l→l≠[]→(pick n s l).2∈l∧mid ns n z (gone n (pick n s l).1 (pick n s l).2) (l.erase (pick n s l).2)
 i_came:∀{ns:List Str} {n:Int} {s:St} {l:List Str} {z:Str},mid ns n z s l→z∈ns→z∉l→inv ns n (came n s z) (l++[z])
 cnt:St→Nat:=fun _=>0
 c_ask:∀n s z,cnt (asked n s z)≤cnt s+1:=by exact fun _ _ _=>Nat.zero_le _
 c_pick:∀n s l,cnt (pick n s l).1≤cnt s:=by exact fun _ _ _=>Nat.zero_le _
 c_gone:∀n s z,cnt (gone n s z)≤cnt s:=by exact fun _ _ _=>Nat.zero_le _
 c_came:∀n s z,cnt (came n s z)≤cnt s:=by exact fun _ _ _=>Nat.zero_le _
noncomputable def gfin(T:RuleT)(R:Str→Int)(n need:Int):Nat→T.St→List Str→List Str→T.St×List Str×List Str
 | 0,s,l,w=>(s,l,w)
 | k+1,s,l,w=>if need≤n - N41.sm R l then (s,l,w) else gfin T R n need k (T.gone n (T.pick n s l).1 (T.pick n s l).2) (l.erase (T.pick n s l).2) (w++[(T.pick n s l).2])
noncomputable def gf(T:RuleT)(R:Str→Int)(n need:Int)(s:T.St)(l w:List Str):T.St×List Str×List Str:=gfin T R n need l.length s l w
noncomputable def gask(T:RuleT)(R:Str→Int)(n:Int)(s:T.St×List Str)(z:Str):(T.St×List Str)×N14.Row:=
 if z∈s.2 then ((T.asked n s.1 z,s.2),(z,true,[]))
 else ((T.came n (gf T R n (R z) (T.asked n s.1 z) s.2 []).1 z,(gf T R n (R z) (T.asked n s.1 z) s.2 []).2.1++[z]),(z,false,(gf T R n (R z) (T.asked n s.1 z) s.2 []).2.2))
noncomputable def gst(T:RuleT)(R:Str→Int)(n:Int)(s0:T.St)(ys:List Str)(i:Nat):T.St×List Str:=(ys.take i).foldl (fun s z=>(gask T R n s z).1) (s0,[])
noncomputable def grow(T:RuleT)(R:Str→Int)(n:Int)(s0:T.St)(ys:List Str)(i:Nat):N14.Row:=(gask T R n (gst T R n s0 ys i) (ys.getD i Str.empty)).2
section
variable {T:RuleT} {R:Str→Int} {n:Int} {s0:T.St} {ys ns:List Str} {i:Nat} {z:Str}
theorem mem_eq{u v:Str}{l:List Str}(e:u=v)(h:u∈l):v∈l:=e▸h
end
noncomputable def spR_asked(T:RuleT):Sp:=fun vs H Q _=>∃(q p:Addr) (n:Int) (M:List Addr) (s:T.St) (l ns:List Str) (z:Str),vs=[.ref q,.str z]∧T.At H M q p n s∧T.inv ns n s l∧z∈ns∧ns.length≤60∧∀H',Kp M H H'→T.At H' M q p n (T.asked n s z)→Q .non H'
end NR
namespace L2
noncomputable def btK(kf:Nat→List Int):Nat→Nat→Bool:=fun i j=>HT.lexLt (kf i) (kf j)
end L2
namespace N22
open L2 N1 N5 N4 N6 N12 N32 N14 N20 N18 N25 NR
noncomputable def rf0(p:Addr)(n:Int):List (Str×V):=putF "places" (.int n) (putF "stock" (.ref p) [])
noncomputable def rf1(p:Addr)(n k:Int)(la pa:Addr):List (Str×V):=putF "put_at" (.ref pa) (putF "last" (.ref la) (putF "present" (.int k) (rf0 p n)))
theorem headD_mem{l:List Str}(h:l≠[]):l.headD Str.empty∈l:=by
 cases l with
 | nil=>exact absurd rfl h
 | cons x r=>exact List.mem_cons_self ..
noncomputable def T0(C:Addr):RuleT where
 C:=C
 St:=Unit
 At:=fun H M q p n _=>M=[q]∧∃dx,H q=some (.ins C dx (rf0 p n))
 asked:=fun _ s _=>s
 pick:=fun _ s l=>(s,l.headD Str.empty)
 gone:=fun _ s _=>s
 came:=fun _ s _=>s
 inv:=fun _ _ _ _=>True
 mid:=fun _ _ _ _ _=>True
 dep:=fun e h=>⟨h.1,h.2.imp fun _ ho=>e _ (by rw [h.1];simp) _ ho⟩
 live:=fun h m hm e=>by
  obtain ⟨dx,ho⟩:=h.2
  rw [h.1,List.mem_singleton]at hm
  rw [hm,ho]at e;cases e
 obj:=fun h=>h.2.imp fun dx ho=>⟨_,ho,by rfl,by rfl,by rfl,by rfl,by rfl,by rfl,by rfl⟩
 i_hit:=fun _ _ _=>trivial
 i_mid:=fun _ _ _=>trivial
 i_pick:=fun _ h=>⟨headD_mem h,trivial⟩
 i_came:=fun _ _ _=>trivial
structure S1 where
 k:Int
 la:List (Key×V)
 pu:List (Key×V)
noncomputable def pv(s:S1)(z:Str):Int:=match valV s.pu (Sum.inr z) with
 | some (.int i)=>i
 | _=>0
noncomputable def KeysIn(kvs:List (Key×V))(ns:List Str):Prop:=∃ks:List Str,kvs.map (·.1)=ks.map Sum.inr∧ks.Nodup∧∀z∈ks,z∈ns
theorem KeysIn.nil{ns:List Str}:KeysIn [] ns:=⟨[],rfl,List.nodup_nil,by simp⟩
theorem KeysIn.len{kvs:List (Key×V)}{ns:List Str}(h:KeysIn kvs ns):kvs.length≤ns.length:=by
 obtain ⟨ks,e,nd,s⟩:=h
 have:=congrArg List.length e
 rw [List.length_map,List.length_map]at this
 have:=nd_len nd s
 omega
theorem KeysIn.put{kvs:List (Key×V)}{ns:List Str}{z:Str}{v:V}(h:KeysIn kvs ns)(hz:z∈ns):KeysIn (putK kvs (Sum.inr z) v) ns:=by
 obtain ⟨ks,e,nd,s⟩:=h
 refine ⟨if z∈ks then ks else ks++[z],N53.put_both e,?_,?_⟩
 · split
   · exact nd
   · rename_i hn
     rw [List.nodup_append]
     exact ⟨nd,by simp,fun a ha b hb e2=>hn (mem_eq (e2.trans (List.mem_singleton.mp hb)) ha)⟩
 · intro u hu
   split at hu
   · exact s u hu
   · rcases List.mem_append.mp hu with hu | hu
     · exact s u hu
     · rw [List.mem_singleton.mp hu];exact hz
structure FI(ns:List Str)(s:S1)(l:List Str)(B:Int):Prop where
 a:KeysIn s.la ns
 b:KeysIn s.pu ns
 v:∀z∈l,∃i,valV s.pu (Sum.inr z)=some (.int i)∧i≤B
 o:l.Pairwise fun x y=>pv s x < pv s y
theorem pv_at{s:S1}{z:Str}{i:Int}(h:valV s.pu (Sum.inr z)=some (.int i)):pv s z=i:=by unfold pv;rw [h]
noncomputable def f1ask(s:S1)(z:Str):S1:=⟨s.k+1,putK s.la (Sum.inr z) (.int (s.k+1)),s.pu⟩
noncomputable def f1came(s:S1)(z:Str):S1:=⟨s.k,s.la,putK s.pu (Sum.inr z) (.int s.k)⟩
theorem FI.ask{ns:List Str}{s:S1}{l:List Str}{z:Str}{B:Int}(h:FI ns s l B)(hz:z∈ns):FI ns (f1ask s z) l B:=⟨h.a.put hz,h.b,h.v,h.o⟩
theorem FI.mono{ns:List Str}{s:S1}{l:List Str}{B B':Int}(h:FI ns s l B)(hb:B≤B'):FI ns s l B':=⟨h.a,h.b,fun z hz=>(h.v z hz).imp fun _ e=>⟨e.1,Int.le_trans e.2 hb⟩,h.o⟩
theorem FI.drop{ns:List Str}{s:S1}{l:List Str}{z:Str}{B:Int}(h:FI ns s l B):FI ns s (l.erase z) B:=
 ⟨h.a,h.b,fun u hu=>h.v u (List.mem_of_mem_erase hu),h.o.sublist List.erase_sublist⟩
theorem FI.came{ns:List Str}{s:S1}{l:List Str}{z:Str}(h:FI ns s l (s.k - 1))(hz:z∈ns)(hn:z∉l):FI ns (f1came s z) (l++[z]) s.k:=by
 have hne:∀u∈l,(Sum.inr u:Key)≠Sum.inr z:=fun u hu e=>hn (by injection e with e;rw [← e];exact hu)
 have hold:∀u∈l,valV (putK s.pu (Sum.inr z) (.int s.k)) (Sum.inr u)=valV s.pu (Sum.inr u):=fun u hu=>by rw [valV_put,if_neg (hne u hu)]
 have hnew:valV (putK s.pu (Sum.inr z) (.int s.k)) (Sum.inr z)=some (.int s.k):=by rw [valV_put,if_pos rfl]
 have pold:∀u∈l,pv (f1came s z) u=pv s u:=fun u hu=>by
  unfold pv f1came
  simp only
  rw [hold u hu]
 refine ⟨h.a,h.b.put hz,fun u hu=>?_,?_⟩
 · rcases List.mem_append.mp hu with hu | hu
   · obtain ⟨i,e,hi⟩:=h.v u hu
     exact ⟨i,(hold u hu).trans e,by omega⟩
   · rw [List.mem_singleton.mp hu]
     exact ⟨s.k,hnew,Int.le_refl _⟩
 · rw [List.pairwise_append]
   refine ⟨?_,List.pairwise_singleton ..,fun u hu y hy=>?_⟩
   · exact h.o.imp_of_mem fun hx hy hxy=>by rw [pold _ hx,pold _ hy];exact hxy
   · rw [List.mem_singleton]at hy
     rw [hy,pold u hu]
     obtain ⟨i,e,hi⟩:=h.v u hu
     rw [pv_at e,pv_at (s:=f1came s z) hnew]
     omega
noncomputable def FAt(C:Addr)(H:Hp)(M:List Addr)(q p:Addr)(n:Int)(s:S1):Prop:=∃la pa,M=[q,la,pa]∧la≠pa∧(∃dx,H q=some (.ins C dx (rf1 p n s.k la pa)))∧H la=some (.dK s.la)∧H pa=some (.dK s.pu)
noncomputable def T1(C:Addr):RuleT where
 C:=C
 St:=S1
 At:=FAt C
 asked:=fun _ s z=>f1ask s z
 pick:=fun _ s l=>(s,l.headD Str.empty)
 gone:=fun _ s _=>s
 came:=fun _ s z=>f1came s z
 inv:=fun ns _ s l=>FI ns s l s.k
 mid:=fun ns _ _ s l=>FI ns s l (s.k - 1)
 dep:=fun e ⟨la,pa,hM,d,⟨dx,ho⟩,h1,h2⟩=>by
  rw [hM]at e
  exact ⟨la,pa,hM,d,⟨dx,e _ (by simp) _ ho⟩,e _ (by simp) _ h1,e _ (by simp) _ h2⟩
 live:=fun ⟨la,pa,hM,d,⟨dx,ho⟩,h1,h2⟩ m hm e=>by
  rw [hM]at hm
  simp only [List.mem_cons,List.not_mem_nil,or_false]at hm
  rcases hm with e1 | e1 | e1
  · rw [e1,ho]at e;cases e
  · rw [e1,h1]at e;cases e
  · rw [e1,h2]at e;cases e
 obj:=fun ⟨la,pa,hM,d,⟨dx,ho⟩,h1,h2⟩=>⟨dx,_,ho,by rfl,by rfl,by rfl,by rfl,by rfl,by rfl,by rfl⟩
 i_hit:=fun {ns n s l z} h hz _=>(FI.ask h hz).mono (show s.k≤s.k+1 by omega)
 i_mid:=fun {ns n s l z} h hz _=>(FI.ask h hz).mono (show s.k≤s.k+1 - 1 by omega)
 i_pick:=fun h hl=>⟨headD_mem hl,FI.drop h⟩
 i_came:=fun h hz hn=>FI.came h hz hn
noncomputable def sp22_init(C:Addr):Sp:=fun vs H Q _=>∃(q dx p:Addr) (n:Int),vs=[.ref q,.ref p,.int n]∧H q=some (.ins C dx [])∧1≤n∧n≤1000000∧∀H' la pa,SameBut q H H'→H la=none→H pa=none→FAt C H' [q,la,pa] q p n ⟨0,[],[]⟩→Q .non H'
end N22
namespace N21
open L2 N1 N5 N4 N6 N12 N32 N14 N20 N18 N25 NR N22
structure S2 where
 k:Int
 la:List (Key×V)
noncomputable def lv(s:S2)(z:Str):Int:=match valV s.la (Sum.inr z) with
 | some (.int i)=>i
 | _=>0
theorem lv_at{s:S2}{z:Str}{i:Int}(h:valV s.la (Sum.inr z)=some (.int i)):lv s z=i:=by unfold lv;rw [h]
noncomputable def lmin(v:Str→Int)(l:List Str):Str:=l.getD (argBest (fun i j=>decide (v (l.getD i Str.empty) < v (l.getD j Str.empty))) (l.length - 1)) Str.empty
theorem lmin_ok{v:Str→Int}{l:List Str}(h:l≠[]):lmin v l∈l∧∀u∈l,v (lmin v l)≤v u:=by
 have hl0:0 < l.length:=List.length_pos_iff.mpr h
 have hb:=best_lt (fun i=>v (l.getD i Str.empty)) (l.length - 1)
 unfold lmin
 generalize argBest (fun i j=>decide (v (l.getD i Str.empty) < v (l.getD j Str.empty))) (l.length - 1)=m at hb
 have hm:m < l.length:=by omega
 refine ⟨?_,fun u hu=>?_⟩
 · rw [List.getD_eq_getElem?_getD,List.getElem?_eq_getElem hm];exact List.getElem_mem hm
 · obtain ⟨j,hj⟩:=List.mem_iff_getElem?.mp hu
   have hjl:=(List.getElem?_eq_some_iff.mp hj).1
   have:=hb.2 j (by omega)
   rw [show l.getD j Str.empty=u by rw [List.getD_eq_getElem?_getD,hj];rfl]at this
   exact this
structure LI(ns:List Str)(s:S2)(l:List Str):Prop where
 a:KeysIn s.la ns
 v:∀z∈l,∃i,valV s.la (Sum.inr z)=some (.int i)∧i≤s.k
 o:l.Pairwise fun x y=>lv s x≠lv s y
noncomputable def ask2(s:S2)(z:Str):S2:=⟨s.k+1,putK s.la (Sum.inr z) (.int (s.k+1))⟩
theorem ask_old{s:S2}{z u:Str}(h:u≠z):valV (ask2 s z).la (Sum.inr u)=valV s.la (Sum.inr u):=by
 unfold ask2;simp only;rw [valV_put,if_neg (inr_ne' h)]
theorem ask_new{s:S2}{z:Str}:valV (ask2 s z).la (Sum.inr z)=some (.int (s.k+1)):=by
 unfold ask2;simp only;rw [valV_put,if_pos rfl]
theorem lv_old{s:S2}{z u:Str}(h:u≠z):lv (ask2 s z) u=lv s u:=by unfold lv;rw [ask_old h]
theorem lv_new{s:S2}{z:Str}:lv (ask2 s z) z=s.k+1:=lv_at ask_new
theorem LI.le{ns:List Str}{s:S2}{l:List Str}(h:LI ns s l):∀z∈l,lv s z≤s.k:=fun z hz=>by
 obtain ⟨i,e,hi⟩:=h.v z hz
 rw [lv_at e];exact hi
theorem LI.inj{ns:List Str}{s:S2}{l:List Str}(h:LI ns s l):∀x∈l,∀y∈l,lv s x=lv s y→x=y:=fun x hx y hy e=>by
 obtain ⟨i,hi⟩:=List.mem_iff_getElem?.mp hx
 obtain ⟨j,hj⟩:=List.mem_iff_getElem?.mp hy
 obtain ⟨hil,hi⟩:=List.getElem?_eq_some_iff.mp hi
 obtain ⟨hjl,hj⟩:=List.getElem?_eq_some_iff.mp hj
 rcases Nat.lt_trichotomy i j with c | c | c
 · exact absurd (by rw [hi,hj];exact e) ((List.pairwise_iff_getElem.mp h.o) i j hil hjl c)
 · subst c;rw [← hi,← hj]
 · exact absurd (by rw [hi,hj];exact e.symm) ((List.pairwise_iff_getElem.mp h.o) j i hjl hil c)
theorem LI.ask{ns:List Str}{s:S2}{l:List Str}{z:Str}(h:LI ns s l)(hz:z∈ns):LI ns (ask2 s z) l:=by
 refine ⟨h.a.put hz,fun u hu=>?_,h.o.imp_of_mem fun {x y} hx hy hxy=>?_⟩
 · by_cases e:u=z
   · rw [e];exact ⟨_,ask_new,Int.le_refl _⟩
   · obtain ⟨i,e1,e2⟩:=h.v u hu
     exact ⟨i,(ask_old e).trans e1,by show i≤s.k+1;omega⟩
 · have lx:=h.le x hx
   have ly:=h.le y hy
   by_cases ex:x=z
   · by_cases ey:y=z
     · exact absurd (by rw [ex,ey]) hxy
     · rw [ex,lv_new,lv_old ey];omega
   · by_cases ey:y=z
     · rw [ey,lv_new,lv_old ex];omega
     · rw [lv_old ex,lv_old ey];exact hxy
theorem LI.drop{ns:List Str}{s:S2}{l:List Str}{z:Str}(h:LI ns s l):LI ns s (l.erase z):=
 ⟨h.a,fun u hu=>h.v u (List.mem_of_mem_erase hu),h.o.sublist List.erase_sublist⟩
structure LM(ns:List Str)(z:Str)(s:S2)(l:List Str):Prop where
 i:LI ns s l
 z:valV s.la (Sum.inr z)=some (.int s.k)
 b:∀u∈l,lv s u < s.k
theorem LI.mid{ns:List Str}{s:S2}{l:List Str}{z:Str}(h:LI ns s l)(hz:z∈ns)(hn:z∉l):LM ns z (ask2 s z) l:=
 ⟨h.ask hz,ask_new,fun u hu=>by
  have:=h.le u hu
  have e:lv (ask2 s z) u=lv s u:=lv_old (fun e=>hn (by rw [← e];exact hu))
  show lv (ask2 s z) u < s.k+1
  omega⟩
theorem LM.came{ns:List Str}{s:S2}{l:List Str}{z:Str}(h:LM ns z s l):LI ns s (l++[z]):=by
 refine ⟨h.i.a,fun u hu=>?_,?_⟩
 · rcases List.mem_append.mp hu with hu | hu
   · exact h.i.v u hu
   · rw [List.mem_singleton.mp hu];exact ⟨_,h.z,Int.le_refl _⟩
 · rw [List.pairwise_append]
   refine ⟨h.i.o,List.pairwise_singleton ..,fun u hu y hy=>?_⟩
   rw [List.mem_singleton.mp hy,lv_at h.z]
   have:=h.b u hu
   omega
noncomputable def rf2(p:Addr)(n k:Int)(la:Addr):List (Str×V):=putF "last" (.ref la) (putF "present" (.int k) (rf0 p n))
noncomputable def OAt(C:Addr)(H:Hp)(M:List Addr)(q p:Addr)(n:Int)(s:S2):Prop:=∃la,M=[q,la]∧(∃dx,H q=some (.ins C dx (rf2 p n s.k la)))∧H la=some (.dK s.la)
noncomputable def T2(C:Addr):RuleT where
 C:=C
 St:=S2
 At:=OAt C
 asked:=fun _ s z=>ask2 s z
 pick:=fun _ s l=>(s,lmin (lv s) l)
 gone:=fun _ s _=>s
 came:=fun _ s _=>s
 inv:=fun ns _ s l=>LI ns s l
 mid:=fun ns _ z s l=>LM ns z s l
 dep:=fun e ⟨la,hM,⟨dx,ho⟩,h1⟩=>by
  rw [hM]at e
  exact ⟨la,hM,⟨dx,e _ (by simp) _ ho⟩,e _ (by simp) _ h1⟩
 live:=fun ⟨la,hM,⟨dx,ho⟩,h1⟩ m hm e=>by
  rw [hM]at hm
  simp only [List.mem_cons,List.not_mem_nil,or_false]at hm
  rcases hm with e1 | e1
  · rw [e1,ho]at e;cases e
  · rw [e1,h1]at e;cases e
 obj:=fun ⟨la,hM,⟨dx,ho⟩,h1⟩=>⟨dx,_,ho,by rfl,by rfl,by rfl,by rfl,by rfl,by rfl,by rfl⟩
 i_hit:=fun h hz _=>LI.ask h hz
 i_mid:=fun h hz hn=>LI.mid h hz hn
 i_pick:=fun h hl=>⟨(lmin_ok hl).1,LI.drop h.i,h.z,fun u hu=>h.b u (List.mem_of_mem_erase hu)⟩
 i_came:=fun h _ _=>LM.came h
noncomputable def s20:S2:=⟨0,[]⟩
section
variable {p la:Addr} {n k k':Int}
theorem rf2_len:(rf2 p n k la).length=4:=by rfl
theorem rf2_present:(rf2 p n k la).lookup ("present":Str)=some (V.int k):=by rfl
theorem rf2_last:(rf2 p n k la).lookup ("last":Str)=some (V.ref la):=by rfl
end
noncomputable def sp21_number(C:Addr):Sp:=fun vs H Q _=>∃(q p:Addr) (n:Int) (M:List Addr) (s:S2) (z:Str),vs=[.ref q,.str z]∧OAt C H M q p n s∧s.la.length≤1000∧∀H',Kp M H H'→OAt C H' M q p n (ask2 s z)→Q .non H'
end N21
namespace N24
open L2 N1 N5 N4 N6 N12 N32 N14 N20 N18 N25 NR N22 N21
noncomputable def nx(ys:List Str)(j:Nat)(z:Str):Nat:=min (j+(ys.drop j).findIdx fun y=>decide (y=z)) ys.length
theorem nx_at{ys:List Str}{j t:Nat}{z:Str}(h:ys[j+t]?=some z)(hno:∀u,u < t→ys[j+u]?≠some z):nx ys j z=j+t:=by
 unfold nx
 have hl:=(List.getElem?_eq_some_iff.mp h).1
 have hd:t < (ys.drop j).length:=by rw [List.length_drop];omega
 have e:(ys.drop j).findIdx (fun y=>decide (y=z))=t:=by
  rw [List.findIdx_eq hd]
  refine ⟨?_,fun u hu=>?_⟩
  · have:=(List.getElem?_eq_some_iff.mp h).2
    rw [List.getElem_drop];exact decide_eq_true this
  · have:=hno u hu
    rw [List.getElem?_eq_getElem (show j+u < ys.length by omega)]at this
    rw [List.getElem_drop];exact decide_eq_false (fun e=>this (by rw [e]))
 rw [e];omega
theorem nx_end{ys:List Str}{j:Nat}{z:Str}(hno:∀u,j+u < ys.length→ys[j+u]?≠some z):nx ys j z=ys.length:=by
 unfold nx
 have e:(ys.drop j).findIdx (fun y=>decide (y=z))=(ys.drop j).length:=by
  rw [List.findIdx_eq_length]
  intro y hy
  obtain ⟨u,hu⟩:=List.mem_iff_getElem?.mp hy
  rw [List.getElem?_drop]at hu
  have hl:=(List.getElem?_eq_some_iff.mp hu).1
  exact decide_eq_false (fun e=>hno u hl (by rw [hu,e]))
 rw [e,List.length_drop];omega
noncomputable def rkF(ys:List Str)(s:S2)(z:Str):List Int:=[0 - ((nx ys s.k.toNat z:Int)+1),lv s z]
noncomputable def fmin(ys:List Str)(s:S2)(l:List Str):Str:=l.getD (argBest (btK fun i=>rkF ys s (l.getD i Str.empty)) (l.length - 1)) Str.empty
theorem lex2{a b c d:Int}:HT.lexLt [a,b] [c,d]=decide (a < c∨(a=c∧b < d)):=by
 show (if a=c then (if b=d then false else decide (b < d)) else decide (a < c))=_
 by_cases h:a=c
 · rw [if_pos h]
   by_cases h2:b=d
   · rw [if_pos h2];symm;exact decide_eq_false (by omega)
   · rw [if_neg h2]
     by_cases h3:b < d
     · rw [decide_eq_true h3];symm;exact decide_eq_true (by omega)
     · rw [decide_eq_false h3];symm;exact decide_eq_false (by omega)
 · rw [if_neg h]
   by_cases h3:a < c
   · rw [decide_eq_true h3];symm;exact decide_eq_true (by omega)
   · rw [decide_eq_false h3];symm;exact decide_eq_false (by omega)
theorem best2(a b:Nat→Int):∀k,argBest (btK fun i=>[a i,b i]) k≤k∧∀j,j≤k→¬(a j < a (argBest (btK fun i=>[a i,b i]) k)∨(a j=a (argBest (btK fun i=>[a i,b i]) k)∧b j < b (argBest (btK fun i=>[a i,b i]) k))):=by
 intro k
 induction k with
 | zero=>exact ⟨Nat.le_refl _,fun j hj=>by rw [Nat.le_zero.mp hj];show ¬(a 0 < a 0∨(a 0=a 0∧b 0 < b 0));omega⟩
 | succ k ih=>
  have e:argBest (btK fun i=>[a i,b i]) (k+1)=if HT.lexLt [a (k+1),b (k+1)] [a (argBest (btK fun i=>[a i,b i]) k),b (argBest (btK fun i=>[a i,b i]) k)]=true then k+1 else argBest (btK fun i=>[a i,b i]) k:=rfl
  rw [e,lex2]
  generalize argBest (btK fun i=>[a i,b i]) k=m at ih
  split
  · rename_i h
    have h:=of_decide_eq_true h
    refine ⟨Nat.le_refl _,fun j hj=>?_⟩
    by_cases e:j=k+1
    · rw [e];omega
    · have:=ih.2 j (by omega);omega
  · rename_i h
    have h:¬(a (k+1) < a m∨(a (k+1)=a m∧b (k+1) < b m)):=fun z=>h (decide_eq_true z)
    refine ⟨Nat.le_succ_of_le ih.1,fun j hj=>?_⟩
    by_cases e:j=k+1
    · rw [e];exact h
    · exact ih.2 j (by omega)
theorem fmin_ok{ys:List Str}{s:S2}{l:List Str}(h:l≠[]):fmin ys s l∈l∧∀u∈l,nx ys s.k.toNat u < nx ys s.k.toNat (fmin ys s l)∨(nx ys s.k.toNat u=nx ys s.k.toNat (fmin ys s l)∧lv s (fmin ys s l)≤lv s u):=by
 have hl0:0 < l.length:=List.length_pos_iff.mpr h
 have hb:=best2 (fun i=>0 - ((nx ys s.k.toNat (l.getD i Str.empty):Int)+1)) (fun i=>lv s (l.getD i Str.empty)) (l.length - 1)
 unfold fmin
 have e:(fun i=>rkF ys s (l.getD i Str.empty))=fun i=>[0 - ((nx ys s.k.toNat (l.getD i Str.empty):Int)+1),lv s (l.getD i Str.empty)]:=rfl
 rw [e]
 generalize argBest (btK fun i=>[0 - ((nx ys s.k.toNat (l.getD i Str.empty):Int)+1),lv s (l.getD i Str.empty)]) (l.length - 1)=m at hb
 have hm:m < l.length:=by omega
 refine ⟨?_,fun u hu=>?_⟩
 · rw [List.getD_eq_getElem?_getD,List.getElem?_eq_getElem hm];exact List.getElem_mem hm
 · obtain ⟨j,hj⟩:=List.mem_iff_getElem?.mp hu
   have hjl:=(List.getElem?_eq_some_iff.mp hj).1
   have:=hb.2 j (by omega)
   rw [show l.getD j Str.empty=u by rw [List.getD_eq_getElem?_getD,hj];rfl]at this
   omega
noncomputable def rf3(p:Addr)(n k:Int)(la ak:Addr):List (Str×V):=putF "asks" (.ref ak) (rf2 p n k la)
noncomputable def QAt(C:Addr)(ys:List Str)(H:Hp)(M:List Addr)(q p:Addr)(n:Int)(s:S2):Prop:=∃la ak,M=[q,la,ak]∧(∃dx,H q=some (.ins C dx (rf3 p n s.k la ak)))∧H la=some (.dK s.la)∧H ak=some (.lst (ys.map V.str))
noncomputable def T3(C:Addr)(ys:List Str):RuleT where
 C:=C
 St:=S2
 At:=QAt C ys
 asked:=fun _ s z=>ask2 s z
 pick:=fun _ s l=>(s,fmin ys s l)
 gone:=fun _ s _=>s
 came:=fun _ s _=>s
 inv:=fun ns _ s l=>LI ns s l∧0≤s.k
 mid:=fun ns _ z s l=>LM ns z s l∧0≤s.k
 dep:=fun e ⟨la,ak,hM,⟨dx,ho⟩,h1,h2⟩=>by
  rw [hM]at e
  exact ⟨la,ak,hM,⟨dx,e _ (by simp) _ ho⟩,e _ (by simp) _ h1,e _ (by simp) _ h2⟩
 live:=fun ⟨la,ak,hM,⟨dx,ho⟩,h1,h2⟩ m hm e=>by
  rw [hM]at hm
  simp only [List.mem_cons,List.not_mem_nil,or_false]at hm
  rcases hm with e1 | e1 | e1
  · rw [e1,ho]at e;cases e
  · rw [e1,h1]at e;cases e
  · rw [e1,h2]at e;cases e
 obj:=fun ⟨la,ak,hM,⟨dx,ho⟩,h1,h2⟩=>⟨dx,_,ho,by rfl,by rfl,by rfl,by rfl,by rfl,by rfl,by rfl⟩
 i_hit:=fun {ns n s l z} h hz _=>⟨LI.ask h.1 hz,by show 0≤s.k+1;have:=h.2;omega⟩
 i_mid:=fun {ns n s l z} h hz hn=>⟨LI.mid h.1 hz hn,by show 0≤s.k+1;have:=h.2;omega⟩
 i_pick:=fun h hl=>⟨(fmin_ok hl).1,⟨LI.drop h.1.i,h.1.z,fun u hu=>h.1.b u (List.mem_of_mem_erase hu)⟩,h.2⟩
 i_came:=fun h _ _=>⟨LM.came h.1,h.2⟩
 cnt:=fun s=>s.k.toNat
 c_ask:=fun n s z=>by show (s.k+1).toNat≤s.k.toNat+1;omega
 c_pick:=fun n s l=>Nat.le_refl _
 c_gone:=fun n s z=>Nat.le_refl _
 c_came:=fun n s z=>Nat.le_refl _
section
variable {p la ak:Addr} {n k k':Int}
theorem rf3_len:(rf3 p n k la ak).length=5:=by rfl
theorem rf3_present:(rf3 p n k la ak).lookup ("present":Str)=some (V.int k):=by rfl
theorem rf3_last:(rf3 p n k la ak).lookup ("last":Str)=some (V.ref la):=by rfl
theorem rf3_asks:(rf3 p n k la ak).lookup ("asks":Str)=some (V.ref ak):=by rfl
end
noncomputable def sp24_init(K:PySem.W.Frag)(S C:Addr):Sp:=fun vs H Q _=>∃(q dx p a:Addr) (n:Int) (ts:List Th) (ys:List Str),vs=[.ref q,.ref p,.int n,.ref a]∧H q=some (.ins C dx [])∧StockAt K S H p ts∧(ts.map (·.1)).Nodup∧SqL K H a (ys.map V.str)∧ys.length≤200∧(∀y∈ys,y∈ts.map (·.1))∧(∀y∈ys,rm ts y≤n)∧1≤n∧n≤1000000∧a≠q∧∀H' la ak,SameBut q H H'→H la=none→H ak=none→QAt C ys H' [q,la,ak] q p n s20→Q .non H'
noncomputable def sp24_number(C:Addr):Sp:=fun vs H Q _=>∃(q p:Addr) (n:Int) (M:List Addr) (s:S2) (z:Str) (ys:List Str),vs=[.ref q,.str z]∧QAt C ys H M q p n s∧s.la.length≤1000∧∀H',Kp M H H'→QAt C ys H' M q p n (ask2 s z)→Q .non H'
noncomputable def sp24_coming(C:Addr):Sp:=fun vs H Q _=>∃(q p:Addr) (n:Int) (M:List Addr) (s:S2) (z:Str) (ys:List Str),vs=[.ref q,.str z]∧QAt C ys H M q p n s∧0≤s.k∧s.k≤1000000∧ys.length≤1000∧Q (.int ((nx ys s.k.toNat z:Int)+1)) H
end N24
namespace L2
noncomputable def rDictOf:List V→Hp→VK→Prop:=fun xs H Q=>∃a kvs,xs=[.ref a]∧H a=some (.dK kvs)∧∀l,H l=none→Q (.ref l) (upd H l (.dK kvs))
section
variable {X:Cx}
theorem call_dictOf:CallR X (.type "dict") rDictOf:=by
 intro pins s σ H xs us Q I r h
 obtain ⟨a,kvs,rfl,ha,q⟩:=h
 obtain ⟨u,rfl,rx⟩:=vals1 r
 cases rx
 obtain ⟨z,lo,ws,rel,dd⟩:=I.hok a _ ha
 refine kt_call_dict (knd:=mixKind X.prog X.w) lo dd (by rw [← rel.length];exact z) fun h' hd hs=>?_
 have hk:∀b o,s.heap.get? b=some o→h'.get? b=some o:=fun b o e=>(hs.2 b (Nat.ne_of_lt (Heap.lt_size e))).trans (Heap.get?_push_of_some _ e)
 have nm:(s.heap.objs.size==sysModules)=false:=beq_false_of_ne (Nat.ne_of_gt I.big)
 exact ⟨.ref s.heap.objs.size,_,I.laid (t':=s.toks) hk (Nat.le_refl _) (show ObjOk X.prog X.w _ h' _ (.dK kvs) from ⟨z,nm,ws,rel,hd⟩),rfl,q _ I.fresh⟩
end
section
variable {H:Hp} {Q:VK} {x:V} {xs:List V}
theorem rd_dictOf:rDictOf xs H Q=∃a kvs,xs=[.ref a]∧H a=some (.dK kvs)∧∀l,H l=none→Q (.ref l) (upd H l (.dK kvs)):=rfl
end
end L2
namespace L2
structure FunD(K:PySem.W.Frag)(x qual:Str)(st:Stmt)(f:Addr)(fd:FuncData)(dv:List Value):Prop where
 ex:∃(oc:Value) (od:Option Addr) (dT:Addr) (ob:Obj) (n:Nat) (kV doc pm:Value) (an:Option Addr) (cdv ct:Value) (osl:Array (Option Value)),
  fd=PySem.W.fnOf x qual (defArgs st) (defBody st) (defScope st) (.ref dT) kV doc pm an cdv ct∧K.lookup f=some ⟨oc,od,.func fd,osl⟩∧PySem.W.codeIn K cdv qual=true∧K.lookup dT=some ob∧ob.data= .seq dv.toArray n
 kp:PySem.W.keepIn K (.ref f)=true
theorem lcD{α:Type}{us:List α}{n:Nat}(h:us.length=n+1):∃u r,us=u::r∧r.length=n:=by
 cases us with
 | nil=>cases h
 | cons u r=>exact ⟨u,r,rfl,Nat.succ.inj h⟩
theorem l0D{α:Type}{us:List α}(h:us.length=0):us=[]:=by
 cases us with
 | nil=>rfl
 | cons u r=>cases h
section
variable {P:Program} {w:World} {K:PySem.W.Frag} {mg:Str→Option Value} {base:Heap} {x qual:Str} {st:Stmt} {f:Addr} {fd:FuncData} {dv:List Value} {N ps:List Str} {k:Nat} {sp:Sp}
theorem FunD.binds{p1 p2 p3 p4:Str}{d:Value}(F:FunD K x qual st f fd [d])
 (h:∀(dT:Addr) (kV doc pm:Value) (an:Option Addr) (cdv ct a b c:Value),∃k,bindArgs (PySem.W.fnOf x qual (defArgs st) (defBody st) (defScope st) (.ref dT) kV doc pm an cdv ct) ⟨[a,b,c],[]⟩=seqItems? (.ref dT) >>=k∧k (some [d].toArray)=pure [(p1,a),(p2,b),(p3,c),(p4,d)]):Binds K fd [p1,p2,p3,p4] [d]:=by
 obtain ⟨oc,od,dT,ob,n,kV,doc,pm,an,cdv,ct,osl,rfl,lk,hcd,hT,hs⟩:=F.ex
 intro s us X hl
 have hl':us.length=3:=by simpa using hl
 obtain ⟨a,us,rfl,k1⟩:=lcD hl'
 obtain ⟨b,us,rfl,k2⟩:=lcD k1
 obtain ⟨c,us,rfl,k3⟩:=lcD k2
 cases l0D k3
 obtain ⟨k,h1,h2⟩:=h dT kV doc pm an cdv ct a b c
 exact PySem.W.binds_K X rfl hT hs h1 h2
noncomputable def g31:List Value→List Value→List Value
 | [a,b,c],[d]=>[a,b,c,d]
 | _,_=>[]
noncomputable def gV31:List V→List V→List V
 | [a,b,c],[d]=>[a,b,c,d]
 | _,_=>[]
theorem gV31_at{a b c d:V}:gV31 [a,b,c] [d]=[a,b,c,d]:=rfl
theorem g31_rel{vs zs:List V}{us ws:List Value}(r:Vals vs us)(rz:Vals zs ws):Vals (gV31 vs zs) (g31 us ws):=by
 cases r with
 | nil=>exact .nil
 | cons r1 r=>cases r with
  | nil=>exact .nil
  | cons r2 r=>cases r with
   | nil=>exact .nil
   | cons r3 r=>cases r with
    | nil=>cases rz with
     | nil=>exact .nil
     | cons r4 rz=>cases rz with
      | nil=>exact .cons r1 (.cons r2 (.cons r3 (.cons r4 .nil)))
      | cons r5 rz=>exact .nil
    | cons r5 r=>cases rz <;> exact .nil
theorem FunD.kbinds{p1 p2 p3 p4:Str}{d0:Value}(F:FunD K x qual st f fd [d0])
 (h:∀(dT:Addr) (kV doc pm:Value) (an:Option Addr) (cdv ct a b c d:Value),∃k,bindArgs (PySem.W.fnOf x qual (defArgs st) (defBody st) (defScope st) (.ref dT) kV doc pm an cdv ct) ⟨[a,b,c],[(p4,d)]⟩=seqItems? (.ref dT) >>=k∧k (some [d0].toArray)=pure [(p1,a),(p2,b),(p3,c),(p4,d)]):KBinds K fd [p1,p2,p3,p4] [p4] g31 gV31:=by
 obtain ⟨oc,od,dT,ob,n,kV,doc,pm,an,cdv,ct,osl,rfl,lk,hcd,hT,hs⟩:=F.ex
 refine ⟨fun s us ws X hl=>?_,g31_rel⟩
 match us,ws,hl with
 | [a,b,c],[d],_=>
  obtain ⟨k,h1,h2⟩:=h dT kV doc pm an cdv ct a b c d
  exact PySem.W.binds_K X rfl hT hs h1 h2
theorem FunD.full{p1 p2 p3 p4:Str}{d0:Value}(F:FunD K x qual st f fd [d0])
 (h:∀(dT:Addr) (kV doc pm:Value) (an:Option Addr) (cdv ct a b c d:Value),∃k,bindArgs (PySem.W.fnOf x qual (defArgs st) (defBody st) (defScope st) (.ref dT) kV doc pm an cdv ct) ⟨[a,b,c,d],[]⟩=seqItems? (.ref dT) >>=k∧k (some [d0].toArray)=pure [(p1,a),(p2,b),(p3,c),(p4,d)]):Binds K fd [p1,p2,p3,p4] []:=by
 obtain ⟨oc,od,dT,ob,n,kV,doc,pm,an,cdv,ct,osl,rfl,lk,hcd,hT,hs⟩:=F.ex
 intro s us X hl
 have hl':us.length=4:=by simpa using hl
 obtain ⟨a,us,rfl,k1⟩:=lcD hl'
 obtain ⟨b,us,rfl,k2⟩:=lcD k1
 obtain ⟨c,us,rfl,k3⟩:=lcD k2
 obtain ⟨d,us,rfl,k4⟩:=lcD k3
 cases l0D k4
 obtain ⟨k,h1,h2⟩:=h dT kV doc pm an cdv ct a b c d
 exact PySem.W.binds_K X rfl hT hs h1 h2
theorem funD_mk{oc:Value}{od an:Option Addr}{osl:Array (Option Value)}{dT:Addr}{kV doc pm cdv ct:Value}{ob:Obj}{n:Nat}(l:K.lookup f=some ⟨oc,od,.func (PySem.W.fnOf x qual (defArgs st) (defBody st) (defScope st) (.ref dT) kV doc pm an cdv ct),osl⟩)
 (c:PySem.W.codeIn K cdv qual=true) (k:PySem.W.keepIn K (.ref f)=true) (hT:K.lookup dT=some ob) (hs:ob.data= .seq dv.toArray n):FunD K x qual st f (PySem.W.fnOf x qual (defArgs st) (defBody st) (defScope st) (.ref dT) kV doc pm an cdv ct) dv:=⟨⟨oc,od,dT,ob,n,kV,doc,pm,an,cdv,ct,osl,rfl,l,c,hT,hs⟩,k⟩
end
structure DefIK(P:Program)(w:World)(K:PySem.W.Frag)(mg:Str→Option Value)(base:Heap)(CX:CXT)(k:Nat)(x:Str)(C:Addr)(ps:List Str)(kn:Str)(dvs:List V)(sp:Sp):Prop where
 ex:∃(f:Addr) (fd:FuncData) (ds:List Value),FnOk P w K mg base CX k f fd ps sp∧Mk K C f∧mg x=some (.ref C)∧Vals dvs ds∧Binds K fd ps ds∧KBinds K fd ps [kn] g31 gV31∧Binds K fd ps []
noncomputable def tMakeD(C:Addr)(sp:Sp)(dvs:List V)(EE:St→XK)(t:TA):TE:=fun σ H Q=>t σ H fun vs H1=>∀x dx,H1 x=none→H1 dx=none→dx≠x→sp (.ref x::(vs++dvs)) (upd (upd H1 dx (.own x)) x (.ins C dx [])) (fun v H2=>v= .non∧Q (.ref x) H2) (EE σ)
section
variable {X:Cx} {CX:CXT} {k j:Nat} {f C:Addr} {fd:FuncData} {ps:List Str} {sp:Sp} {EE:St→XK} {x kn:Str} {p pos kpos:Pos} {e ke:Expr} {es:List Expr} {kws:List Keyword} {t tk:TA} {te:TE} {dvs:List V}
theorem make_run{pins:List (Addr×Obj)}{σ:St}{H:Hp}{s:Shared}{Q:VK}{us ws:List Value}{vs:List V}{kw:List (Str×Value)}(M:Mk X.K C f)(F:FnOk X.prog X.w X.K X.mg X.base CX j f fd ps sp)(hr:Room (j+1) X.A)
 (hx:PassesS CX X EE) (I:Inv X pins σ H s) (g:Value→List Value) (gv:V→List V) (hb:∀s',X.K.In s'.heap→∀a,(g (.ref a)).length=ps.length→BindsTo s' fd ⟨.ref a::us,kw⟩ (ps.zip (g (.ref a)))) (rel:∀a,Vals (gv (.ref a)) (g (.ref a)))
 (q:∀x dx,H x=none→H dx=none→dx≠x→sp (gv (.ref x)) (upd (upd H dx (.own x)) x (.ins C dx [])) (fun v H2=>v= .non∧Q (.ref x) H2) (EE σ)):
 wpAny (model X.prog X.w) X.A (call (.ref C) us kw) (EP X pins σ Q) X.xe s:=by
 have hq:=q (s.heap.objs.size+1) s.heap.objs.size (I.hok.fresh (Nat.le_succ _)) (I.hok.fresh (Nat.le_refl _)) (Nat.ne_of_lt (Nat.lt_succ_self _))
 have I2:=Inv.made (C:=C) I
 have r2:=rel (s.heap.objs.size+1)
 have hl:(g (.ref (s.heap.objs.size+1))).length=ps.length:=by
  rw [← r2.length];exact F.len _ _ _ _ hq
 refine wpAny_call (make_map (f:=f) I.kIn M.makes M.init (beq_iff_eq.mp M.fn) (codeAny_mono (F.run _ X.stack _ _ ⟨Value.ref (s.heap.objs.size+1)::us,kw⟩ (g (.ref (s.heap.objs.size+1))) _ _ (EE σ) (hr.make C us kw)
  (I2.env0.make C us kw) (hb _ I2.kIn _ hl) r2 hq) fun r s' hq'=>?_))
 cases r with
 | error e=>exact hx pins σ _ _ e s' I2 hq'
 | ok fl=>
  cases fl with
  | ret u=>
   obtain ⟨v,H',I3,rv,ev,q3⟩:=I2.after hq'
   subst ev
   exact ⟨rv,⟨V.ref (s.heap.objs.size+1),H',I3,rfl,q3⟩⟩
  | next=>exact False.elim hq'
  | brk=>exact False.elim hq'
  | cont=>exact False.elim hq'
theorem pe_makeD(D:DefIK X.prog X.w X.K X.mg X.base CX j x C ps kn dvs sp)(hr:Room k X.A)(hg:Gl X x)(hx:PassesS CX X EE)(ha:PA X (e::es) t)(hj:j+1≤k:=by decide)(hdb:(x==("__debug__":Str))=false:=by decide)
 (he:starEach (e::es) X.env=(false,eval e X.env)::starEach es X.env:=by rfl) (hpl:(backTo pos (starEach es X.env)).any (·.1)=false:=by rfl):
 PE X (.Call (.Name x p) (e::es) [] pos) (tMakeD C sp dvs EE t):=by
 obtain ⟨f,fd,ds,F,M,hm,hd,hb,_⟩:=D.ex
 intro pins s0 σ H0 Q I0 h
 refine wpAny_Call_Name_kw (ld_glob I0 hg hm ?_ hdb)
 refine PySem.W.callWith_K (h₀:=X.base) I0.ok.mod.kin M.kp (thn (ha pos pins s0 σ H0 _ I0 h) fun us s ⟨vs,H,I,r,q⟩=>⟨I.kIn,?_⟩) he hpl
 exact make_run (ws:=[]) (vs:=vs) M F (hr.mono hj) hx I (fun a=>a::(us++ds)) (fun a=>a::(vs++dvs)) (fun s' X' a hl=>hb s' (.ref a::us) X' hl) (fun a=> .cons rfl (r.append hd)) q
theorem rd_makeD{σ:St}{H:Hp}{Q:VK}:tMakeD C sp dvs EE t σ H Q=t σ H fun vs H1=>∀x dx,H1 x=none→H1 dx=none→dx≠x→sp (.ref x::(vs++dvs)) (upd (upd H1 dx (.own x)) x (.ins C dx [])) (fun v H2=>v= .non∧Q (.ref x) H2) (EE σ):=rfl
end
end L2
namespace N23
open L2 N1 N5 N4 N6 N12 N32 N14 N20 N18 N25 NR N22 N21 N24
noncomputable def tvK(d:List (Key×V))(k:Key):Int:=match valV d k with
 | some (.int i)=>i
 | _=>0
theorem tvK_at{d:List (Key×V)}{k:Key}{i:Int}(h:valV d k=some (.int i)):tvK d k=i:=by unfold tvK;rw [h]
noncomputable def stepH(d:List (Key×V))(k:Key):List (Key×V):=putK d k (.int (tvK d k / 2))
noncomputable def hvi(d:List (Key×V))(i:Nat):List (Key×V):=((d.map (·.1)).take i).foldl stepH d
noncomputable def hvd(d:List (Key×V)):List (Key×V):=hvi d d.length
theorem hvi_succ{d:List (Key×V)}{i:Nat}{k:Key}(h:(d.map (·.1))[i]?=some k):hvi d (i+1)=stepH (hvi d i) k:=by
 unfold hvi
 rw [List.take_add_one,h,List.foldl_append];rfl
structure TI(ns:List Str)(d:List (Key×V)):Prop where
 k:KeysIn d ns
 v:∀k v,valV d k=some v→∃i:Int,v= .int i
theorem TI.nil{ns:List Str}:TI ns []:=⟨KeysIn.nil,fun k v h=>by cases h⟩
theorem TI.put{ns:List Str}{d:List (Key×V)}{z:Str}{i:Int}(h:TI ns d)(hz:z∈ns):TI ns (putK d (Sum.inr z) (.int i)):=
 ⟨h.k.put hz,fun k v e=>by
  rw [valV_put]at e
  split at e
  · cases e;exact ⟨i,rfl⟩
  · exact h.v k v e⟩
theorem TI.keys{ns:List Str}{d:List (Key×V)}(h:TI ns d):∃ks:List Str,d.map (·.1)=ks.map Sum.inr∧(∀z∈ks,z∈ns):=let ⟨ks,a,_,b⟩:=h.k;⟨ks,a,b⟩
theorem valV_some{d:List (Key×V)}{k:Key}(h:k∈d.map (·.1)):∃v,valV d k=some v:=by
 have:(valV d k).isSome=true:=by
  rw [← valV_any]
  obtain ⟨p,hp,e⟩:=List.mem_map.mp h
  exact List.any_eq_true.mpr ⟨p,hp,decide_eq_true e⟩
 exact Option.isSome_iff_exists.mp this
theorem hvi_ok{ns:List Str}{d:List (Key×V)}(h:TI ns d):∀i,TI ns (hvi d i)∧∀k,(∃j:Int,valV d k=some (.int j))→∃j:Int,valV (hvi d i) k=some (.int j):=by
 obtain ⟨ks,e,hin⟩:=h.keys
 intro i
 induction i with
 | zero=>exact ⟨h,fun k hk=>hk⟩
 | succ i ih=>
  cases hk:(d.map (·.1))[i]? with
  | none=>
   have:hvi d (i+1)=hvi d i:=by unfold hvi;rw [List.take_add_one,hk,Option.toList_none,List.append_nil]
   rw [this];exact ih
  | some k=>
   rw [hvi_succ hk]
   obtain ⟨z,hz,rfl⟩:∃z,z∈ks∧Sum.inr z=k:=by
    have:=List.mem_of_getElem? hk
    rw [e]at this
    exact List.mem_map.mp this
   refine ⟨ih.1.put (hin z hz),fun k hk'=>?_⟩
   unfold stepH
   rw [valV_put]
   split
   · exact ⟨_,rfl⟩
   · exact ih.2 k hk'
theorem TI.at_{ns:List Str}{d:List (Key×V)}{z:Str}(h:TI ns d)(hz:Sum.inr z∈d.map (·.1))(i:Nat):valV (hvi d i) (Sum.inr z)=some (.int (tvK (hvi d i) (Sum.inr z))):=by
 obtain ⟨v,hv⟩:=valV_some hz
 obtain ⟨j,rfl⟩:=h.v _ _ hv
 obtain ⟨j2,h2⟩:=(hvi_ok h i).2 _ ⟨j,hv⟩
 rw [tvK_at h2];exact h2
theorem TI.get{ns:List Str}{d:List (Key×V)}{k:Key}(h:TI ns d):(valV d k).getD (V.int 0)=V.int (tvK d k):=by
 unfold tvK
 cases e:valV d k with
 | none=>rfl
 | some v=>obtain ⟨i,rfl⟩:=h.v _ _ e;rfl
theorem keys_str{d:List (Key×V)}{ks:List Str}(h:d.map (·.1)=ks.map Sum.inr):d.map (fun p=>kV p.1)=ks.map V.str:=by
 have:d.map (fun p=>kV p.1)=(d.map (·.1)).map kV:=by rw [List.map_map];rfl
 rw [this,h,List.map_map];rfl
noncomputable def tbl(e k:Int)(d:List (Key×V)):List (Key×V):=if k % e=0 then hvd d else d
noncomputable def cnt4(e k:Int)(d:List (Key×V))(z:Str):List (Key×V):=putK (tbl e k d) (Sum.inr z) (.int (tvK (tbl e k d) (Sum.inr z)+1))
theorem tbl_ok{ns:List Str}{d:List (Key×V)}{e k:Int}(h:TI ns d):TI ns (tbl e k d)∧∀q,(∃j:Int,valV d q=some (.int j))→∃j:Int,valV (tbl e k d) q=some (.int j):=by
 unfold tbl
 split
 · exact hvi_ok h _
 · exact ⟨h,fun _ x=>x⟩
theorem cnt4_ok{ns:List Str}{d:List (Key×V)}{e k:Int}{z:Str}(h:TI ns d)(hz:z∈ns):TI ns (cnt4 e k d z)∧(∀u:Str,(∃j:Int,valV d (Sum.inr u)=some (.int j))→∃j:Int,valV (cnt4 e k d z) (Sum.inr u)=some (.int j))∧∃j:Int,valV (cnt4 e k d z) (Sum.inr z)=some (.int j):=by
 obtain ⟨a,b⟩:=tbl_ok (e:=e) (k:=k) h
 refine ⟨a.put hz,fun u hu=>?_,?_⟩
 · unfold cnt4
   rw [valV_put]
   split
   · exact ⟨_,rfl⟩
   · exact b _ hu
 · unfold cnt4
   rw [valV_put,if_pos rfl];exact ⟨_,rfl⟩
structure S4 where
 b:S2
 ta:List (Key×V)
 e:Int
noncomputable def ask4(s:S4)(z:Str):S4:=⟨ask2 s.b z,cnt4 s.e s.b.k s.ta z,s.e⟩
noncomputable def rkH(s:S4)(z:Str):List Int:=[tvK s.ta (Sum.inr z),lv s.b z]
noncomputable def hmin(s:S4)(l:List Str):Str:=l.getD (argBest (btK fun i=>rkH s (l.getD i Str.empty)) (l.length - 1)) Str.empty
theorem hmin_ok{s:S4}{l:List Str}(h:l≠[]):hmin s l∈l∧∀u∈l,tvK s.ta (Sum.inr (hmin s l)) < tvK s.ta (Sum.inr u)∨(tvK s.ta (Sum.inr (hmin s l))=tvK s.ta (Sum.inr u)∧lv s.b (hmin s l)≤lv s.b u):=by
 have hl0:0 < l.length:=List.length_pos_iff.mpr h
 have hb:=best2 (fun i=>tvK s.ta (Sum.inr (l.getD i Str.empty))) (fun i=>lv s.b (l.getD i Str.empty)) (l.length - 1)
 unfold hmin
 have e:(fun i=>rkH s (l.getD i Str.empty))=fun i=>[tvK s.ta (Sum.inr (l.getD i Str.empty)),lv s.b (l.getD i Str.empty)]:=rfl
 rw [e]
 generalize argBest (btK fun i=>[tvK s.ta (Sum.inr (l.getD i Str.empty)),lv s.b (l.getD i Str.empty)]) (l.length - 1)=m at hb
 have hm:m < l.length:=by omega
 refine ⟨?_,fun u hu=>?_⟩
 · rw [List.getD_eq_getElem?_getD,List.getElem?_eq_getElem hm];exact List.getElem_mem hm
 · obtain ⟨j,hj⟩:=List.mem_iff_getElem?.mp hu
   have hjl:=(List.getElem?_eq_some_iff.mp hj).1
   have:=hb.2 j (by omega)
   rw [show l.getD j Str.empty=u by rw [List.getD_eq_getElem?_getD,hj];rfl]at this
   omega
structure CI(ns:List Str)(s:S4)(l:List Str):Prop where
 t:TI ns s.ta
 v:∀z∈l,∃j:Int,valV s.ta (Sum.inr z)=some (.int j)
 e1:1≤s.e
 e2:s.e≤200
theorem CI.ask{ns:List Str}{s:S4}{l:List Str}{z:Str}(h:CI ns s l)(hz:z∈ns):CI ns (ask4 s z) l:=
 let c:=cnt4_ok (e:=s.e) (k:=s.b.k) h.t hz
 ⟨c.1,fun u hu=>c.2.1 u (h.v u hu),h.e1,h.e2⟩
theorem CI.drop{ns:List Str}{s:S4}{l:List Str}{z:Str}(h:CI ns s l):CI ns s (l.erase z):=⟨h.t,fun u hu=>h.v u (List.mem_of_mem_erase hu),h.e1,h.e2⟩
noncomputable def rf4(p:Addr)(n k:Int)(la:Addr)(e:Int)(ta:Addr):List (Str×V):=putF "tally" (.ref ta) (putF "turn" (.int e) (rf2 p n k la))
noncomputable def GAt(C:Addr)(H:Hp)(M:List Addr)(q p:Addr)(n:Int)(s:S4):Prop:=∃la ta,M=[q,la,ta]∧(∃dx,H q=some (.ins C dx (rf4 p n s.b.k la s.e ta)))∧H la=some (.dK s.b.la)∧H ta=some (.dK s.ta)∧la≠ta
noncomputable def T4(C:Addr):RuleT where
 C:=C
 St:=S4
 At:=GAt C
 asked:=fun _ s z=>ask4 s z
 pick:=fun _ s l=>(s,hmin s l)
 gone:=fun _ s _=>s
 came:=fun _ s _=>s
 inv:=fun ns _ s l=>LI ns s.b l∧CI ns s l
 mid:=fun ns _ z s l=>LM ns z s.b l∧CI ns s l∧∃j:Int,valV s.ta (Sum.inr z)=some (.int j)
 dep:=fun e ⟨la,ta,hM,⟨dx,ho⟩,h1,h2,hne⟩=>by
  rw [hM]at e
  exact ⟨la,ta,hM,⟨dx,e _ (by simp) _ ho⟩,e _ (by simp) _ h1,e _ (by simp) _ h2,hne⟩
 live:=fun ⟨la,ta,hM,⟨dx,ho⟩,h1,h2,hne⟩ m hm e=>by
  rw [hM]at hm
  simp only [List.mem_cons,List.not_mem_nil,or_false]at hm
  rcases hm with e1 | e1 | e1
  · rw [e1,ho]at e;cases e
  · rw [e1,h1]at e;cases e
  · rw [e1,h2]at e;cases e
 obj:=fun ⟨la,ta,hM,⟨dx,ho⟩,h1,h2,hne⟩=>⟨dx,_,ho,by rfl,by rfl,by rfl,by rfl,by rfl,by rfl,by rfl⟩
 i_hit:=fun {ns n s l z} h hz _=>⟨LI.ask h.1 hz,h.2.ask hz⟩
 i_mid:=fun {ns n s l z} h hz hn=>⟨LI.mid h.1 hz hn,h.2.ask hz,(cnt4_ok (e:=s.e) (k:=s.b.k) h.2.t hz).2.2⟩
 i_pick:=fun h hl=>⟨(hmin_ok hl).1,⟨LI.drop h.1.i,h.1.z,fun u hu=>h.1.b u (List.mem_of_mem_erase hu)⟩,h.2.1.drop,h.2.2⟩
 i_came:=fun {ns n s l z} h _ _=>⟨LM.came h.1,h.2.1.t,fun u hu=>(List.mem_append.mp hu).elim (h.2.1.v u) (fun e=>by rw [List.mem_singleton.mp e];exact h.2.2),h.2.1.e1,h.2.1.e2⟩
section
variable {p la ta:Addr} {n k k' e:Int}
theorem rf4_len:(rf4 p n k la e ta).length=6:=by rfl
theorem rf4_present:(rf4 p n k la e ta).lookup ("present":Str)=some (V.int k):=by rfl
theorem rf4_last:(rf4 p n k la e ta).lookup ("last":Str)=some (V.ref la):=by rfl
theorem rf4_turn:(rf4 p n k la e ta).lookup ("turn":Str)=some (V.int e):=by rfl
theorem rf4_tally:(rf4 p n k la e ta).lookup ("tally":Str)=some (V.ref ta):=by rfl
end
noncomputable def s40(e:Int):S4:=⟨s20,[],e⟩
noncomputable def sp23_init(C:Addr):Sp:=fun vs H Q _=>∃(q dx p:Addr) (n e:Int),vs=[.ref q,.ref p,.int n,.int e]∧H q=some (.ins C dx [])∧1≤n∧n≤1000000∧1≤e∧e≤200∧∀H' la ta,SameBut q H H'→H la=none→H ta=none→GAt C H' [q,la,ta] q p n (s40 e)→Q .non H'
noncomputable def sp23_halve(C:Addr):Sp:=fun vs H Q _=>∃(q p:Addr) (n:Int) (M:List Addr) (s:S4) (ns:List Str),vs=[.ref q]∧GAt C H M q p n s∧TI ns s.ta∧ns.length≤1000∧∀H',Kp M H H'→GAt C H' M q p n ⟨s.b,hvd s.ta,s.e⟩→Q .non H'
noncomputable def sp23_number(C:Addr):Sp:=fun vs H Q _=>∃(q p:Addr) (n:Int) (M:List Addr) (s:S4) (z:Str),vs=[.ref q,.str z]∧GAt C H M q p n s∧s.b.la.length≤1000∧∀H',Kp M H H'→GAt C H' M q p n ⟨ask2 s.b z,s.ta,s.e⟩→Q .non H'
noncomputable def sp23_counts(C:Addr):Sp:=fun vs H Q _=>∃(q p:Addr) (n:Int) (M:List Addr) (s:S4),vs=[.ref q]∧GAt C H M q p n s∧∀r,H r=none→Q (.ref r) (upd H r (.dK s.ta))
theorem inv40{C:Addr}{ns:List Str}{n e:Int}(h1:1≤e)(h2:e≤200):(T4 C).inv ns n (s40 e) []:=⟨⟨KeysIn.nil,by simp,List.Pairwise.nil⟩,⟨TI.nil,by simp,h1,h2⟩⟩
end N23
namespace L2
noncomputable def tMethI{ι:Type}(C:ι→Addr)(m:Str)(sp:ι→Sp)(EE:St→XK)(ta:TE)(t:TA):TE:=fun σ H Q=>ta σ H fun x H1=>∃b a dx fs,x= .ref a∧H1 a=some (.ins (C b) dx fs)∧fs.lookup m=none∧t σ H1 fun vs H2=>sp b (x::vs) H2 Q (EE σ)
section
variable {ι:Type} {X:Cx} {CX:CXT} {k j:Nat} {C:ι→Addr} {ps:List Str} {sp:ι→Sp} {EE:St→XK} {m:Str} {pos apos:Pos} {e o:Expr} {es:List Expr} {ta:TE} {t:TA}
theorem pe_methI{pl:Sem Bool}(D:∀b,DefM X.prog X.w X.K X.mg X.base CX j (C b) m ps (sp b))(c:∀b,Cls X.K (C b))(hr:Room k X.A)(hx:PassesS CX X EE)(he:PE X o ta)(ha:PA X (e::es) t)(hj:j≤k:=by decide)
 (hst:starEach (e::es) X.env=(false,eval e X.env)::starEach es X.env:=by rfl) (hpl:(backTo pos (starEach es X.env)).any (·.1)=false:=by rfl)
 (ht:eval (.Call (.Attribute o m apos) (e::es) [] pos) X.env=(do
  let ov ← eval o X.env
  standAt apos.atName
  let (f,first) ← holding [ov] (getMethod ov m pl)
  callWith pos f first (backTo pos (starEach (e::es) X.env)) (backToKw pos (keywordEach [] X.env))):=by rfl):
 PE X (.Call (.Attribute o m apos) (e::es) [] pos) (tMethI C m sp EE ta t):=by
 intro pins s σ H Q I h
 refine PySem.W.methodCall_KW (pl:=pl) (thn (he pins s σ H _ I h) fun u s1 hq_=>?_) ht
 obtain ⟨x,H1,I1,rx,b,a,dx,fs,ex,ea,l,q⟩:=hq_
 obtain ⟨f,fd,F,hm,hb⟩:=(D b).ex
 subst ex
 obtain rfl:u=Value.ref a:=rx
 refine getmeth_ok I1 ea (c b) hm l ?_
 refine PySem.W.callWith_K (first:=[.ref a]) (h₀:=X.base) I.ok.mod.kin hm.kp (thn (ha pos pins s1 σ H1 _ I1 q) fun us s2 ⟨vs,H2,I2,r,q2⟩=>⟨I2.kIn,?_⟩) hst hpl
 exact run_fnS (us:= .ref a::us) (vs:= .ref a::vs) (F.mono hj) hr hb hx I2 (.cons rfl r) q2
theorem rd_methI{σ:St}{H:Hp}{Q:VK}:tMethI C m sp EE ta t σ H Q=ta σ H fun x H1=>∃b a dx fs,x= .ref a∧H1 a=some (.ins (C b) dx fs)∧fs.lookup m=none∧t σ H1 fun vs H2=>sp b (x::vs) H2 Q (EE σ):=rfl
end
noncomputable def rNeDD:R2:=fun x y H Q=>∃a b kvs,x= .ref a∧y= .ref b∧H a=some (.dK kvs)∧H b=some (.dK kvs)∧(∀p∈kvs,flatV p.2=true)∧Q (.bl false) H
section
variable {X:Cx}
theorem op_neDD{k:Nat}(hr:Room k X.A):OpR X (compareOp .NotEq) rNeDD:=by
 intro pins s σ H x y v u Q I rx ry h
 obtain ⟨a,b,kvs,rfl,rfl,h1,h2,fl,q⟩:=h
 cases rx
 cases ry
 obtain ⟨z1,l1,vs,r1,d1⟩:=I.hok a _ h1
 obtain ⟨z2,l2,ws,r2,d2⟩:=I.hok b _ h2
 have e1:=r1.length
 have e2:=r2.length
 have hu:X.A.units < cLine:=Nat.lt_of_le_of_lt (by omega) hr.un
 have hn:(ws.map (·.1)).Nodup:=let ⟨_,_,_,_,_,_,_,_,hn⟩:=d2;hn
 have hits:∀(n:Nat),n≤vs.length→PySem.W.KeqHits X.A.in1 s ws (vs.drop (vs.length - n)) true:=by
  intro n
  induction n with
  | zero=>intro _;rw [Nat.sub_zero,List.drop_length];exact .nil
  | succ n ih=>
   intro hle
   have hi:vs.length - (n+1) < vs.length:=by omega
   rw [List.drop_eq_getElem_cons hi,show vs.length - (n+1)+1=vs.length - n by omega]
   have hv:=List.getElem?_eq_getElem hi
   obtain ⟨p,hp,hpk,hpv⟩:=paired_get r1 hv
   have hj:vs.length - (n+1) < ws.length:=by omega
   have hw:=List.getElem?_eq_getElem hj
   obtain ⟨p2,hp2,hpk2,hpv2⟩:=paired_get r2 hw
   rw [hp]at hp2
   cases hp2
   have f:=fl p (List.mem_of_getElem? hp)
   have heq:=eqAt_V (A:=X.A.in1) (s:=s) hpv hpv2 f f
   rw [eqV_self f]at heq
   have hva:valueAt ws (vs[vs.length - (n+1)]).1=some (ws[vs.length - (n+1)]).2:=by
    refine valueAt_of_get hn (i:=vs.length - (n+1)) ?_
    rw [hw,← hpk,hpk2]
   exact PySem.W.KeqHits.hit (e:=true) (b:=true) hva heq (ih (by omega))
 have hh:=hits vs.length (Nat.le_refl _)
 rw [Nat.sub_self,List.drop_zero]at hh
 refine PySem.W.keq_ne (r:=true) l1 l2 d1 d2 hu (fun _=>hh) ?_
 refine ⟨.bl false,H,I,?_,q⟩
 show Value.bool _=Value.bool _
 rw [show (vs.length==ws.length)=true from beq_iff_eq.mpr (by omega)]
 rfl
theorem rd_neDD{x y:V}{H:Hp}{Q:VK}:rNeDD x y H Q=∃a b kvs,x= .ref a∧y= .ref b∧H a=some (.dK kvs)∧H b=some (.dK kvs)∧(∀p∈kvs,flatV p.2=true)∧Q (.bl false) H:=rfl
end
end L2
namespace N29
open L2 N1 N5 N4 N6 N12 N32 N14 N20 N18 N25 NR N22 N21 N24 N23
inductive W5 where
 | ra | ol | fi | ha | fa
structure C5 where
 ra:Addr
 ol:Addr
 fi:Addr
 ha:Addr
 fa:Addr
noncomputable def W5.C(c:C5):W5→Addr
 | .ra=>c.ra
 | .ol=>c.ol
 | .fi=>c.fi
 | .ha=>c.ha
 | .fa=>c.fa
noncomputable def T5(c:C5)(ys:List Str):W5→RuleT
 | .ra=>T2 c.ra
 | .ol=>T2 c.ol
 | .fi=>T1 c.fi
 | .ha=>T4 c.ha
 | .fa=>T3 c.fa ys
noncomputable def rk5(c:C5)(ys:List Str):(w:W5)→(T5 c ys w).St→Str→List Int
 | .ra,(s:S2),z=>[lv s z]
 | .ol,(s:S2),z=>[lv s z]
 | .fi,(s:S1),z=>[N22.pv s z]
 | .ha,(s:S4),z=>rkH s z
 | .fa,(s:S2),z=>rkF ys s z
noncomputable def TJ(c:C5)(ys ns:List Str):(w:W5)→(T5 c ys w).St→Prop
 | .ra,(s:S2)=>TI ns s.la
 | .ol,(s:S2)=>TI ns s.la
 | .fi,(s:S1)=>TI ns s.pu
 | .ha,(s:S4)=>TI ns s.b.la∧TI ns s.ta
 | .fa,(s:S2)=>TI ns s.la∧0≤s.k∧s.k≤1000
theorem lv_get{s:S2}{ns:List Str}{z:Str}(h:TI ns s.la):(valV s.la (Sum.inr z)).getD (V.int 0)=V.int (lv s z):=h.get
structure L5 where
 k:Int
 la:List (Key×V)
 pu:List (Key×V)
 ta:List (Key×V)
 e:Int
noncomputable def L5.ask(L:L5)(z:Str):L5:=⟨L.k+1,putK L.la (Sum.inr z) (.int (L.k+1)),L.pu,cnt4 L.e L.k L.ta z,L.e⟩
noncomputable def L5.came(L:L5)(z:Str):L5:={L with pu:=putK L.pu (Sum.inr z) (.int L.k)}
noncomputable def proj(c:C5)(ys:List Str):(w:W5)→L5→(T5 c ys w).St
 | .ra,L=>(⟨L.k,L.la⟩:S2)
 | .ol,L=>(⟨L.k,L.la⟩:S2)
 | .fi,L=>(⟨L.k,L.la,L.pu⟩:S1)
 | .ha,L=>(⟨⟨L.k,L.la⟩,L.ta,L.e⟩:S4)
 | .fa,L=>(⟨L.k,L.la⟩:S2)
section
variable {c:C5} {ys ns l:List Str} {w:W5} {n:Int} {z:Str} {L:L5}
theorem p_ask:(T5 c ys w).asked n (proj c ys w L) z=proj c ys w (L.ask z):=by cases w <;> rfl
theorem p_came:(T5 c ys w).came n (proj c ys w L) z=proj c ys w (L.came z):=by cases w <;> rfl
structure LJ(ns:List Str)(L:L5):Prop where
 la:TI ns L.la
 pu:TI ns L.pu
 ta:TI ns L.ta
 k0:0≤L.k
 e1:1≤L.e
 e2:L.e≤200
theorem LJ.tj(h:LJ ns L)(hk:L.k≤1000):TJ c ys ns w (proj c ys w L):=by
 cases w with
 | ra=>exact h.la
 | ol=>exact h.la
 | fi=>exact h.pu
 | ha=>exact ⟨h.la,h.ta⟩
 | fa=>exact ⟨h.la,h.k0,hk⟩
theorem LJ.ask(h:LJ ns L)(hz:z∈ns):LJ ns (L.ask z):=⟨h.la.put hz,h.pu,(cnt4_ok h.ta hz).1,by show 0≤L.k+1;have:=h.k0;omega,h.e1,h.e2⟩
noncomputable def l50(e:Int):L5:=⟨0,[],[],[],e⟩
theorem lj0{e:Int}(h1:1≤e)(h2:e≤200):LJ ns (l50 e):=⟨TI.nil,TI.nil,TI.nil,Int.le_refl _,h1,h2⟩
theorem inv50{e:Int}(h1:1≤e)(h2:e≤200):(T5 c ys w).inv ns n (proj c ys w (l50 e)) []:=by
 have li:LI ns s20 []:=⟨KeysIn.nil,by simp,List.Pairwise.nil⟩
 cases w with
 | ra=>exact li
 | ol=>exact li
 | fi=>exact ⟨KeysIn.nil,KeysIn.nil,by simp,List.Pairwise.nil⟩
 | ha=>exact inv40 h1 h2
 | fa=>exact ⟨li,Int.le_refl _⟩
noncomputable def dueR(ys:List Str)(L:L5)(z:Str):W5→List Int
 | .ra=>[tvK L.la (Sum.inr z)]
 | .ol=>[tvK L.la (Sum.inr z)]
 | .fi=>[tvK L.pu (Sum.inr z)]
 | .ha=>[tvK L.ta (Sum.inr z),tvK L.la (Sum.inr z)]
 | .fa=>[0 - ((nx ys L.k.toNat z:Int)+1),tvK L.la (Sum.inr z)]
theorem due_rk:dueR ys L z w=rk5 c ys w (proj c ys w L) z:=by cases w <;> rfl
end
theorem obj5{c:C5}{ys:List Str}{w:W5}{H:Hp}{M:List Addr}{q p:Addr}{n:Int}{s:(T5 c ys w).St}(h:(T5 c ys w).At H M q p n s):∃dx fs,H q=some (.ins (w.C c) dx fs)∧∀m∈[Str.ofString "asked",Str.ofString "rank",Str.ofString "choice",Str.ofString "gone",Str.ofString "came",Str.ofString "counts"],fs.lookup m=none:=by
 have nn:∀(fs:List (Str×V)),fs.lookup (Str.ofString "asked")=none→fs.lookup (Str.ofString "rank")=none→fs.lookup (Str.ofString "choice")=none→fs.lookup (Str.ofString "gone")=none→fs.lookup (Str.ofString "came")=none→fs.lookup (Str.ofString "counts")=none→∀m∈[Str.ofString "asked",Str.ofString "rank",Str.ofString "choice",Str.ofString "gone",Str.ofString "came",Str.ofString "counts"],fs.lookup m=none:=by
  intro fs a1 a2 a3 a4 a5 a6 m hm
  simp only [List.mem_cons,List.not_mem_nil,or_false]at hm
  rcases hm with e | e | e | e | e | e <;> rw [e] <;> assumption
 cases w with
 | ra=>obtain ⟨la,_,⟨dx,ho⟩,_⟩:=(h:OAt c.ra H M q p n s);exact ⟨dx,_,ho,nn _ rfl rfl rfl rfl rfl rfl⟩
 | ol=>obtain ⟨la,_,⟨dx,ho⟩,_⟩:=(h:OAt c.ol H M q p n s);exact ⟨dx,_,ho,nn _ rfl rfl rfl rfl rfl rfl⟩
 | fi=>obtain ⟨la,pa,_,_,⟨dx,ho⟩,_⟩:=(h:FAt c.fi H M q p n s);exact ⟨dx,_,ho,nn _ rfl rfl rfl rfl rfl rfl⟩
 | ha=>obtain ⟨la,ta,_,⟨dx,ho⟩,_⟩:=(h:GAt c.ha H M q p n s);exact ⟨dx,_,ho,nn _ rfl rfl rfl rfl rfl rfl⟩
 | fa=>obtain ⟨la,ak,_,⟨dx,ho⟩,_⟩:=(h:QAt c.fa ys H M q p n s);exact ⟨dx,_,ho,nn _ rfl rfl rfl rfl rfl rfl⟩
noncomputable def sp29_asked(c:C5)(w:W5):Sp:=fun vs H Q E=>∃ys:List Str,ys.length≤1000∧spR_asked (T5 c ys w) vs H Q E
noncomputable def sp29_rank(c:C5)(w:W5):Sp:=fun vs H Q _=>∃(ys:List Str) (q p:Addr) (n:Int) (M:List Addr) (s:(T5 c ys w).St) (z:Str) (ns:List Str),ys.length≤1000∧vs=[.ref q,.str z]∧(T5 c ys w).At H M q p n s∧TJ c ys ns w s∧∀t,H t=none→Q (.ref t) (upd H t (.tup ((rk5 c ys w s z).map V.int)))
noncomputable def sp29_last2(C:Addr):Sp:=fun vs H Q _=>∃(q p:Addr) (n:Int) (M:List Addr) (s:S2) (z:Str) (ns:List Str),vs=[.ref q,.str z]∧OAt C H M q p n s∧TI ns s.la∧Q (.int (lv s z)) H
noncomputable def sp29_last4(C:Addr):Sp:=fun vs H Q _=>∃(q p:Addr) (n:Int) (M:List Addr) (s:S4) (z:Str) (ns:List Str),vs=[.ref q,.str z]∧GAt C H M q p n s∧TI ns s.b.la∧Q (.int (lv s.b z)) H
noncomputable def sp29_last3(C:Addr):Sp:=fun vs H Q _=>∃(ys:List Str) (q p:Addr) (n:Int) (M:List Addr) (s:S2) (z:Str) (ns:List Str),vs=[.ref q,.str z]∧QAt C ys H M q p n s∧TI ns s.la∧Q (.int (lv s z)) H
end N29
namespace L2
theorem rcGt_int(A:Around)(s:Shared)(a:Int)(t:Tok)(c:Int)(u:Tok)(prog:Program)(w:World)(E:Value→Shared→Prop)(Q:Value→Shared→Prop)(h:Q (.bool (decide (c < a))) s):
 wpAny (model prog w) A (richCompare .Gt (.int a t) (.int c u)) Q E s:=
 (PyProof.Rows.gt_int h:wpAny (model prog w) A (compareOp .Gt (.int a t) (.int c u)) Q E s)
section
open PySem.SeqAt
open PySem.AutoSeq1 (wpAny_loadPart')
open PySem.MeetsSeq PySem.MeetsSeq2 PySem.MeetsSeq3
theorem tup_gt(l b:Addr)(as bs:Array Value)(n n2:Nat)(dd dd2:Option Addr)(sl sl2:Array (Option Value))(ns ms:List Int)(hi:IntsAre as.toList ns)(hj:IntsAre bs.toList ms):
 Meets (Builtin.«tuple.__gt__» ⟨[.ref l,.ref b],[]⟩)
  (fun _ R s=>s.heap.get? l=some {cls:= .type "tuple",dict:=dd,data:= .seq as n,slots:=sl}∧s.heap.get? b=some {cls:= .type "tuple",dict:=dd2,data:= .seq bs n2,slots:=sl2}∧
   R (.ok (.ret (.bool (HT.lexLt ms ns)))) s):=
 .of_wp fun prog w A R s h=>by
  obtain ⟨hp,g,d,tk,os⟩:=s;obtain ⟨hl,hb,h⟩:=h
  have f2:=AutoSeq1.sub_tuple_tuple
  have z1:as.size=ns.length:=by rw [← hi.length];simp
  have z2:bs.size=ms.length:=by rw [← hj.length];simp
  wp_walk using wpAny_loadPart' hl,wpAny_loadPart' hb,wpAny_forIn_list _ (fun rest b s'=>b.1=none∧s'=⟨hp,g,d,tk,os⟩∧∃(vs ws:List Value) (ns' ms':List Int),rest=vs.zip ws∧
   IntsAre vs ns'∧IntsAre ws ms'∧ns'.length+bs.size=ms'.length+as.size∧R (.ok (.ret (.bool (HT.lexLt ms' ns')))) ⟨hp,g,d,tk,os⟩) _
  case turn=>
   rintro ⟨y,x⟩ rest b s' ⟨hb',rfl,vs,ws,ns',ms',hz,hvi,hwi,hlen,hR⟩
   cases hvi with
   | nil=>rw [List.zip_nil_left]at hz;cases hz
   | cons a t hvi'=>
    cases hwi with
    | nil=>rw [List.zip_nil_right]at hz;cases hz
    | cons c u hwi'=>
     rw [List.zip_cons_cons]at hz
     injection hz with hyx hrest
     injection hyx with hy hx
     subst hy hx
     rw [HT.lexLt_cons]at hR
     simp only [List.length_cons]at hlen
     obtain ⟨e,he,hiff⟩:=HT.eqAt_int A.in1 ⟨hp,g,d,tk,os⟩ a t c u
     refine wpAny_bind (he prog w _ _ ?_)
     cases e with
     | true=>
      rw [if_pos (hiff.mp rfl).symm]at hR
      wp_walk
      exact ⟨rfl,rfl,_,_,_,_,hrest,hvi',hwi',by omega,hR⟩
     | false=>
      rw [if_neg (fun q=>absurd (hiff.mpr q.symm) Bool.false_ne_true)]at hR
      have hri:=rcGt_int A.in1 ⟨hp,g,d,tk,os⟩ a t c u prog w
      wp_walk using hri
      exact ⟨_,rfl,by simpa using hR⟩
  case fin=>
   rintro ⟨b1,b2⟩ s' ⟨hb',rfl,vs,ws,ns',ms',hz,hvi,hwi,hlen,hR⟩
   simp only at hb'
   subst hb'
   have hv:HT.lexLt ms' ns'=decide (bs.size < as.size):=by
    cases hvi with
    | nil=>
     cases hwi with
     | nil=>
      simp only [List.length_nil]at hlen
      rw [HT.lexLt_nil_nil]
      exact (decide_eq_false (by omega)).symm
     | cons c u hw=>
      simp only [List.length_nil,List.length_cons]at hlen
      rw [HT.lexLt_cons_nil]
      exact (decide_eq_false (by omega)).symm
    | cons a t hv=>
     cases hwi with
     | nil=>
      simp only [List.length_nil,List.length_cons]at hlen
      rw [HT.lexLt_nil_cons]
      exact (decide_eq_true (by omega)).symm
     | cons c u hw=>
      rw [List.zip_cons_cons]at hz
      cases hz
   rw [hv]at hR
   wp_walk
   exact ⟨_,rfl,by simpa [Builtin.Tuple.tupleCompareSizes] using hR⟩
  case h=>
   exact ⟨rfl,rfl,as.toList,bs.toList,ns,ms,rfl,hi,hj,by omega,h⟩
end
section
variable {prog:Program} {w:World} {A:Around} {E:Value→Shared→Prop} {s:Shared}
theorem gt_tups{l b:Addr}{as bs:Array Value}{ns ms:List Int}{Q:Value→Shared→Prop}(hl:IsTup s.heap l as)(hb:IsTup s.heap b bs)(hi:IntsAre as.toList ns)(hj:IntsAre bs.toList ms)
 (hu:A.units < cLine) (h:Q (.bool (HT.lexLt ms ns)) s):wpAny (model prog w) A (compareOp .Gt (.ref l) (.ref b)) Q E s:=by
 obtain ⟨⟨cls,dd,data,sl⟩,ho,hc,n,hd⟩:=id hl
 obtain ⟨⟨cls2,dd2,data2,sl2⟩,ho2,hc2,n2,hd2⟩:=id hb
 simp only at hc hd hc2 hd2
 subst hc hd hc2 hd2
 exact richCompare_meets_room (op:= .Gt) ⟨_,ho,rfl⟩ ⟨_,ho2,rfl⟩ PySem.F.slot_tuple_gt PySem.F.entry_tuple_gt (PySem.F.args_tuple_gt_2 _ _) (tup_gt l b as bs n n2 dd dd2 sl sl2 ns ms hi hj)
  ⟨ho,ho2,show Value.bool (HT.lexLt ms ns)≠Value.notImplemented∧Q (.bool (HT.lexLt ms ns)) s from ⟨(fun x=>nomatch x),h⟩⟩ hu
end
noncomputable def rGtT(K:PySem.W.Frag):R2:=fun x y H Q=>∃a b ns ms,x= .ref a∧y= .ref b∧SqT K H a (ns.map V.int)∧SqT K H b (ms.map V.int)∧Q (.bl (HT.lexLt ms ns)) H
section
variable {X:Cx}
theorem op_gtTr{k:Nat}(hr:Room k X.A):OpR X (compareOp .Gt) (rGtT X.K):=by
 intro pins s σ H x y v u Q I rx ry h
 obtain ⟨a,b,ns,ms,rfl,rfl,ha,hb,q⟩:=h
 cases rx
 cases ry
 obtain ⟨us,r1,p1,_⟩:=I.tuple ha
 obtain ⟨ws,r2,p2,_⟩:=I.tuple hb
 exact gt_tups p1 p2 (intsAre_of r1) (intsAre_of r2) (Nat.lt_of_le_of_lt (by omega) hr.un) ⟨.bl (HT.lexLt ms ns),H,I,rfl,q⟩
theorem rd_gtT{K:PySem.W.Frag}{x y:V}{H:Hp}{Q:VK}:rGtT K x y H Q=∃a b ns ms,x= .ref a∧y= .ref b∧SqT K H a (ns.map V.int)∧SqT K H b (ms.map V.int)∧Q (.bl (HT.lexLt ms ns)) H:=rfl
end
section
variable {ι:Type} {X:Cx} {CX:CXT} {k j:Nat} {C:ι→Addr} {ps:List Str} {sp:ι→Sp} {EE:St→XK} {m:Str} {pos apos:Pos} {o:Expr} {ta:TE}
theorem pe_methI0{pl:Sem Bool}(D:∀b,DefM X.prog X.w X.K X.mg X.base CX j (C b) m ps (sp b))(c:∀b,Cls X.K (C b))(hr:Room k X.A)(hx:PassesS CX X EE)(he:PE X o ta)(hj:j≤k:=by decide)
 (ht:eval (.Call (.Attribute o m apos) [] [] pos) X.env=(do
  let ov ← eval o X.env
  standAt apos.atName
  let (f,first) ← holding [ov] (getMethod ov m pl)
  callWith pos f first (backTo pos (starEach [] X.env)) (backToKw pos (keywordEach [] X.env))):=by rfl):
 PE X (.Call (.Attribute o m apos) [] [] pos) (tMethI C m sp EE ta tNil):=by
 intro pins s σ H Q I h
 refine PySem.W.methodCall_KW (pl:=pl) (thn (he pins s σ H _ I h) fun u s1 hq_=>?_) ht
 obtain ⟨x,H1,I1,rx,b,a,dx,fs,ex,ea,l,q⟩:=hq_
 obtain ⟨f,fd,F,hm,hb⟩:=(D b).ex
 subst ex
 obtain rfl:u=Value.ref a:=rx
 refine getmeth_ok I1 ea (c b) hm l ?_
 exact PySem.W.callWith_K0 (first:=[.ref a]) I1.kIn hm.kp (run_fnS (us:=[.ref a]) (vs:=[.ref a]) (F.mono hj) hr hb hx I1 (.cons rfl .nil) q)
end
end L2
namespace N30
open PySem
noncomputable abbrev Ris(l:List Nat):Prop:=l.Pairwise (· < ·)
theorem go_spec{xs:Array Nat}{j:Nat}(hr:Ris xs.toList):∀(fuel lo hi:Nat),lo≤hi→hi≤xs.size→hi - lo≤fuel→(∀i x,i < lo→xs.toList[i]?=some x→x < j)→(∀i x,hi≤i→xs.toList[i]?=some x→j≤x)→
 SetTable.below.go xs j fuel lo hi≤xs.size∧(∀i x,i < SetTable.below.go xs j fuel lo hi→xs.toList[i]?=some x→x < j)∧∀i x,SetTable.below.go xs j fuel lo hi≤i→xs.toList[i]?=some x→j≤x:=by
 intro fuel
 induction fuel with
 | zero=>
  intro lo hi h1 h2 h3 a b
  have e:lo=hi:=by omega
  subst e
  exact ⟨h2,a,b⟩
 | succ fuel ih=>
  intro lo hi h1 h2 h3 a b
  unfold SetTable.below.go
  by_cases c:lo < hi
  · rw [if_pos c]
    have hm:(lo+hi) / 2 < xs.size:=by omega
    have hg:xs.toList[(lo+hi) / 2]?=some (xs.getD ((lo+hi) / 2) j):=by
     rw [Array.getElem?_toList,Array.getD_eq_getD_getElem?,Array.getElem?_eq_getElem hm];rfl
    have mono:∀i k x y,i < k→xs.toList[i]?=some x→xs.toList[k]?=some y→x < y:=fun i k x y ik hx hy=>by
     obtain ⟨li,ei⟩:=List.getElem?_eq_some_iff.mp hx
     obtain ⟨lk,ek⟩:=List.getElem?_eq_some_iff.mp hy
     rw [← ei,← ek]
     exact (List.pairwise_iff_getElem.mp hr) i k li lk ik
    dsimp only
    by_cases d:xs.getD ((lo+hi) / 2) j < j
    · rw [if_pos d]
      refine ih _ _ (by omega) h2 (by omega) (fun i x hi' hx=>?_) b
      by_cases e:i=(lo+hi) / 2
      · subst e;rw [hg]at hx;cases hx;exact d
      · exact Nat.lt_trans (mono i _ x _ (by omega) hx hg) d
    · rw [if_neg d]
      refine ih _ _ (by omega) (by omega) (by omega) a fun i x hi' hx=>?_
      by_cases e:i=(lo+hi) / 2
      · subst e;rw [hg]at hx;cases hx;exact Nat.le_of_not_lt d
      · exact Nat.le_trans (Nat.le_of_not_lt d) (Nat.le_of_lt (mono _ i _ x (by omega) hg hx))
  · rw [if_neg c]
    have e:lo=hi:=by omega
    subst e
    exact ⟨h2,a,b⟩
theorem below_spec{xs:Array Nat}(hr:Ris xs.toList)(j:Nat):SetTable.below xs j≤xs.size∧(∀i x,i < SetTable.below xs j→xs.toList[i]?=some x→x < j)∧∀i x,SetTable.below xs j≤i→xs.toList[i]?=some x→j≤x:=
 go_spec hr xs.size 0 xs.size (Nat.zero_le _) (Nat.le_refl _) (by omega) (fun i x h=>absurd h (Nat.not_lt_zero _)) fun i x h hx=>by
  obtain ⟨li,_⟩:=List.getElem?_eq_some_iff.mp hx
  rw [Array.length_toList]at li;omega
theorem below_at{xs:Array Nat}(hr:Ris xs.toList){j k:Nat}(hk:k≤xs.size)(a:∀i x,i < k→xs.toList[i]?=some x→x < j)(b:∀i x,k≤i→xs.toList[i]?=some x→j≤x):SetTable.below xs j=k:=by
 obtain ⟨h1,h2,h3⟩:=below_spec hr j
 rcases Nat.lt_trichotomy (SetTable.below xs j) k with h | h | h
 · have l:SetTable.below xs j < xs.toList.length:=by rw [Array.length_toList];omega
   have:=a _ _ h (List.getElem?_eq_getElem l)
   have:=h3 _ _ (Nat.le_refl _) (List.getElem?_eq_getElem l)
   omega
 · exact h
 · have l:k < xs.toList.length:=by rw [Array.length_toList];omega
   have:=h2 _ _ h (List.getElem?_eq_getElem l)
   have:=b _ _ (Nat.le_refl _) (List.getElem?_eq_getElem l)
   omega
theorem ris_insert{xs:Array Nat}(hr:Ris xs.toList){j:Nat}(n:xs[SetTable.below xs j]?≠some j):Ris (SetTable.insertAt xs (SetTable.below xs j) j).toList:=by
 obtain ⟨h1,h2,h3⟩:=below_spec hr j
 rw [SetTable.toList_insertAt]
 have hm:∀x∈xs.toList.take (SetTable.below xs j),x < j:=fun x hx=>by
  obtain ⟨i,hi⟩:=List.mem_iff_getElem?.mp hx
  rw [List.getElem?_take]at hi
  split at hi
  · rename_i c;exact h2 i x c hi
  · cases hi
 have hd:∀x∈xs.toList.drop (SetTable.below xs j),j < x:=fun x hx=>by
  obtain ⟨i,hi⟩:=List.mem_iff_getElem?.mp hx
  rw [List.getElem?_drop]at hi
  refine Nat.lt_of_le_of_ne (h3 _ x (Nat.le_add_right _ _) hi) fun e=>?_
  subst e
  by_cases c:i=0
  · subst c
    rw [Nat.add_zero,Array.getElem?_toList]at hi
    exact n hi
  · have l:SetTable.below xs j < xs.toList.length:=by
     obtain ⟨li,_⟩:=List.getElem?_eq_some_iff.mp hi
     omega
    obtain ⟨li,ei⟩:=List.getElem?_eq_some_iff.mp hi
    have a1:=(List.pairwise_iff_getElem.mp hr) (SetTable.below xs j) (SetTable.below xs j+i) l li (by omega)
    have a2:=h3 _ _ (Nat.le_refl _) (List.getElem?_eq_getElem l)
    rw [ei]at a1
    omega
 refine List.pairwise_append.mpr ⟨hr.sublist (List.take_sublist _ _),List.pairwise_cons.mpr ⟨hd,hr.sublist (List.drop_sublist _ _)⟩,fun a ha b hb=>?_⟩
 rcases List.mem_cons.mp hb with e | hb
 · subst e;exact hm a ha
 · exact Nat.lt_trans (hm a ha) (hd b hb)
structure TabOk(t:SetTable)(n:Nat)(led:Bool):Prop where
 led:t.led=led
 dum:t.dummies=#[]
 ris:t.plain=true→Ris t.place.toList
 fit:t.fits n=true
theorem has_nil(j:Nat):SetTable.has #[] j=false:=by
 unfold SetTable.has
 simp
theorem probe_free{t:SetTable}(hd:t.dummies=#[]){f:Nat→Int}{h:Int}:∀(fuel:Nat) (p:SetTable.Probe) (j:Nat) (d:Option Nat),p.dummy=none→SetTable.probe.go t f h fuel p=some (.empty j d)→d=none∧t.place[SetTable.below t.place j]?≠some j:=by
 intro fuel
 induction fuel with
 | zero=>intro p j d _ e;cases e
 | succ fuel ih=>
  intro p j d hp e
  have adv:∀q:SetTable.Probe,q.dummy=none→(t.advance q).dummy=none:=fun q hq=>by
   unfold SetTable.advance
   split
   · exact hq
   · exact hq
  unfold SetTable.probe.go at e
  unfold SetTable.slot at e
  dsimp only at e
  by_cases c:(t.place[SetTable.below t.place p.j]?==some p.j)=true
  · rw [if_pos c]at e
    dsimp only at e
    split at e
    · cases e
    · exact ih _ _ _ (adv p hp) e
  · rw [if_neg c,hd,has_nil]at e
    simp only [Bool.false_eq_true,if_false,Option.some.injEq,SetTable.Met.empty.injEq]at e
    obtain ⟨rfl,rfl⟩:=e
    exact ⟨hp,fun z=>c (by rw [z];simp)⟩
theorem free_ok{t:SetTable}(hd:t.dummies=#[]){h:Int}{j:Nat}{b:Bool}(e:t.freeSlot h=some (j,b)):t.place[SetTable.below t.place j]?≠some j:=by
 unfold SetTable.freeSlot at e
 split at e
 · rename_i j' d hp
   obtain ⟨rfl,h2⟩:=probe_free hd _ _ j' d rfl hp
   simp only [Option.getD_none,Option.some.injEq,Prod.mk.injEq]at e
   rw [← e.1];exact h2
 · cases e
theorem layNew_ok{t:SetTable}{n:Nat}{led:Bool}(T:TabOk t n led)(es:Array (Int×Value))(h:Int)(x:Value):TabOk (layNew t es h x).2.1 (layNew t es h x).1.size led:=by
 refine ⟨?_,?_,?_,layNew_fits t es h x⟩
 · unfold layNew
   split
   · dsimp only
     unfold SetTable.orStandIn
     split
     · exact T.led
     · exact T.led
   · exact T.led
 · unfold layNew
   split
   · dsimp only
     unfold SetTable.orStandIn
     split
     · unfold SetTable.put
       dsimp only
       rw [T.dum,has_nil];rfl
     · rfl
   · rfl
 · intro hp
   unfold layNew at hp ⊢
   split at hp
   · rename_i slot wd hf
     dsimp only at hp ⊢
     unfold SetTable.orStandIn at hp ⊢
     split at hp
     · rename_i c
       rw [if_pos c]
       unfold SetTable.put at hp ⊢
       dsimp only at hp ⊢
       exact ris_insert (T.ris hp) (free_ok T.dum hf)
     · cases hp
   · cases hp
theorem laid_ris{mask:Nat}{owner:Array (Option Nat)}:Ris (((List.range (mask+1)).filterMap fun j=>(owner.getD j none).map (j,·)).map (·.1)):=by
 have key:∀l:List Nat,Ris l→Ris ((l.filterMap fun j=>(owner.getD j none).map (j,·)).map (·.1))∧∀x∈(l.filterMap fun j=>(owner.getD j none).map (j,·)).map (·.1),x∈l:=by
  intro l
  induction l with
  | nil=>intro _;exact ⟨.nil,fun x h=>by cases h⟩
  | cons a r ih=>
   intro h
   obtain ⟨h1,h2⟩:=List.pairwise_cons.mp h
   obtain ⟨i1,i2⟩:=ih h2
   rw [List.filterMap_cons]
   cases e:owner.getD a none with
   | none=>exact ⟨i1,fun x hx=> .tail _ (i2 x hx)⟩
   | some k=>
    dsimp only [Option.map_some]
    rw [List.map_cons]
    refine ⟨List.pairwise_cons.mpr ⟨fun x hx=>h1 x (i2 x hx),i1⟩,fun x hx=>?_⟩
    rcases List.mem_cons.mp hx with e | hx
    · subst e;exact .head _
    · exact .tail _ (i2 x hx)
 exact (key _ List.pairwise_lt_range).1
theorem relaid_ok{t t':SetTable}{hs:Array Int}{wanted:Nat}{order:Array Nat}(e:t.relaid hs wanted=some (t',order)):t'.led=t.led∧t'.dummies=#[]∧Ris t'.place.toList:=by
 unfold SetTable.relaid SetTable.laid at e
 cases o:SetTable.layClean (SetTable.sizeAbove wanted - 1) hs with
 | none=>rw [o]at e;cases e
 | some owner=>
  rw [o]at e
  simp only [Option.bind_eq_bind,Option.bind_some,Option.pure_def,Option.some.injEq,Prod.mk.injEq]at e
  obtain ⟨e,_⟩:=e
  subst e
  exact ⟨rfl,rfl,laid_ris⟩
theorem relayAll_ok{t:SetTable}{n:Nat}{led:Bool}(T:TabOk t n led)(es:Array (Int×Value))(wanted:Nat):TabOk (relayAll t es wanted).2.1 (relayAll t es wanted).1.size led:=by
 refine ⟨?_,?_,?_,relayAll_fits t es wanted⟩
 · unfold relayAll
   split
   · rename_i t' order e
     dsimp only
     split
     · exact (relaid_ok e).1.trans T.led
     · exact T.led
   · exact T.led
 · unfold relayAll
   split
   · rename_i t' order e
     dsimp only
     split
     · exact (relaid_ok e).2.1
     · rfl
   · rfl
 · intro hp
   unfold relayAll at hp ⊢
   split at hp
   · rename_i t' order e
     dsimp only at hp ⊢
     split at hp
     · rename_i c;rw [if_pos c];exact (relaid_ok e).2.2
     · cases hp
   · cases hp
theorem plain_off{t:SetTable}{n:Nat}{led:Bool}(T:TabOk t n led):TabOk {t with plain:=false} n led:=⟨T.led,T.dum,(fun h=>by cases h),SetTable.fits_plain_off T.fit⟩
theorem erase_perm{α:Type}:∀(l:List α) (i:Nat) (h:i < l.length),(l[i]::l.eraseIdx i).Perm l:=by
 intro l
 induction l with
 | nil=>intro i h;cases h
 | cons a r ih=>
  intro i h
  cases i with
  | zero=>exact .rfl
  | succ i=>
   have h':i < r.length:=by simpa using h
   show List.Perm (r[i]::a::r.eraseIdx i) (a::r)
   exact (List.Perm.swap a (r[i]) _).trans ((ih i h').cons a)
theorem pick_go{α:Type}{next:Nat→Nat}:∀(fuel k:Nat) (left:List α) (out:Array α),fuel=left.length→(pickOrder.go next fuel k left out).toList.Perm (out.toList++left):=by
 intro fuel
 induction fuel with
 | zero=>
  intro k left out e
  have:left=[]:=List.length_eq_zero_iff.mp e.symm
  subst this
  unfold pickOrder.go
  rw [List.append_nil]
 | succ fuel ih=>
  intro k left out e
  unfold pickOrder.go
  have hl:next k % left.length < left.length:=Nat.mod_lt _ (by omega)
  rw [List.getElem?_eq_getElem hl]
  dsimp only
  refine (ih _ _ _ (by rw [List.length_eraseIdx_of_lt hl];omega)).trans ?_
  rw [Array.toList_push,List.append_assoc]
  refine List.Perm.append_left _ ?_
  exact erase_perm left _ hl
theorem pick_perm{α:Type}(next:Nat→Nat)(xs:Array α):(pickOrder next xs).toList.Perm xs.toList:=by
 have:=pick_go (next:=next) xs.size 0 xs.toList #[] (by rw [Array.length_toList])
 simpa [pickOrder] using this
end N30
namespace L2
section
variable {prog:Program} {w:World} {A:Around}
noncomputable abbrev newSet(led:Bool):Obj:={cls:= .type "set",dict:=none,data:= .set #[] 0 (.fresh 0 0 led)}
variable {E:Value→Shared→Prop} {s:Shared}
end
end L2
namespace L2
open N30
noncomputable def byT(w:World):Bool:=w.params.followText "set-order"
section
variable {prog:Program} {w:World} {K:Type} [DecidableEq K] (knd:PySem.KeyKind prog w K)
noncomputable def SetX(h:Heap)(a:Addr)(S:K→Bool)(n:Nat):Prop:=
 ∃o es ep t,h.get? a=some o∧o.ExactSet∧o.data= .set es ep t∧ElemsOf knd es.toList∧(∀k,S k=true↔∃e∈es.toList,knd.is k e.2=true)∧es.size < scanBound∧TabOk t es.size (!byT w)∧es.size=n
variable {knd} {A:Around} {E:Value→Shared→Prop} {s:Shared}
theorem SetX.at{h h':Heap}{a:Addr}{S:K→Bool}{n:Nat}(q:SetX knd h a S n)(k:∀o,h.get? a=some o→h'.get? a=some o):SetX knd h' a S n:=let ⟨o,es,ep,t,ho,r⟩:=q;⟨o,es,ep,t,k o ho,r⟩
theorem SetX.congr{h:Heap}{a:Addr}{S S':K→Bool}{n n':Nat}(q:SetX knd h a S n)(e:∀k,S k=S' k)(en:n=n'):SetX knd h a S' n':=by
 have:S=S':=funext e
 subst this;subst en;exact q
theorem putX{h:Heap}{a:Addr}{o:Obj}{es es':Array (Int×Value)}{ep:Nat}{t t':SetTable}{S':K→Bool}(ho:h.get? a=some o)(hex:o.ExactSet)(hd:o.data= .set es ep t)
 (hel:ElemsOf knd es'.toList) (hmem:∀k,S' k=true↔∃e∈es'.toList,knd.is k e.2=true) (hb:es'.size < scanBound) (T:TabOk t' es'.size (!byT w)):
 (h.update a (Obj.putSet es' t')).get? a=some {o with data:= .set es' (ep+1) t'}∧SetX knd (h.update a (Obj.putSet es' t')) a S' es'.size:=by
 obtain ⟨hg,_⟩:=SetOf_store (knd:=knd) ho hex hd hel hmem hb T.fit
 exact ⟨hg,_,es',ep+1,t',hg,hex,rfl,hel,hmem,hb,T,rfl⟩
theorem tailX{g:Bool→Sem Unit}(hg:∀(b:Bool) (s₁:Shared) (Q':Unit→Shared→Prop),Q' () s₁→wpAny (model prog w) A (g b) Q' E s₁){a:Addr}{o:Obj}{es:Array (Int×Value)}{ep:Nat}{t:SetTable}(ho:s.heap.get? a=some o)(hex:o.ExactSet)(hd:o.data= .set es ep t)
 {es1:Array (Int×Value)} {t2:SetTable} {S':K→Bool} (hel1:ElemsOf knd es1.toList) (hmem1:∀k',S' k'=true↔∃e∈es1.toList,knd.is k' e.2=true) (hb1:es1.size < scanBound) (T2:TabOk t2 es1.size (!byT w)) {wasDummy:Bool} {R:Option Bool→Shared→Prop}
 (h:∀h',Heap.SameBut a s.heap h'→SetX knd h' a S' es1.size→R (some true) {s with heap:=h'}):
 wpAny (model prog w) A (do
  storeSet a es1 t2
  if (!wasDummy && t2.tooFull)=true then do
      g (relayAll t2 es1 (SetTable.grown es1.size)).2.2
      storeSet a (relayAll t2 es1 (SetTable.grown es1.size)).1 (relayAll t2 es1 (SetTable.grown es1.size)).2.1
      pure (some true)
   else pure (some true)) R E s:=by
 refine wpAny_bind (wpAny_storeSet_of ho hd ?_ (fits_of_scanBound hb1))
 obtain ⟨ho1,q1⟩:=putX (knd:=knd) ho hex hd hel1 hmem1 hb1 T2
 have sb1:=Heap.SameBut.update s.heap a (Obj.putSet es1 t2)
 split
 · have hp:=relayAll_perm t2 es1 (SetTable.grown es1.size)
   have T3:=relayAll_ok T2 es1 (SetTable.grown es1.size)
   generalize relayAll t2 es1 (SetTable.grown es1.size)=Rl at hp T3 ⊢
   obtain ⟨es2,t3,gv⟩:=Rl
   dsimp only at hp T3 ⊢
   have sz:es2.size=es1.size:=by rw [← Array.length_toList,hp.length_eq,Array.length_toList]
   have hb2:es2.size < scanBound:=by rw [sz];exact hb1
   refine wpAny_bind (hg _ _ _ (wpAny_bind (wpAny_storeSet_of ho1 rfl ?_ (fits_of_scanBound hb2))))
   obtain ⟨_,q2⟩:=putX (knd:=knd) (S':=S') ho1 hex rfl (hel1.perm hp) (fun k'=>(hmem1 k').trans ⟨fun ⟨e,he,q⟩=>⟨e,hp.mem_iff.mpr he,q⟩,fun ⟨e,he,q⟩=>⟨e,hp.mem_iff.mp he,q⟩⟩) hb2 T3
   rw [sz]at q2
   exact wpAny_pure (h _ (sb1.trans (Heap.SameBut.update _ a _)) q2)
 · exact wpAny_pure (h _ sb1 q1)
theorem addX{a:Addr}{S:K→Bool}{n:Nat}{k:K}{x:Value}{Q:Bool→Shared→Prop}(hkey:knd.is k x=true)(hsc:x.scannable=true)(q:SetX knd s.heap a S n)(room:n+1 < scanBound)
 (h:∀h',Heap.SameBut a s.heap h'→SetX knd h' a (fun k'=>S k' || decide (k'=k)) (if S k then n else n+1)→Q (!S k) {s with heap:=h'}):wpAny (model prog w) A (setAddHashed a x (knd.hash k)) Q E s:=by
 obtain ⟨o,es,ep,t,ho,hex,hd,hel,hmem,hb,T,hn⟩:=q
 unfold setAddHashed setAddHashedIn
 refine wpAny_holding (wpAny_bind (wpAny_setState_of ho hd T.fit ?_))
 dsimp only
 rw [byScan_of hsc hb hel]
 simp only [↓reduceIte]
 unfold setAddByScan
 refine wpAny_bind (wpAny_bind (wpAny_rule (wpAny_bind (wpAny_setScan_of hkey ho hd T.fit hel ?_))))
 cases hr:List.findIdx? (fun e=>knd.is k e.2) es.toList with
 | some j=>
  dsimp only
  obtain ⟨hj,hpj,_⟩:=List.findIdx?_eq_some_iff_getElem.mp hr
  have hSk:S k=true:=(hmem k).mpr ⟨es.toList[j],List.getElem_mem hj,hpj⟩
  refine wpAny_pure (wpAny_pure ?_)
  have fin:=h s.heap (Heap.SameBut.refl a s.heap) ⟨o,es,ep,t,ho,hex,hd,hel,fun k'=>by
   rw [Bool.or_eq_true,decide_eq_true_eq,← hmem k']
   exact ⟨fun hk=>hk.elim id (fun e=>e▸hSk),.inl⟩,hb,T,by rw [hSk];exact hn⟩
  rw [hSk]at fin
  have e:s={s with heap:=s.heap}:=by cases s;rfl
  rw [e];exact fin
 | none=>
  dsimp only
  have hSk:S k=false:=by
   cases hk:S k with
   | false=>rfl
   | true=>
    obtain ⟨e,he,hp⟩:=(hmem k).mp hk
    have z:=List.findIdx?_eq_none_iff.mp hr e he
    rw [hp]at z;exact Bool.noConfusion z
  have hgw:∀(b:Bool) {s₁:Shared} {Q':Unit→Shared→Prop},Q' () s₁→wpAny (model prog w) A (match b with | true=>rule "set.scan.the-table-gave-way" | false=>pure ()) Q' E s₁:=fun b s₁ Q' hq=>by cases b <;> first | exact wpAny_pure hq | exact wpAny_rule hq
  have hperm:=layNew_perm t es (knd.hash k) x
  have T1:=layNew_ok T es (knd.hash k) x
  generalize layNew t es (knd.hash k) x=L at hperm T1 ⊢
  obtain ⟨es1,t1,wd,gv⟩:=L
  dsimp only at hperm T1 ⊢
  rw [Array.toList_push]at hperm
  have hel1:ElemsOf knd es1.toList:=(hel.push hkey hsc).perm hperm
  have hmem1:∀k',(S k' || decide (k'=k))=true↔∃e∈es1.toList,knd.is k' e.2=true:=mem_push_iff hkey hmem hperm
  have hs1:es1.size=n+1:=by rw [← Array.length_toList,hperm.length_eq,List.length_append,Array.length_toList,hn];rfl
  have hb1:es1.size < scanBound:=by rw [hs1];exact room
  refine wpAny_bind (hgw _ ?_)
  have fin:∀h',Heap.SameBut a s.heap h'→SetX knd h' a (fun k'=>S k' || decide (k'=k)) es1.size→Q true {s with heap:=h'}:=fun h' sb q'=>by
   have z:=h h' sb
   rw [hSk]at z;rw [hs1]at q';exact z q'
  split
  · refine wpAny_bind ?_
    rw [hashByValue_scannable 8 hsc]
    refine wpAny_pure (tailX ?_ ho hex hd hel1 hmem1 hb1 ?_ ?_)
    · intro b s₁ Q' hq;cases b <;> first | exact wpAny_pure hq | exact wpAny_rule hq
    · split
      · exact T1
      · exact plain_off T1
    · intro h' sb q';dsimp only;exact wpAny_pure (fin h' sb q')
  · refine wpAny_bind (wpAny_pure ?_)
    simp only [↓reduceIte]
    refine tailX ?_ ho hex hd hel1 hmem1 hb1 T1 ?_
    · intro b s₁ Q' hq;cases b <;> first | exact wpAny_pure hq | exact wpAny_rule hq
    · intro h' sb q';dsimp only;exact wpAny_pure (fin h' sb q')
theorem newX(a:Value){Q₁:Value→Shared→Prop}(h:Q₁ (.ref s.heap.objs.size) {s with heap:=s.heap.push (newSet (!byT w))}):
 codeAny (model prog w) A (.call (.builtin "set.__new__") ⟨[.type "set",a],[]⟩) (wants Q₁ E) s:=by
 refine codeAny_of_tree ?_
 show wpAny _ A.in1 (do checkBuiltinCall "set.__new__" ⟨[.type "set",a],[]⟩;again (.builtin "set.__new__" ⟨[.type "set",a],[]⟩)) _ _ s
 refine wpAny_bind (wpAny_of_eq (F.newCall_set_1 a) (wpAny_pure ⟨plainId_quiet F.plain_set_new _,codeAny_builtin F.entry_set_new ?_⟩))
 rw [Around.under_plainId F.plain_set_new _]
 unfold Builtin.«set.__new__» Builtin.Frozenset.newClass
 have hsub:=sub_set_self
 obtain ⟨hp,g,d,tk,os⟩:=s
 dsimp only
 wp_walk
 refine wpAny_askSetting (wpAny_pure ?_)
 dsimp only
 simp only [newObj]
 exact wpAny_bind (wpAny_alloc (wpAny_pure (wpAny_pure h)))
end
theorem slot_si_next:Slot "set_iterator" "__next__" "set_iterator.__next__":=
 .of (owner:="set_iterator") (n:="__next__") (by rw [typeLookup_type,builtinLookup_eq_fast];kernel_rfl) (by decide+kernel) (by decide+kernel) (by decide+kernel)
  (by first | exact .inl (by decide+kernel) | exact .inr (by decide+kernel)) (by rw [isSubtype_type];kernel_rfl)
theorem entry_si_next:entryFor table "set_iterator.__next__"=some Builtin.«set_iterator.__next__»:=entryFor_of_tree (by kernel_rfl)
theorem args_si_next(a:Value):argsOk "set_iterator.__next__" ⟨[a],[]⟩:=by unfold argsOk;kernel_rfl
theorem slot_si_iter:Slot "set_iterator" "__iter__" "set_iterator.__iter__":=
 .of (owner:="set_iterator") (n:="__iter__") (by rw [typeLookup_type,builtinLookup_eq_fast];kernel_rfl) (by decide+kernel) (by decide+kernel) (by decide+kernel)
  (by first | exact .inl (by decide+kernel) | exact .inr (by decide+kernel)) (by rw [isSubtype_type];kernel_rfl)
theorem entry_si_iter:entryFor table "set_iterator.__iter__"=some Builtin.«dict_keyiterator.__iter__»:=entryFor_alias (id':="dict_keyiterator.__iter__") (by kernel_rfl) rfl (by decide+kernel) (by kernel_rfl)
theorem args_si_iter(a:Value):argsOk "set_iterator.__iter__" ⟨[a],[]⟩:=by unfold argsOk;kernel_rfl
theorem entry_set_iter:entryFor table "set.__iter__"=some Builtin.«frozenset.__iter__»:=entryFor_alias (id':="frozenset.__iter__") (by kernel_rfl) rfl (by decide+kernel) (by kernel_rfl)
noncomputable def SetIt(h:Heap)(I:Addr)(f:Value)(i:Nat)(a:Addr)(n ep:Nat):Prop:=∃o,h.get? I=some o∧o.cls= .type "set_iterator"∧o.data= .fields #[f,.int i 0,.ref a,.int n 0,.int ep 0]
theorem SetIt.at{h h':Heap}{I a:Addr}{f:Value}{i n ep:Nat}(q:SetIt h I f i a n ep)(k:∀o,h.get? I=some o→h'.get? I=some o):SetIt h' I f i a n ep:=let ⟨o,ho,r⟩:=q;⟨o,k o ho,r⟩
noncomputable def SetRaw(h:Heap)(a:Addr)(es:Array (Int×Value))(ep:Nat)(t:SetTable):Prop:=∃o,h.get? a=some o∧o.ExactSet∧o.data= .set es ep t
theorem SetRaw.at{h h':Heap}{a:Addr}{es:Array (Int×Value)}{ep:Nat}{t:SetTable}(q:SetRaw h a es ep t)(k:∀o,h.get? a=some o→h'.get? a=some o):SetRaw h' a es ep t:=let ⟨o,ho,r⟩:=q;⟨o,k o ho,r⟩
section
variable {prog:Program} {w:World} {A:Around} {E:Value→Shared→Prop} {s:Shared} {a I:Addr} {es:Array (Int×Value)} {ep:Nat} {t:SetTable} {f:Value} {i n:Nat}
theorem byText_go{Q:Bool→Shared→Prop}(h:Q (byT w) s):wpAny (model prog w) A setsByText Q E s:=by
 unfold setsByText
 exact wpAny_bind (wpAny_askSetting (wpAny_pure h))
theorem next_text{slot:Nat}{Q:Option (Value×Nat)→Shared→Prop}(hr:SetRaw s.heap a es ep t)(hf:t.fits es.size=true)(hb:byT w=true)(h:Q (((pickOrder (w.params.setOrder a ep) es)[i]?).map fun e=>(e.2,slot)) s):wpAny (model prog w) A (setNext a slot i ep) Q E s:=by
 obtain ⟨o,ho,hx,hd⟩:=hr
 unfold setNext
 refine wpAny_bind (wpAny_setState_of ho hd hf (wpAny_bind (byText_go ?_)))
 rw [hb]
 simp only [if_true]
 rw [if_neg (by simp)]
 refine wpAny_bind ?_
 unfold setWalk
 refine wpAny_bind (wpAny_setState_of ho hd hf (wpAny_bind (byText_go ?_)))
 rw [hb]
 simp only [if_true]
 exact wpAny_bind (wpAny_askSetting (wpAny_pure (wpAny_pure h)))
theorem next_slot{slot:Nat}{Q:Option (Value×Nat)→Shared→Prop}(hr:SetRaw s.heap a es ep t)(hf:t.fits es.size=true)(hb:byT w=false)(hl:t.led=true)(hn:(!t.plain && decide (es.size > 1))=false)
 (h:Q (match es[SetTable.below t.place slot]?,t.place[SetTable.below t.place slot]? with | some (_,x),some j=>some (x,j+1) | _,_=>none) s):wpAny (model prog w) A (setNext a slot i ep) Q E s:=by
 obtain ⟨o,ho,hx,hd⟩:=hr
 unfold setNext
 refine wpAny_bind (wpAny_setState_of ho hd hf (wpAny_bind (byText_go ?_)))
 rw [hb]
 simp only [Bool.false_eq_true,if_false]
 refine wpAny_ite_split (fun hc=>absurd (hn.symm.trans (show (!t.plain && decide (es.size > 1))=true from hc)) Bool.false_ne_true) fun _=>?_
 refine wpAny_bind ?_
 show wpAny _ _ (if (!t.led && !es.isEmpty)=true then unsupported _ else pure ()) _ _ _
 rw [hl,if_neg (by simp)]
 exact wpAny_pure (wpAny_pure h)
end
end L2
namespace L2
open N30
section
variable {prog:Program} {w:World} {A:Around} {E:Value→Shared→Prop} {s:Shared} {a I:Addr} {es:Array (Int×Value)} {ep:Nat} {t:SetTable} {f:Value} {i n:Nat}
theorem SetIt.typeIs(q:SetIt s.heap I f i a n ep):s.TypeIs (.ref I) "set_iterator":=let ⟨o,ho,hc,_⟩:=q;⟨o,ho,hc⟩
theorem it_self{Q:Value→Shared→Prop}(q:SetIt s.heap I f i a n ep)(h:Q (.ref I) s):wpAny (model prog w) A (pyIter (.ref I)) Q E s:=by
 refine wpAny_pyIter_slot q.typeIs slot_si_iter (wpAny_call_entry slot_si_iter q.typeIs entry_si_iter ?_ (args_si_iter _))
 show wpAny _ _ (ret (.ref I)) _ _ s
 exact wpAny_pure ⟨_,rfl,"set_iterator",_,q.typeIs,slot_si_next.lookup,h⟩
theorem it_item{slot next:Nat}{x:Value}{Q:Option Value→Shared→Prop}(q:SetIt s.heap I (.int slot 0) i a es.size ep)(hr:SetRaw s.heap a es ep t)(hf:t.fits es.size=true)
 (hnx:∀(A:Around) (E:Value→Shared→Prop) (Q':Option (Value×Nat)→Shared→Prop),Q' (some (x,next)) s→wpAny (model prog w) A (setNext a slot i ep) Q' E s)
 (hQ:∀h',SetIt h' I (.int next 0) (i+1) a es.size ep→Heap.SameBut I s.heap h'→Q (some x) {s with heap:=h'}):wpAny (model prog w) A (pyNext (.ref I)) Q E s:=by
 obtain ⟨o,ho,hc,hd⟩:=id q
 obtain ⟨oa,hoa,hxa,hda⟩:=id hr
 unfold pyNext
 refine wpAny_bind (wpAny_attempt (wpAny_callSpecial?_slot (name:=Str.ofString "__next__") q.typeIs slot_si_next (wpAny_call_entry slot_si_next q.typeIs entry_si_next ?_ (args_si_next _))))
 unfold Builtin.«set_iterator.__next__»
 refine wpAny_bind (m:=slotArgs "__next__" 0 _) (wpAny_pure ?_)
 refine wpAny_bind (wpAny_fieldsOf ho hd ?_)
 try dsimp only
 refine wpAny_bind (wpAny_setEntries_of hoa hda hf ?_)
 rw [if_neg (by simp)]
 try dsimp only
 refine wpAny_bind (hnx _ _ _ ?_)
 try dsimp only
 refine wpAny_bind (wpAny_setField ho hd (by simp) ?_)
 have ho1:=Heap.get?_update_self (Obj.mapFields (·.setIfInBounds 0 (rawInt next))) ho (Obj.isFreed_of_fields (Obj.data_mapFields hd _))
 have hd1:=Obj.data_mapFields hd (·.setIfInBounds 0 (rawInt next))
 refine wpAny_bind (wpAny_setField ho1 hd1 (by simp) ?_)
 have hit':((s.heap.update I (Obj.mapFields (·.setIfInBounds 0 (rawInt next)))).update I (Obj.mapFields (·.setIfInBounds 1 (rawInt ((i:Int)+1))))).get? I=_:=Heap.get?_update_self _ ho1 (Obj.isFreed_of_fields (Obj.data_mapFields hd1 _))
 refine wpAny_pure ⟨_,rfl,wpAny_pure (hQ _ ⟨_,hit',(Obj.cls_mapFields ..).trans ((Obj.cls_mapFields ..).trans hc),by rw [Obj.data_mapFields hd1];simp [rawInt]⟩ ((Heap.SameBut.update ..).trans (Heap.SameBut.update ..)))⟩
theorem it_end{slot:Nat}{Q:Option Value→Shared→Prop}(hh:A.handled=none)(q:SetIt s.heap I (.int slot 0) i a es.size ep)(hr:SetRaw s.heap a es ep t)(hf:t.fits es.size=true)
 (hnx:∀(A:Around) (E:Value→Shared→Prop) (Q':Option (Value×Nat)→Shared→Prop),Q' none s→wpAny (model prog w) A (setNext a slot i ep) Q' E s)
 (hQ:∀h',Heap.ExtBut I s.heap h'→Q none {s with heap:=h'}):wpAny (model prog w) A (pyNext (.ref I)) Q E s:=by
 obtain ⟨o,ho,hc,hd⟩:=id q
 obtain ⟨oa,hoa,hxa,hda⟩:=id hr
 unfold pyNext
 refine wpAny_bind (wpAny_attempt (wpAny_callSpecial?_slot (name:=Str.ofString "__next__") q.typeIs slot_si_next (wpAny_call_entry slot_si_next q.typeIs entry_si_next ?_ (args_si_next _))))
 unfold Builtin.«set_iterator.__next__»
 refine wpAny_bind (m:=slotArgs "__next__" 0 _) (wpAny_pure ?_)
 refine wpAny_bind (wpAny_fieldsOf ho hd ?_)
 dsimp only
 refine wpAny_bind (wpAny_setEntries_of hoa hda hf ?_)
 rw [if_neg (by simp)]
 refine wpAny_bind (hnx _ _ _ ?_)
 dsimp only
 refine wpAny_bind (wpAny_setField ho hd (by simp) ?_)
 refine wpAny_bind ?_
 simp only [newExc,newTuple]
 refine wpAny_bind (wpAny_newObj_type ?_ (by size_fits))
 refine wpAny_bind (m:=firstArgMember _ _) (wpAny_of_eq (a:=Value.none) (by first | rfl | (simp only [firstArgMember];rfl)) ?_)
 refine wpAny_newObj_type ?_ (by size_fits)
 simp only [raiseNew]
 refine wpAny_bind (wpAny_handled ?_)
 rw [show A.in1.handled=none from hh]
 refine wpAny_bind (wpAny_pure (wpAny_throw ?_))
 refine wpAny_bind (wpAny_isInstance (T:="StopIteration") (b:=true) ⟨_,Heap.get?_push_size _ rfl,rfl⟩ isSubtype_stop ?_)
 exact wpAny_pure (hQ _ (((Heap.SameBut.update ..).extBut.push _).push _))
noncomputable def PlacesAt(h:Heap)(J:Addr)(ps:List Nat):Prop:=∃o m,h.get? J=some o∧o.data= .seq (ps.map fun (p:Nat)=>rawInt p).toArray m
theorem PlacesAt.at{h h':Heap}{J:Addr}{ps:List Nat}(q:PlacesAt h J ps)(k:∀o,h.get? J=some o→h'.get? J=some o):PlacesAt h' J ps:=let ⟨o,m,ho,r⟩:=q;⟨o,m,k o ho,r⟩
theorem dr_item{J:Addr}{ps:List Nat}{p:Nat}{e:Int×Value}{Q:Option Value→Shared→Prop}(q:SetIt s.heap I (.ref J) i a es.size ep)(hr:SetRaw s.heap a es ep t)(hf:t.fits es.size=true)(hp:PlacesAt s.heap J ps)(hi:ps[i]?=some p)(he:es[p]?=some e)
 (hQ:∀h',SetIt h' I (.ref J) (i+1) a es.size ep→Heap.SameBut I s.heap h'→Q (some e.2) {s with heap:=h'}):wpAny (model prog w) A (pyNext (.ref I)) Q E s:=by
 obtain ⟨o,ho,hc,hd⟩:=id q
 obtain ⟨oa,hoa,hxa,hda⟩:=id hr
 obtain ⟨oj,mj,hoj,hdj⟩:=hp
 unfold pyNext
 refine wpAny_bind (wpAny_attempt (wpAny_callSpecial?_slot (name:=Str.ofString "__next__") q.typeIs slot_si_next (wpAny_call_entry slot_si_next q.typeIs entry_si_next ?_ (args_si_next _))))
 unfold Builtin.«set_iterator.__next__»
 refine wpAny_bind (m:=slotArgs "__next__" 0 _) (wpAny_pure ?_)
 refine wpAny_bind (wpAny_fieldsOf ho hd ?_)
 dsimp only
 refine wpAny_bind (wpAny_setEntries_of hoa hda hf ?_)
 rw [if_neg (by simp)]
 refine wpAny_bind (wpAny_seqItems hoj hdj ?_)
 have hg:((ps.map fun (p:Nat)=>rawInt p).toArray)[((i:Nat):Int).toNat]?=some (.int p 0):=by
  rw [Int.toNat_natCast,List.getElem?_toArray,List.getElem?_map,hi];rfl
 dsimp only
 rw [hg]
 dsimp only
 refine wpAny_bind ?_
 unfold setNextDrawn
 refine wpAny_bind (wpAny_setState_of hoa hda hf ?_)
 dsimp only
 rw [if_neg (by simp)]
 rw [Int.toNat_natCast,he]
 obtain ⟨e1,e2⟩:=e
 refine wpAny_pure ?_
 refine wpAny_bind (wpAny_setField ho hd (by simp) ?_)
 have hit':(s.heap.update I (Obj.mapFields (·.setIfInBounds 1 (rawInt ((i:Int)+1))))).get? I=_:=Heap.get?_update_self _ ho (Obj.isFreed_of_fields (Obj.data_mapFields hd _))
 refine wpAny_pure ⟨_,rfl,wpAny_pure (hQ _ ⟨_,hit',(Obj.cls_mapFields ..).trans hc,by rw [Obj.data_mapFields hd];simp [rawInt]⟩ (Heap.SameBut.update ..))⟩
theorem dr_end{J:Addr}{ps:List Nat}{Q:Option Value→Shared→Prop}(hh:A.handled=none)(q:SetIt s.heap I (.ref J) i a es.size ep)(hr:SetRaw s.heap a es ep t)(hf:t.fits es.size=true)(hp:PlacesAt s.heap J ps)(hi:ps[i]?=none)
 (hQ:∀h',Heap.ExtBut I s.heap h'→Q none {s with heap:=h'}):wpAny (model prog w) A (pyNext (.ref I)) Q E s:=by
 obtain ⟨o,ho,hc,hd⟩:=id q
 obtain ⟨oa,hoa,hxa,hda⟩:=id hr
 obtain ⟨oj,mj,hoj,hdj⟩:=hp
 unfold pyNext
 refine wpAny_bind (wpAny_attempt (wpAny_callSpecial?_slot (name:=Str.ofString "__next__") q.typeIs slot_si_next (wpAny_call_entry slot_si_next q.typeIs entry_si_next ?_ (args_si_next _))))
 unfold Builtin.«set_iterator.__next__»
 refine wpAny_bind (m:=slotArgs "__next__" 0 _) (wpAny_pure ?_)
 refine wpAny_bind (wpAny_fieldsOf ho hd ?_)
 dsimp only
 refine wpAny_bind (wpAny_setEntries_of hoa hda hf ?_)
 rw [if_neg (by simp)]
 refine wpAny_bind (wpAny_seqItems hoj hdj ?_)
 have hg:((ps.map fun (p:Nat)=>rawInt p).toArray)[((i:Nat):Int).toNat]?=none:=by
  rw [Int.toNat_natCast,List.getElem?_toArray,List.getElem?_map,hi];rfl
 dsimp only
 rw [hg]
 dsimp only
 refine wpAny_bind (wpAny_setField ho hd (by simp) ?_)
 have ho1:=Heap.get?_update_self (Obj.mapFields (·.setIfInBounds 0 (rawInt 0))) ho (Obj.isFreed_of_fields (Obj.data_mapFields hd _))
 have hd1:=Obj.data_mapFields hd (·.setIfInBounds 0 (rawInt 0))
 refine wpAny_bind (wpAny_setField ho1 hd1 (by simp) ?_)
 refine wpAny_bind ?_
 simp only [newExc,newTuple]
 refine wpAny_bind (wpAny_newObj_type ?_ (by size_fits))
 refine wpAny_bind (m:=firstArgMember _ _) (wpAny_of_eq (a:=Value.none) (by first | rfl | (simp only [firstArgMember];rfl)) ?_)
 refine wpAny_newObj_type ?_ (by size_fits)
 simp only [raiseNew]
 refine wpAny_bind (wpAny_handled ?_)
 rw [show A.in1.handled=none from hh]
 refine wpAny_bind (wpAny_pure (wpAny_throw ?_))
 refine wpAny_bind (wpAny_isInstance (T:="StopIteration") (b:=true) ⟨_,Heap.get?_push_size _ rfl,rfl⟩ isSubtype_stop ?_)
 exact wpAny_pure (hQ _ ((((Heap.SameBut.update ..).trans (Heap.SameBut.update ..)).extBut.push _).push _))
theorem choose_go{src:Source}{n:Nat}{Q:Nat→Shared→Prop}(hn:n≠0)(h:∀i d,i < n→Q i {s with drawn:=d}):wpAny (model prog w) A (choose src n) Q E s:=fun Γ p hp=>⟨hn,h _ _ (Nat.mod_lt _ (Nat.pos_of_ne_zero hn))⟩
theorem draw_go{α:Type}:∀(n:Nat) (xs:List α) (s:Shared) (Q:List α→Shared→Prop),n=xs.length→(∀ys d,ys.Perm xs→Q ys {s with drawn:=d})→wpAny (model prog w) A (drawOrder n xs) Q E s:=by
 intro n
 induction n with
 | zero=>
  intro xs s Q e h
  have:xs=[]:=List.length_eq_zero_iff.mp e.symm
  subst this
  unfold drawOrder
  exact wpAny_pure (h [] s.drawn .rfl)
 | succ n ih=>
  intro xs s Q e h
  cases xs with
  | nil=>cases e
  | cons x r=>
   unfold drawOrder
   refine wpAny_bind (choose_go (by simp) fun i d hi=>?_)
   rw [List.getElem?_eq_getElem hi]
   dsimp only
   refine wpAny_bind (ih _ _ _ (by rw [List.length_eraseIdx_of_lt hi];omega) fun ys d' hp=>wpAny_pure ?_)
   exact h _ d' ((hp.cons _).trans (erase_perm _ i hi))
end
end L2
namespace L2
open N30
section
variable {prog:Program} {w:World} {A:Around} {E:Value→Shared→Prop} {s:Shared} {a I:Addr} {es:Array (Int×Value)} {ep:Nat} {t:SetTable}
theorem walk_text(hh:A.handled=none)(hb:byT w=true)(hf:t.fits es.size=true)(hne:a≠I):
 Walks prog w A I [I,a] [I] es.size (fun i v=>((pickOrder (w.params.setOrder a ep) es).toList.map (·.2))[i]?=some v) (fun i h=>SetIt h I (.int ((0:Nat):Int) 0) i a es.size ep∧SetRaw h a es ep t) where
 sub:=fun b hb=>by simp at hb;simp [hb]
 frame:=fun _ _ _ st hk=>⟨st.1.at fun o e=>hk I (by simp) o e,st.2.at fun o e=>hk a (by simp) o e⟩
 item:=fun i s Q E hi st hQ=>by
  have hl:i < (pickOrder (w.params.setOrder a ep) es).toList.length:=by rw [(pick_perm _ es).length_eq,Array.length_toList];exact hi
  have hg:(pickOrder (w.params.setOrder a ep) es)[i]?=some (pickOrder (w.params.setOrder a ep) es).toList[i]:=by rw [← Array.getElem?_toList,List.getElem?_eq_getElem hl]
  refine it_item (slot:=0) (next:=0) (x:=(pickOrder (w.params.setOrder a ep) es).toList[i].2) st.1 st.2 hf (fun A E Q' hq=>next_text st.2 hf hb (by rw [hg];exact hq)) fun h' it' sb=>?_
  refine hQ _ h' s.toks (by rw [List.getElem?_map,List.getElem?_eq_getElem hl];rfl) ⟨it',st.2.at fun o e=>sb.extBut a o hne e⟩ fun b o hb e=>sb.extBut b o (fun z=>hb (by simp [z])) e
 done:=fun s Q E st hQ=>by
   have hg:(pickOrder (w.params.setOrder a ep) es)[es.size]?=none:=by
    rw [← Array.getElem?_toList]
    exact List.getElem?_eq_none (by rw [(pick_perm _ es).length_eq,Array.length_toList];exact Nat.le_refl _)
   exact it_end (slot:=0) hh st.1 st.2 hf (fun A E Q' hq=>next_text st.2 hf hb (by rw [hg];exact hq)) fun h' he=>hQ h' s.toks fun b o hb e=>he b o (fun z=>hb (by simp [z])) e
 self:=fun _ _ _ _ st hQ=>it_self st.1 hQ
noncomputable def slotAt(t:SetTable)(i:Nat):Nat:=if i=0 then 0 else t.place.getD (i - 1) 0+1
theorem slot_below(hr:Ris t.place.toList){i:Nat}(hi:i≤t.place.size):SetTable.below t.place (slotAt t i)=i:=by
 have mono:∀i k x y,i < k→t.place.toList[i]?=some x→t.place.toList[k]?=some y→x < y:=fun i k x y ik hx hy=>by
  obtain ⟨li,ei⟩:=List.getElem?_eq_some_iff.mp hx
  obtain ⟨lk,ek⟩:=List.getElem?_eq_some_iff.mp hy
  rw [← ei,← ek]
  exact (List.pairwise_iff_getElem.mp hr) i k li lk ik
 refine below_at hr hi (fun j x hj hx=>?_) fun j x hj hx=>?_
 · unfold slotAt
   rw [if_neg (by omega)]
   have l:i - 1 < t.place.size:=by omega
   have hg:t.place.toList[i - 1]?=some (t.place.getD (i - 1) 0):=by rw [Array.getElem?_toList,Array.getD_eq_getD_getElem?,Array.getElem?_eq_getElem l];rfl
   by_cases e:j=i - 1
   · subst e;rw [hg]at hx;cases hx;omega
   · have:=mono j (i - 1) x _ (by omega) hx hg
     omega
 · unfold slotAt
   by_cases e0:i=0
   · rw [if_pos e0];exact Nat.zero_le _
   · rw [if_neg e0]
     have l:i - 1 < t.place.size:=by omega
     have hg:t.place.toList[i - 1]?=some (t.place.getD (i - 1) 0):=by rw [Array.getElem?_toList,Array.getD_eq_getD_getElem?,Array.getElem?_eq_getElem l];rfl
     exact mono (i - 1) j _ x (by omega) hg hx
theorem walk_slot(hh:A.handled=none)(hb:byT w=false)(hf:t.fits es.size=true)(hl:t.led=true)(hn:(!t.plain && decide (es.size > 1))=false)(hr:Ris t.place.toList)(hne:a≠I):
 Walks prog w A I [I,a] [I] es.size (fun i v=>(es.toList.map (·.2))[i]?=some v) (fun i h=>SetIt h I (.int ((slotAt t i:Nat):Int) 0) i a es.size ep∧SetRaw h a es ep t) where
 sub:=fun b hb=>by simp at hb;simp [hb]
 frame:=fun _ _ _ st hk=>⟨st.1.at fun o e=>hk I (by simp) o e,st.2.at fun o e=>hk a (by simp) o e⟩
 item:=fun i s Q E hi st hQ=>by
  have hz:t.place.size=es.size:=by simp only [SetTable.fits,Bool.and_eq_true,beq_iff_eq]at hf;exact hf.1
  have hb':=slot_below hr (i:=i) (by omega)
  have hp:t.place[i]?=some (t.place.getD i 0):=by rw [Array.getD_eq_getD_getElem?,Array.getElem?_eq_getElem (by omega)];rfl
  have he:es[i]?=some es[i]:=Array.getElem?_eq_getElem hi
  refine it_item (slot:=slotAt t i) (next:=slotAt t (i+1)) (x:=es[i].2) st.1 st.2 hf (fun A E Q' hq=>next_slot st.2 hf hb hl hn (by rw [hb',hp,he];exact hq)) fun h' it' sb=>?_
  refine hQ _ h' s.toks (by rw [List.getElem?_map,Array.getElem?_toList,he];rfl) ⟨it',st.2.at fun o e=>sb.extBut a o hne e⟩ fun b o hb e=>sb.extBut b o (fun z=>hb (by simp [z])) e
 done:=fun s Q E st hQ=>by
   have hz:t.place.size=es.size:=by simp only [SetTable.fits,Bool.and_eq_true,beq_iff_eq]at hf;exact hf.1
   have hb':=slot_below hr (i:=es.size) (by omega)
   have he:es[es.size]?=none:=Array.getElem?_eq_none (Nat.le_refl _)
   exact it_end (slot:=slotAt t es.size) hh st.1 st.2 hf (fun A E Q' hq=>next_slot st.2 hf hb hl hn (by rw [hb',he];exact hq)) fun h' he=>hQ h' s.toks fun b o hb e=>he b o (fun z=>hb (by simp [z])) e
 self:=fun _ _ _ _ st hQ=>it_self st.1 hQ
noncomputable def atP(es:Array (Int×Value))(p:Nat):Value:=((es[p]?).map (·.2)).getD .none
theorem atP_range:(List.range es.size).map (atP es)=es.toList.map (·.2):=by
 apply List.ext_getElem?
 intro i
 rw [List.getElem?_map,List.getElem?_map]
 by_cases h:i < es.size
 · rw [List.getElem?_range h,show es.toList[i]?=es[i]? from Array.getElem?_toList]
   show some (atP es i)=_
   unfold atP
   rw [Array.getElem?_eq_getElem h];rfl
 · rw [List.getElem?_eq_none (l:=List.range es.size) (by rw [List.length_range];omega),List.getElem?_eq_none (l:=es.toList) (by rw [Array.length_toList];omega)];rfl
theorem walk_drawn(hh:A.handled=none)(hf:t.fits es.size=true){J:Addr}{ps:List Nat}(hp:ps.Perm (List.range es.size))(hne:a≠I)(hnJ:J≠I):
 Walks prog w A I [I,a,J] [I] es.size (fun i v=>(ps.map (atP es))[i]?=some v) (fun i h=>SetIt h I (.ref J) i a es.size ep∧SetRaw h a es ep t∧PlacesAt h J ps) where
 sub:=fun b hb=>by simp at hb;simp [hb]
 frame:=fun _ _ _ st hk=>⟨st.1.at fun o e=>hk I (by simp) o e,st.2.1.at fun o e=>hk a (by simp) o e,st.2.2.at fun o e=>hk J (by simp) o e⟩
 item:=fun i s Q E hi st hQ=>by
  have hl:i < ps.length:=by rw [hp.length_eq,List.length_range];exact hi
  have hm:ps[i] < es.size:=List.mem_range.mp (hp.mem_iff.mp (List.getElem_mem hl))
  have he:es[ps[i]]?=some es[ps[i]]:=Array.getElem?_eq_getElem hm
  refine dr_item (e:=es[ps[i]]) st.1 st.2.1 hf st.2.2 (List.getElem?_eq_getElem hl) he fun h' it' sb=>?_
  refine hQ _ h' s.toks ?_ ⟨it',st.2.1.at fun o e=>sb.extBut a o hne e,st.2.2.at fun o e=>sb.extBut J o hnJ e⟩ fun b o hb e=>sb.extBut b o (fun z=>hb (by simp [z])) e
  rw [List.getElem?_map,List.getElem?_eq_getElem hl]
  show some (atP es ps[i])=_
  unfold atP
  rw [he];rfl
 done:=fun s Q E st hQ=>dr_end hh st.1 st.2.1 hf st.2.2 (List.getElem?_eq_none (by rw [hp.length_eq,List.length_range];exact Nat.le_refl _)) fun h' he=>hQ h' s.toks fun b o hb e=>he b o (fun z=>hb (by simp [z])) e
 self:=fun _ _ _ _ st hQ=>it_self st.1 hQ
theorem SetRaw.typeIs(q:SetRaw s.heap a es ep t):s.TypeIs (.ref a) "set":=let ⟨o,ho,hx,_⟩:=q;⟨o,ho,hx.1⟩
theorem iterX{Q:Value→Shared→Prop}(hr:SetRaw s.heap a es ep t)(T:TabOk t es.size (!byT w))(hz:es.size≤sizeLine)
 (h:∀(out:List Value) (I:Addr) (fp:List Addr) (St:Nat→Heap→Prop) (h':Heap) (d':Drawn),out.Perm (es.toList.map (·.2))→s.heap.objs.size≤I→(∀b∈fp,b=a∨s.heap.objs.size≤b)→(∀b o,s.heap.get? b=some o→h'.get? b=some o)→
  (∀A':Around,A'.handled=none→Walks prog w A' I fp [I] es.size (fun i v=>out[i]?=some v) St)→St 0 h'→Q (.ref I) {s with heap:=h',drawn:=d'}):wpAny (model prog w) A (pyIter (.ref a)) Q E s:=by
 obtain ⟨o,ho,hx,hd⟩:=id hr
 have hf:=T.fit
 have lt:=Heap.lt_size ho
 refine wpAny_pyIter_slot hr.typeIs F.slot_set_iter (wpAny_call_entry F.slot_set_iter hr.typeIs entry_set_iter ?_ (F.args_set_iter_1 _))
 unfold Builtin.«frozenset.__iter__» Builtin.Frozenset.slot0
 refine wpAny_bind (wpAny_bind (m:=slotArgs "__iter__" 0 _) (wpAny_pure (wpAny_pure ?_)))
 unfold Builtin.Frozenset.sizeOf
 refine wpAny_bind (wpAny_bind (wpAny_setEntries_of ho hd hf (wpAny_pure ?_)))
 have dn:∀(A:Around) (E:Value→Shared→Prop) (Q':Bool→Shared→Prop),Q' (!byT w && (!t.plain && decide (es.size > 1))) s→wpAny (model prog w) A (setDrawn a) Q' E s:=fun A E Q' hq=>by
  unfold setDrawn
  exact wpAny_bind (wpAny_setState_of ho hd hf (wpAny_bind (byText_go (wpAny_pure hq))))
 refine wpAny_bind (dn _ _ _ ?_)
 by_cases c:(!byT w && (!t.plain && decide (es.size > 1)))=true
 · rw [if_pos c]
   refine wpAny_bind (draw_go _ _ _ _ (List.length_range).symm fun ps d' hp=>?_)
   refine wpAny_bind (wpAny_newTuple ?_ (by rw [List.length_map,hp.length_eq,List.length_range];exact hz))
   have ho1:=Heap.get?_push_of_some {cls:= .type "tuple",data:= .seq (ps.map fun (p:Nat)=>rawInt p).toArray} ho
   refine wpAny_bind ?_
   unfold setEpoch
   refine wpAny_bind (wpAny_setState_of ho1 hd hf (wpAny_pure ?_))
   refine wpAny_bind (wpAny_newObj_type (wpAny_pure ⟨_,rfl,"set_iterator",_,⟨_,Heap.get?_push_size _ rfl,rfl⟩,slot_si_next.lookup,?_⟩))
   have sz:(s.heap.push {cls:= .type "tuple",data:= .seq (ps.map fun (p:Nat)=>rawInt p).toArray}).objs.size=s.heap.objs.size+1:=Heap.size_push ..
   refine h (ps.map (atP es)) _ [_,a,s.heap.objs.size] _ _ d' (by rw [← atP_range];exact hp.map _) (by rw [sz];exact Nat.le_succ _) (fun b hb=>?_) (fun b o e=>Heap.get?_push_of_some _ (Heap.get?_push_of_some _ e)) (fun A' h'=>walk_drawn (t:=t) (ep:=ep) h' hf hp (Nat.ne_of_lt (by rw [sz];exact Nat.lt_succ_of_lt lt)) (Nat.ne_of_lt (by rw [sz];exact Nat.lt_succ_self _))) ⟨⟨_,Heap.get?_push_size _ rfl,rfl,by simp [rawInt]⟩,⟨o,Heap.get?_push_of_some _ ho1,hx,hd⟩,⟨_,_,Heap.get?_push_of_some _ (Heap.get?_push_size _ rfl),rfl⟩⟩
   rcases List.mem_cons.mp hb with e | hb
   · right;rw [e,sz];exact Nat.le_succ _
   · rcases List.mem_cons.mp hb with e | hb
     · exact .inl e
     · right;rw [List.mem_singleton.mp hb];exact Nat.le_refl _
 · rw [if_neg c]
   refine wpAny_bind (wpAny_pure ?_)
   refine wpAny_bind ?_
   unfold setEpoch
   refine wpAny_bind (wpAny_setState_of ho hd hf (wpAny_pure ?_))
   refine wpAny_bind (wpAny_newObj_type (wpAny_pure ⟨_,rfl,"set_iterator",_,⟨_,Heap.get?_push_size _ rfl,rfl⟩,slot_si_next.lookup,?_⟩))
   have fpo:∀b∈[s.heap.objs.size,a],b=a∨s.heap.objs.size≤b:=fun b hb=>by
    rcases List.mem_cons.mp hb with e | hb
    · right;rw [e];exact Nat.le_refl _
    · exact .inl (List.mem_singleton.mp hb)
   cases hb:byT w with
   | true=>
    exact h _ _ [_,a] _ _ s.drawn ((pick_perm (w.params.setOrder a ep) es).map (·.2)) (Nat.le_refl _) fpo (fun b o e=>Heap.get?_push_of_some _ e) (fun A' h'=>walk_text h' hb hf (Nat.ne_of_lt lt)) ⟨⟨_,Heap.get?_push_size _ rfl,rfl,by simp [rawInt]⟩,⟨o,Heap.get?_push_of_some _ ho,hx,hd⟩⟩
   | false=>
    rw [hb]at c
    have c':(!t.plain && decide (es.size > 1))=false:=by simpa using c
    have hr':Ris t.place.toList:=by
     cases hp:t.plain with
     | true=>exact T.ris hp
     | false=>
      rw [hp]at c'
      have hs:es.size≤1:=by simpa using c'
      have hz:t.place.size=es.size:=by simp only [SetTable.fits,Bool.and_eq_true,beq_iff_eq]at hf;exact hf.1
      have:t.place.toList.length≤1:=by rw [Array.length_toList];omega
      match t.place.toList,this with
      | [],_=>exact .nil
      | [x],_=>exact List.pairwise_singleton _ _
    have hl:t.led=true:=by rw [T.led,hb];rfl
    exact h _ _ [_,a] _ _ s.drawn (.refl _) (Nat.le_refl _) fpo (fun b o e=>Heap.get?_push_of_some _ e) (fun A' h'=>walk_slot h' hb hf hl c' hr' (Nat.ne_of_lt lt)) ⟨⟨_,Heap.get?_push_size _ rfl,rfl,by simp [rawInt,slotAt]⟩,⟨o,Heap.get?_push_of_some _ ho,hx,hd⟩⟩
theorem hint_set{r:Addr}{Q:Bool→Shared→Prop}(hT:s.TypeIs (.ref r) "set")(h:Q false s):wpAny (model prog w) A (Builtin.List.listLengthHint (.ref r)) Q E s:=by
 unfold Builtin.List.listLengthHint
 refine wpAny_bind (wpAny_specialOf hT PySem.F.slot_set_len.lookup ?_)
 generalize hid:("set.__len__":String)=id0
 wp_delta
 rw [show splitId id0=some ("set","__len__") from by subst hid;decide+kernel]
 subst hid
 refine wpAny_bind (wpAny_isInstance (T:="set") (b:=true) hT (by rw [isSubtype_type];kernel_rfl) ?_)
 refine wpAny_ite_split (fun hab=>absurd hab (by decide)) (fun _=>?_)
 refine wpAny_ite_split (fun _=>?_) (fun hab=>absurd (by decide+kernel) hab)
 refine wpAny_bind (wpAny_typeOf hT ?_)
 exact wpAny_pure h
theorem extendX{R:Result→Shared→Prop}(hh:A.handled=none)(hr:SetRaw s.heap a es ep t)(T:TabOk t es.size (!byT w))(hz:es.size≤sizeLine)(S:Addr)(hSa:S≠a)(res:Value)(c₀:Nat)(hS:s.heap.get? S=some {cls:= .type "list",data:= .seq #[] c₀})
 (hR:∀h' tk d' (acc':Array Value) c',(∀b o,b≠S→s.heap.get? b=some o→h'.get? b=some o)→h'.get? S=some {cls:= .type "list",dict:=none,data:= .seq acc' c',slots:=#[]}→acc'.toList.Perm (es.toList.map (·.2))→R (.ok (.ret res)) {s with heap:=h',toks:=tk,drawn:=d'}):
 wpAny (model prog w) A.in1 (Builtin.List.listExtendWith (.ref S) (.ref a) res)
  (fun fin s'=>match fin with | .done f=>R (.ok f) s' | .again c'=>c'.quiet=true∧codeAny (model prog w) A c' R s') (fun e s'=>R (.error e) s') s:=by
 unfold Builtin.List.listExtendWith
 refine wpAny_bind (wpAny_typeOf (T:="set") hr.typeIs ?_)
 have h1:Builtin.List.listSameRef (.ref S) (.ref a)=false:=by simp [Builtin.List.listSameRef,hSa]
 have h2:(Value.type "set"==Value.type "list")=false:=by decide
 have h3:(Value.type "set"==Value.type "tuple")=false:=by decide
 simp only [h1,h2,h3,Bool.or_false,Bool.false_eq_true,if_false]
 refine wpAny_bind (iterX hr T hz fun out I fp St h1 d1 hp hI hfp hk W st=>?_)
 have W:=W A.in1 hh
 have ltS:=Heap.lt_size hS
 have hSI:S≠I:=fun e=>absurd (Nat.lt_of_lt_of_le ltS hI) (by rw [e];exact Nat.lt_irrefl _)
 have hSf:S∉fp:=fun z=>by
  rcases hfp S z with e | e
  · exact hSa e
  · exact absurd (Nat.lt_of_lt_of_le ltS e) (Nat.lt_irrefl _)
 have hlen:out.length=es.size:=by rw [hp.length_eq,List.length_map,Array.length_toList]
 have key:∀(h:Heap) (c₁ tk:Nat),St 0 h→(∀b o,b≠S→s.heap.get? b=some o→h.get? b=some o)→h.get? S=some {cls:= .type "list",data:= .seq #[] c₁}→
  codeAny (model prog w) A (.builtin "list.extend.loop" ⟨[.ref S,.ref I,res],[]⟩) R {s with heap:=h,toks:=tk,drawn:=d1}:=by
  intro h c₁ tk hst hk' hS₁
  refine codeAny_extend_loopS W.toS hz S hSf res es.size 0 _ #[] c₁ rfl (Nat.zero_le _) hst hS₁ (ItemsOf.nil _) fun s' acc' c' hm hS' hacc=>?_
  rw [Moved.eq_with hm]
  refine hR s'.heap s'.toks d1 acc' c' (fun b o hb e=>hm.heap b o (fun hmem=>?_) (hk' b o hb e)) hS' ?_
  · rcases List.mem_cons.mp hmem with e' | hmem
    · exact hb e'
    · rw [List.mem_singleton.mp hmem]at e
      exact absurd (Nat.lt_of_lt_of_le (Heap.lt_size e) hI) (Nat.lt_irrefl _)
  · have:acc'.toList=out:=by
     apply List.ext_getElem?
     intro i
     by_cases hi:i < es.size
     · have hi2:i < acc'.toList.length:=by rw [Array.length_toList,hacc.1];exact hi
       rw [hacc.2 i acc'.toList[i] (by rw [← Array.getElem?_toList];exact List.getElem?_eq_getElem hi2),List.getElem?_eq_getElem hi2]
     · rw [List.getElem?_eq_none (by rw [Array.length_toList,hacc.1];omega),List.getElem?_eq_none (by rw [hlen];omega)]
    rw [this];exact hp
 have hS₁:=hk S _ hS
 refine wpAny_bind (wpAny_holding (hint_set (s:={s with heap:=h1,drawn:=d1}) (hr.at fun o e=>hk a o e).typeIs ?_))
 refine wpAny_ite_split (fun _=>?_) (fun _=>wpAny_pure ⟨plainId_quiet PySem.F.plain_extend_loop _,key _ c₀ _ st (fun b o _ e=>hk b o e) hS₁⟩)
 refine wpAny_bind (wpAny_rule (wpAny_bind ?_))
 show wpAny _ _ (updateSeq S (·.push .none) >>=fun _=>updateSeq S (·.pop)) _ _ _
 refine wpAny_bind (wpAny_updateSeq hS₁ rfl ?_)
 have hS₂:=Heap.get?_update_self (Obj.mapSeq (·.push Value.none)) hS₁ rfl
 refine wpAny_updateSeq (hz:=by seq_fits) hS₂ rfl ?_
 have hS₃:=Heap.get?_update_self (Obj.mapSeq (·.pop)) hS₂ rfl
 refine wpAny_pure ⟨plainId_quiet PySem.F.plain_extend_loop _,key _ _ _ ?_ (fun b o hb e=>?_) hS₃⟩
 · refine W.frame 0 _ _ st fun b hb o e=>?_
   have hbS:b≠S:=fun h=>hSf (h▸hb)
   exact (Heap.get?_update_other _ _ (Ne.symm hbS)).trans ((Heap.get?_update_other _ _ (Ne.symm hbS)).trans e)
 · exact (Heap.get?_update_other _ _ (Ne.symm hb)).trans ((Heap.get?_update_other _ _ (Ne.symm hb)).trans (hk b o e))
theorem collectX{R:List Value→Shared→Prop}(hh:A.handled=none)(hr:SetRaw s.heap a es ep t)(T:TabOk t es.size (!byT w))(hz:es.size≤sizeLine)
 (h:∀(h':Heap) (tk:Nat) (d':Drawn) (vs:List Value),s.heap.objs.size < h'.objs.size→(∀b o,s.heap.get? b=some o→h'.get? b=some o)→vs.Perm (es.toList.map (·.2))→R vs {s with heap:=h',toks:=tk,drawn:=d'}):
 wpAny (model prog w) A (collect (.ref a)) R E s:=by
 obtain ⟨oa,hoa,_⟩:=id hr
 have hlt:=Heap.lt_size hoa
 unfold collect
 refine wpAny_bind (wpAny_runValue (codeAny_builtin entry_proto_collect' ?_))
 rw [Around.under_plainId PySem.F.plain_proto_collect _]
 show wpAny _ A.in1 (newList [] >>=fun l=>again (.builtin "list.__iadd__" ⟨[l,.ref a],[]⟩)) _ _ s
 refine wpAny_bind (wpAny_newObj_type ?_)
 refine wpAny_pure ⟨plainId_quiet PySem.F.plain_list_iadd _,codeAny_builtin entry_list_iadd' ?_⟩
 rw [Around.under_plainId PySem.F.plain_list_iadd _]
 have hS₁:(s.heap.push {cls:= .type "list",data:= .seq ([]:List Value).toArray}).get? s.heap.objs.size=some {cls:= .type "list",data:= .seq #[]}:=Heap.get?_push_size _ rfl
 show wpAny _ A.in1 (Builtin.List.listExtendWith (.ref s.heap.objs.size) (.ref a) (.ref s.heap.objs.size)) _ _ _
 have key:=extendX (prog:=prog) (A:=A) (s:={s with heap:=s.heap.push {cls:= .type "list",data:= .seq ([]:List Value).toArray}})
  (R:=fun (q:Result) (s':Shared)=>∃(h':Heap) (tk:Nat) (d':Drawn) (acc':Array Value) (c':Nat),q= .ok (.ret (.ref s.heap.objs.size))∧s'={s with heap:=h',toks:=tk,drawn:=d'}∧
   (∀b o,s.heap.get? b=some o→h'.get? b=some o)∧h'.get? s.heap.objs.size=some {cls:= .type "list",dict:=none,data:= .seq acc' c',slots:=#[]}∧acc'.toList.Perm (es.toList.map (·.2)))
  hh (hr.at fun o e=>Heap.get?_push_of_some _ e) T hz s.heap.objs.size (Nat.ne_of_gt hlt) (.ref s.heap.objs.size) 0 hS₁
  (fun h' tk d' acc' c' hk hS' hacc=>⟨h',tk,d',acc',c',rfl,rfl,fun b o e=>hk b o (Nat.ne_of_lt (Heap.lt_size e)) (Heap.get?_push_of_some _ e),hS',hacc⟩)
 refine wpAny_mono key (fun fin s' x=>?_) fun e s' x=>?_
 · cases fin with
   | done f=>
    obtain ⟨h',tk,d',acc',c',e,rfl,hk,hS',hacc⟩:=x
    cases e
    show wpAny _ A (load s.heap.objs.size >>=_) _ _ _
    exact wpAny_bind (wpAny_load hS' (wpAny_pure (h h' tk d' acc'.toList (Heap.lt_size hS') hk hacc)))
   | again c₁=>
    refine ⟨x.1,codeAny_mono x.2 fun q s₂ y=>?_⟩
    obtain ⟨h',tk,d',acc',c',rfl,rfl,hk,hS',hacc⟩:=y
    show wpAny _ A (load s.heap.objs.size >>=_) _ _ _
    exact wpAny_bind (wpAny_load hS' (wpAny_pure (h h' tk d' acc'.toList (Heap.lt_size hS') hk hacc)))
 · obtain ⟨_,_,_,_,_,e',_⟩:=x
   cases e'
end
end L2
namespace L2
open N30
section
variable {K:Type} [DecidableEq K]
noncomputable def ds1(s:List K)(y:K):List K:=if y∈s then s else s++[y]
noncomputable def ds(ys:List K):List K:=ys.foldl ds1 []
theorem ds_snoc(ys:List K)(y:K):ds (ys++[y])=ds1 (ds ys) y:=by unfold ds;rw [List.foldl_append];rfl
theorem mem_ds1{s:List K}{y z:K}:z∈ds1 s y↔z∈s∨z=y:=by
 unfold ds1
 split
 · rename_i h
   exact ⟨.inl,fun h'=>h'.elim id fun e=>e▸h⟩
 · rw [List.mem_append,List.mem_singleton]
theorem len_ds1{s:List K}{y:K}:(ds1 s y).length=if decide (y∈s)=true then s.length else s.length+1:=by
 unfold ds1
 by_cases h:y∈s
 · rw [if_pos h,if_pos (decide_eq_true h)]
 · rw [if_neg h,if_neg (by simp [h])];simp
theorem snoc_ind{P:List K→Prop}(h0:P [])(h1:∀r y,P r→P (r++[y]))(ys:List K):P ys:=by
 have key:∀l:List K,P l.reverse:=by
  intro l
  induction l with
  | nil=>exact h0
  | cons a r ih=>rw [List.reverse_cons];exact h1 _ _ ih
 have:=key ys.reverse
 rwa [List.reverse_reverse]at this
theorem ds_nodup(ys:List K):(ds ys).Nodup:=by
 refine snoc_ind (P:=fun ys=>(ds ys).Nodup) List.nodup_nil (fun r y h=>?_) ys
 rw [ds_snoc]
 unfold ds1
 split
 · exact h
 · rename_i hn
   exact List.nodup_append.mpr ⟨h,List.pairwise_singleton _ _,fun a ha b hb e=>hn (by rw [List.mem_singleton.mp hb]at e;rw [← e];exact ha)⟩
theorem mem_ds{ys:List K}{z:K}:z∈ds ys↔z∈ys:=by
 refine snoc_ind (P:=fun ys=>z∈ds ys↔z∈ys) Iff.rfl (fun r y ih=>?_) ys
 rw [ds_snoc,mem_ds1,ih,List.mem_append,List.mem_singleton]
theorem len_ds(ys:List K):(ds ys).length≤ys.length:=by
 refine snoc_ind (P:=fun ys=>(ds ys).length≤ys.length) (Nat.le_refl _) (fun r y ih=>?_) ys
 rw [ds_snoc,len_ds1,List.length_append,List.length_singleton]
 split <;> omega
theorem perm_of:∀(l l':List K),l.Nodup→(∀x∈l,x∈l')→l'.length≤l.length→l'.Perm l:=by
 intro l
 induction l with
 | nil=>
  intro l' _ _ h
  rw [List.length_eq_zero_iff.mp (Nat.le_zero.mp h)]
 | cons a r ih=>
  intro l' nd sub len
  obtain ⟨na,nr⟩:=List.nodup_cons.mp nd
  have ha:=sub a (.head _)
  have hp:=List.perm_cons_erase ha
  have hl:=hp.length_eq
  simp only [List.length_cons]at hl len
  exact hp.trans ((ih (l'.erase a) nr (fun x hx=>(List.mem_erase_of_ne (fun e=>by rw [e]at hx;exact na hx)).mpr (sub x (.tail _ hx))) (by omega)).cons a)
end
section
variable {prog:Program} {w:World} {K:Type} [DecidableEq K] {knd:PySem.KeyKind prog w K} {A:Around}
noncomputable abbrev SetD(knd:PySem.KeyKind prog w K)(h:Heap)(S:Addr)(l:List K):Prop:=SetX knd h S (fun z=>decide (z∈l)) l.length
theorem setD_run{R:Result→Shared→Prop}{I:Addr}{fp wr:List Addr}{G:Array GenState→Array GenState→Prop}{n:Nat}{Pv:Nat→Value→Prop}{St:Nat→Shared→Prop}(W:WalksS prog w A.in1 I fp wr G n Pv St){S:Addr}(off:S∉fp){ys:List K}
 (hy:n=ys.length) (hv:∀i v,Pv i v→∃k,ys[i]?=some k∧knd.is k v=true∧v.scannable=true) (hb:n+1 < scanBound):
 ∀(left i:Nat) (s:Shared),left=n - i→i≤n→St i s→SetD knd s.heap S (ds (ys.take i))→
   (∀s',Moved (S::wr) G s s'→SetD knd s'.heap S (ds ys)→R (.ok (.ret .none)) s')→codeAny (model prog w) A (.builtin "set.update.loop" ⟨[.ref S,.ref I],[]⟩) R s:=by
 have offw:S∉wr:=fun z=>off (W.sub _ z)
 have more:∀b∈wr,b∈S::wr:=fun _ z=> .tail _ z
 intro left
 induction left with
 | zero=>
  intro i s e hi st q hR
  have hin:i=n:=by omega
  rw [hin,hy,List.take_length]at q
  rw [hin]at st
  refine codeAny_builtin F.entry_set_update_loop (by
   rw [Around.under_plainId F.plain_set_update_loop _]
   show wpAny _ A.in1 (pyNext (.ref I) >>=_) _ _ s
   refine wpAny_bind (W.done s _ _ st fun s' mv=>?_)
   show wpAny _ A.in1 (ret Value.none) _ _ s'
   exact wpAny_pure (hR s' (mv.mono more) (q.at fun o ho=>mv.heap S _ offw ho)))
 | succ left ih=>
  intro i s e hi st q hR
  have hlt:i < n:=by omega
  refine codeAny_builtin F.entry_set_update_loop (by
   rw [Around.under_plainId F.plain_set_update_loop _]
   show wpAny _ A.in1 (pyNext (.ref I) >>=_) _ _ s
   refine wpAny_bind (W.item i s _ _ hlt st fun v s1 pv st1 mv=>?_)
   obtain ⟨k,hk,hkey,hsc⟩:=hv i v pv
   have q1:SetD knd s1.heap S (ds (ys.take i)):=q.at fun o ho=>mv.heap S _ offw ho
   show wpAny _ A.in1 (holding [v] (setAdd S v) >>=_) _ _ s1
   refine wpAny_bind (wpAny_holding ?_)
   unfold setAdd
   refine wpAny_holding (wpAny_bind (knd.pyHash hkey ?_))
   have room:(ds (ys.take i)).length+1 < scanBound:=Nat.lt_of_le_of_lt (Nat.succ_le_succ (Nat.le_trans (len_ds _) (by rw [List.length_take];exact Nat.min_le_left _ _))) (by omega)
   refine addX (knd:=knd) (s:={s1 with toks:=s1.toks+1}) hkey hsc q1 room fun h2 sb q2=>?_
   have q3:SetD knd h2 S (ds (ys.take (i+1))):=by
    rw [List.take_add_one,hk]
    show SetD knd h2 S (ds (ys.take i++[k]))
    rw [ds_snoc]
    refine SetX.congr q2 (fun z=>?_) len_ds1.symm
    rw [Bool.eq_iff_iff,Bool.or_eq_true,decide_eq_true_eq,decide_eq_true_eq,decide_eq_true_eq,mem_ds1]
   refine wpAny_pure ⟨plainId_quiet F.plain_set_update_loop _,ih (i+1) _ (by omega) hlt (W.frame _ s1 _ _ st1 (Nat.le_succ _) fun b hb' o ho=>by rw [sb.2 b fun z=>off (z▸hb')];exact ho) q3 fun s3 mv3 q4=>hR s3 (Moved.trans W.gtrans ((mv.mono more).then_heap (Nat.le_succ _) fun b o hb' ho=>by rw [sb.2 b fun z=>hb' (z▸ .head _)];exact ho) mv3) q4⟩)
variable {E:Value→Shared→Prop} {s:Shared}
set_option maxHeartbeats 8000000 in
theorem call_setD{l:Addr}{us:Array Value}{ys:List K}{Q:Value→Shared→Prop}(hh:A.handled=none)(hl:s.heap.IsList l us)(hy:us.size=ys.length)(hv:∀(i:Nat) (v:Value),us[i]?=some v→∃k,ys[i]?=some k∧knd.is k v=true∧v.scannable=true)(hb:us.size+1 < scanBound)
 (q:∀(h':Heap) (tk:Nat),SetD knd h' s.heap.objs.size (ds ys)→(∀b o,s.heap.get? b=some o→h'.get? b=some o)→Q (.ref s.heap.objs.size) {s with heap:=h',toks:=tk}):
 wpAny (model prog w) A (call (.type "set") [.ref l]) Q E s:=by
 obtain ⟨c,tl,mro⟩:=F.called_set.mro
 have g1:=F.called_set.made
 have g2:=F.called_set.sub
 refine wpAny_call (codeAny_of_tree (by
  show wpAny _ _ (callAny (.type "set") _) _ _ _
  refine wpAny_pure ⟨Code.quiet_builtin _ (by decide+kernel),codeAny_builtin F.entry_type_call ?_⟩
  rw [Around.under_plain (weight_type_call_type "set" [.ref l] []) rfl]
  have g3:=F.called_set.notType
  have g4:=F.called_set.canCreate
  have g5:=F.typeCall_set_1 (.ref l)
  repeat (any_goals (first | assumption | wp_step))
  refine codeAny_mono (newX (.ref l) (E:=E) (Q₁:=fun v s1=>v= .ref s.heap.objs.size∧s1={s with heap:=s.heap.push (newSet (!byT w))}) ⟨rfl,rfl⟩) fun r s1 hr=>?_
  cases r with
  | error e=>exact hr
  | ok fl=>
   cases fl with
   | ret v=>
    obtain ⟨rfl,rfl⟩:=hr
    generalize hled:(!byT w)=led
    have at0:(s.heap.push (newSet led)).get? s.heap.objs.size=some (newSet led):=Heap.get?_push_size _ rfl
    have ty0:Shared.TypeIs {s with heap:=s.heap.push (newSet led)} (.ref s.heap.objs.size) "set":=⟨_,at0,rfl⟩
    have g6:=F.called_set.init.lookup
    have g7:=F.called_set.init.bind (.ref s.heap.objs.size)
    repeat (any_goals (first | assumption | wp_step))
    refine codeAny_mono (codeAny_call_builtin (R:=wants (fun r s2=>r= .none∧∃h' tk,s2={s with heap:=h',toks:=tk}∧SetD knd h' s.heap.objs.size (ds ys)∧(∀b o,s.heap.get? b=some o→h'.get? b=some o)) E) F.called_set.init.plain F.entry_set_init (check_set_init_1 ty0 ?_)) fun r2 s2 hr2=>?_
    · obtain ⟨⟨oc,od,oe,os'⟩,hol,hcl,nl,hdl⟩:=hl
      simp only at hcl hdl
      subst hcl hdl
      have at1:(s.heap.push (newSet led)).get? l=some {cls:= .type "list",dict:=od,data:= .seq us nl,slots:=os'}:=Heap.get?_push_of_some _ hol
      have g8:=F.sub_list_set
      have g9:=F.sub_list_frozenset
      have g10:(Value.type "list"==Value.type "dict")=false:=by decide
      have l1:(s.heap.push (newSet led)).IsList l us:=⟨_,at1,rfl,nl,rfl⟩
      unfold Builtin.«set.__init__» noKeywords Builtin.Frozenset.updateFrom
      generalize hPI:pyIter=PI
      wp_walk
      subst hPI
      refine wpAny_pyIter_list l1 (wpAny_bind (wpAny_runValue ?_))
      have lt:l < s.heap.objs.size:=Heap.lt_size hol
      have h3:A.in1.in1.in1.handled=none:=by simp [hh]
      have sz:(s.heap.push (newSet led)).objs.size=s.heap.objs.size+1:=Heap.size_push ..
      have ne1:l≠(s.heap.push (newSet led)).objs.size:=by rw [sz];exact Nat.ne_of_lt (Nat.lt_succ_of_lt lt)
      have off:s.heap.objs.size∉[(s.heap.push (newSet led)).objs.size,l]:=by
       rw [sz]
       intro z
       rcases List.mem_cons.mp z with z | z
       · exact absurd z (Nat.ne_of_lt (Nat.lt_succ_self _))
       · exact absurd (List.mem_singleton.mp z) (Nat.ne_of_gt lt)
      refine setD_run (knd:=knd) ((Walks.list h3 _ l ne1 us).toS) off (ys:=ys) hy (fun i v hv'=>hv i v hv') hb (us.size - 0) 0 _ rfl (Nat.zero_le _) ⟨⟨_,Heap.get?_push_size _ rfl,rfl,rfl⟩,l1.push _⟩ ?_ ?_
      · refine ⟨newSet led,#[],0,_,Heap.get?_push_of_some _ at0,⟨rfl,rfl,rfl⟩,rfl,fun e he=>by simp at he,fun k=>by simp [ds],by decide,⟨hled.symm,rfl,fun _=> .nil,by rfl⟩,rfl⟩
      · rintro ⟨h',g',d',tk',os2⟩ mv q'
        have eg:g'=s.gens:=mv.gens
        have ed:d'=s.drawn:=mv.drawn
        have eo:os2=s.os:=mv.os
        subst eg ed eo
        show wpAny _ _ _ _ _ _
        refine wpAny_pure ?_
        show wpAny _ _ (ret Value.none) _ _ _
        refine wpAny_pure ⟨rfl,h',tk',rfl,q',fun b o ho=>mv.heap b o (fun z=>?_) (Heap.get?_push_of_some _ (Heap.get?_push_of_some _ ho))⟩
        have ltb:=Heap.lt_size ho
        rw [sz]at z
        rcases List.mem_cons.mp z with z | z
        · exact absurd z (Nat.ne_of_lt ltb)
        · exact absurd (List.mem_singleton.mp z) (Nat.ne_of_lt (Nat.lt_succ_of_lt ltb))
    · cases r2 with
      | error e=>exact hr2
      | ok fl2=>
       cases fl2 with
       | ret r=>
        obtain ⟨rfl,h',tk,rfl,q',k'⟩:=hr2
        repeat (any_goals (first | assumption | wp_step))
        exact q _ _ q' k'
       | _=>exact hr2.elim
   | _=>exact hr.elim))
end
end L2
namespace L2
open N30
section
variable {prog:Program} {w:World} {A:Around} {E:Value→Shared→Prop} {s:Shared}
theorem SetX.open'{K:Type}[DecidableEq K]{knd:PySem.KeyKind prog w K}{h:Heap}{a:Addr}{l:List K}(q:SetD knd h a l)(nd:l.Nodup):∃es ep t,SetRaw h a es ep t∧TabOk t es.size (!byT w)∧es.size < scanBound∧es.size=l.length∧
 ∃ks:List K,ks.Perm l∧Paired (fun (k:K) (v:Value)=>knd.is k v=true) ks (es.toList.map (·.2)):=by
 obtain ⟨o,es,ep,t,ho,hx,hd,hel,hmem,hb,T,hn⟩:=q
 refine ⟨es,ep,t,⟨o,ho,hx,hd⟩,T,hb,hn,?_⟩
 have key:∀l':List (Int×Value),ElemsOf knd l'→∃ks:List K,Paired (fun (k:K) (v:Value)=>knd.is k v=true) ks (l'.map (·.2)):=by
  intro l'
  induction l' with
  | nil=>intro _;exact ⟨[],.nil⟩
  | cons e r ih=>
   intro h
   obtain ⟨⟨k,hk,_⟩,_⟩:=h.head
   obtain ⟨ks,hp⟩:=ih h.tail
   exact ⟨k::ks,.cons hk hp⟩
 have memP:∀(ks:List K) (vs:List Value),Paired (fun (k:K) (v:Value)=>knd.is k v=true) ks vs→∀v∈vs,∃k∈ks,knd.is k v=true:=by
  intro ks vs h
  induction h with
  | nil=>intro v hv;cases hv
  | cons a _ ih=>
   intro v hv
   rcases List.mem_cons.mp hv with e | hv
   · subst e;exact ⟨_,.head _,a⟩
   · obtain ⟨k,hk,r⟩:=ih v hv
     exact ⟨k,.tail _ hk,r⟩
 obtain ⟨ks,hp⟩:=key es.toList hel
 have hl:ks.length=l.length:=by rw [Paired.length hp,List.length_map,Array.length_toList];exact hn
 refine ⟨ks,perm_of l ks nd (fun x hx=>?_) (Nat.le_of_eq hl),hp⟩
 obtain ⟨e,he,hk⟩:=(hmem x).mp (decide_eq_true hx)
 obtain ⟨k,hk1,hk2⟩:=memP ks _ hp e.2 (List.mem_map.mpr ⟨e,he,rfl⟩)
 rw [knd.inj e.2 x k hk hk2];exact hk1
theorem paired_perm{K:Type}{F:K→Value→Prop}{vs vs':List Value}(p:vs'.Perm vs):∀{ks:List K},Paired F ks vs→∃ks':List K,ks'.Perm ks∧Paired F ks' vs':=by
 induction p with
 | nil=>intro ks h;exact ⟨ks,.refl _,h⟩
 | cons x _ ih=>
  intro ks h
  cases h with
  | cons a r=>
   obtain ⟨ks',h1,h2⟩:=ih r
   exact ⟨_::ks',h1.cons _,.cons a h2⟩
 | swap x y l=>
  intro ks h
  cases h with
  | cons a r=>
   cases r with
   | cons b r'=>exact ⟨_,.swap _ _ _,.cons b (.cons a r')⟩
 | trans _ _ ih1 ih2=>
  intro ks h
  obtain ⟨k1,a1,b1⟩:=ih2 h
  obtain ⟨k2,a2,b2⟩:=ih1 b1
  exact ⟨k2,a2.trans a1,b2⟩
theorem ints_of{ks:List Int}{vs:List Value}(h:Paired (fun (k:Int) (v:Value)=>(intKind prog w).is k v=true) ks vs):IntsAre vs ks:=by
 induction h with
 | nil=>exact .nil
 | cons a _ ih=>
  obtain ⟨t,rfl⟩:=Value.isInt_shape a
  exact .cons _ t ih
theorem sheap_kept{h:Heap}{a:Addr}{vs:List Value}{out:Array Value}(lt:a < h.objs.size):∀b o,b≠a→h.get? b=some o→(sortedHeap h a vs out).get? b=some o:=fun b o nb e=>by
 rw [sortedHeap_old nb (Heap.lt_size e)];exact e
theorem sorted_setI{a:Addr}{l:List Int}{Q:Value→Shared→Prop}(hh:A.handled=none)(q:SetD (intKind prog w) s.heap a l)(nd:l.Nodup)(h64:l.length < 64)
 (h:∀(D:Addr) (h':Heap) (tk:Nat) (d':Drawn) (vs:List Value) (ns:List Int) (c:Nat),s.heap.objs.size≤D→(∀b o,s.heap.get? b=some o→h'.get? b=some o)→h'.get? D=some (seqObj "list" vs.toArray c)→IntsAre vs ns→ns.Perm l→ns.Pairwise (· ≤·)→Q (.ref D) {s with heap:=h',toks:=tk,drawn:=d'}):
 wpAny (model prog w) A (call (.builtin "sorted") [.ref a]) Q E s:=by
 obtain ⟨es,ep,t,hr,T,hb,hn,ks,hp,hk⟩:=q.open' nd
 have hz:es.size≤sizeLine:=fits_of_scanBound hb
 refine Calls.call_function_entry kind_sorted plain_sorted entry_sorted (args_sorted1 _) ?_
 unfold Builtin.«sorted»
 refine wpAny_bind (m:=checkCount "sorted" 1 1 _) (wpAny_pure ?_)
 refine wpAny_bind (collectX (A:=A.in1) hh hr T hz fun h1 tk d1 vs lt1 k1 pv=>?_)
 have hlv:vs.length=l.length:=by rw [pv.length_eq,List.length_map,Array.length_toList];exact hn
 obtain ⟨ks',p2,k2⟩:=paired_perm pv hk
 have hI:IntsAre vs ks':=ints_of k2
 refine wpAny_bind (wpAny_newList ?_ (by rw [hlv,sizeLine_eq];omega))
 have hoL:(h1.push (seqObj "list" vs.toArray 0)).get? h1.objs.size=some (seqObj "list" vs.toArray 0):=Heap.get?_push_size _ rfl
 have sz:(h1.push (seqObj "list" vs.toArray 0)).objs.size=h1.objs.size+1:=Heap.size_push ..
 refine wpAny_bind (wpAny_holding (wpAny_call_entry slot_list_sort ⟨_,hoL,rfl⟩ entry_list_sort (list_sort_tree hoL hI (by omega) fun out ns' a1 a2 a3=>⟨_,rfl,?_⟩) (args_list_sort _)))
 refine wpAny_pure ⟨_,rfl,?_⟩
 obtain ⟨c,hc⟩:=sortedHeap_at (out:=out) hoL
 exact h h1.objs.size _ tk d1 out.toList ns' c (Nat.le_of_lt lt1) (fun b o e=>sheap_kept (by rw [sz];exact Nat.lt_succ_self _) b o (Nat.ne_of_lt (Heap.lt_size (k1 b o e))) (Heap.get?_push_of_some _ (k1 b o e))) (by rw [Array.toArray_toList];exact hc) a1 (a2.trans (p2.trans hp)) a3
end
section
variable {X:Cx}
theorem Inv.laidD{pins:List (Addr×Obj)}{σ:St}{H:Hp}{s:Shared}{h':Heap}{a:Addr}{o:HO}{t':Nat}{d':Drawn}(I:Inv X pins σ H s)(k:∀b u,s.heap.get? b=some u→h'.get? b=some u)(hp:s.heap.objs.size≤a)(new:ObjOk X.prog X.w (upd H a o) h' a o):
 Inv X pins σ (upd H a o) {s with heap:=h',toks:=t',drawn:=d'}:=
 I.call (g':=s.gens) (d':=d') (ch:=[]) (Un.laid k hp (I.hok.fresh hp)) (I.hok.laid k hp new) I.bare fun _ z=>nomatch z
noncomputable def tSortSet(K:PySem.W.Frag)(t:TA):TE:=fun σ H Q=>t σ H fun vs H1=>∃(a:Addr) (ns:List Int),vs=[.ref a]∧SqL K H1 a (ns.map V.int)∧ns.length < 64∧∀(q:Addr) (zs:List Int),H1 q=none→zs.Perm (ds ns)→zs.Pairwise (· ≤·)→Q (.ref q) (upd H1 q (.lst (zs.map V.int)))
theorem ix_int{ns:List Int}:∀{us:List Value},Vals (ns.map V.int) us→∀(i:Nat) (v:Value),us[i]?=some v→∃k,ns[i]?=some k∧(∃t,v= .int k t):=by
 intro us r i v h
 have hl:=r.length
 rw [List.length_map]at hl
 have hi:i < ns.length:=by rw [hl];exact (List.getElem?_eq_some_iff.mp h).1
 obtain ⟨u,hu,ru⟩:=r.get (i:=i) (x:= .int ns[i]) (by rw [List.getElem?_map,List.getElem?_eq_getElem hi];rfl)
 rw [h]at hu;cases hu
 exact ⟨_,List.getElem?_eq_getElem hi,ru⟩
theorem vals_ofI{ns:List Int}{us:List Value}(h:IntsAre us ns):Vals (ns.map V.int) us:=by
 induction h with
 | nil=>exact .nil
 | cons y t _ ih=>exact .cons ⟨t,rfl⟩ ih
variable {e:Expr} {t:TA} {p p2 pos pos2:Pos}
theorem pe_sortset(hc:X.calm=true)(hg:Gl X "sorted")(hm:X.mg "sorted"=none)(hg2:Gl X "set")(hm2:X.mg "set"=none)(ha:PA X [e] t)(he:starEach [e] X.env=(false,eval e X.env)::starEach [] X.env:=by rfl)
 (he2:starEach [.Call (.Name "set" p2) [e] [] pos2] X.env=(false,eval (.Call (.Name "set" p2) [e] [] pos2) X.env)::starEach [] X.env:=by rfl):PE X (.Call (.Name "sorted" p) [.Call (.Name "set" p2) [e] [] pos2] [] pos) (tSortSet X.K t):=by
 intro pins s σ H Q I h
 have hv:bootBuiltins "set"=some (.type "set"):=by decide+kernel
 have hv1:bootBuiltins "sorted"=some (.builtin "sorted"):=by decide+kernel
 refine wpAny_Call_Name_kw (ld_blt I hg hm hv1 (callWith_builtin1 (by
  rw [he2]
  show wpAny _ _ (spliced ((false,eval (.Call (.Name "set" p2) [e] [] pos2) X.env)::backTo pos (starEach [] X.env))) _ _ s
  refine Calls.spliced_cons (wpAny_Call_Name_kw (ld_blt I hg2 hm2 hv (callWith_type1 (thn (ha pos2 pins s σ H _ I h) fun us s1 hq_=>?_) he (by rfl))))
  obtain ⟨vs,H1,I1,r1,q1⟩:=hq_
  obtain ⟨a,ns,rfl,hq,hz,q⟩:=q1
  cases r1 with
  | cons r rr=>
   cases rr
   cases r
   obtain ⟨its,rv,pl,_⟩:=I1.list hq
   have hl:=rv.length
   rw [List.length_map]at hl
   have h0:=I1.ok.hd hc
   refine call_setD (knd:=intKind X.prog X.w) (ys:=ns) h0 pl.isList (by rw [List.size_toArray];exact hl.symm) (fun i v hv'=>?_) (by rw [List.size_toArray,← hl];unfold scanBound;omega) fun h' tk st k=>?_
   · rw [List.getElem?_toArray]at hv'
     obtain ⟨k,hk,t,rfl⟩:=ix_int rv i v hv'
     exact ⟨k,hk,intKind_is _ _ _ _,rfl⟩
   · refine Calls.spliced_nil ?_
     refine sorted_setI h0 st (ds_nodup ns) (Nat.lt_of_le_of_lt (len_ds ns) hz) fun D h2 tk2 d2 vs2 ns2 c hD k2 g2 i2 p2 o2=>?_
     have szk:s1.heap.objs.size≤D:=by
      obtain ⟨o,_,_,_,ho,_⟩:=st
      exact Nat.le_trans (Nat.le_of_lt (Heap.lt_size ho)) hD
     refine ⟨.ref D,_,I1.laidD (t':=tk2) (d':=d2) (fun b u q'=>k2 b u (k b u q')) szk (o:= .lst (ns2.map V.int)) ⟨?_,vs2,c,vals_ofI i2,g2⟩,rfl,q D ns2 (I1.hok.fresh szk) p2 o2⟩
     have:=len_ds ns
     rw [List.length_map,p2.length_eq,sizeLine_eq];omega) he2 (by rfl)))
end
theorem rd_sortset{K:PySem.W.Frag}{σ:St}{H:Hp}{Q:VK}{t:TA}:tSortSet K t σ H Q=t σ H fun vs H1=>∃(a:Addr) (ns:List Int),vs=[.ref a]∧SqL K H1 a (ns.map V.int)∧ns.length < 64∧∀(q:Addr) (zs:List Int),H1 q=none→zs.Perm (ds ns)→zs.Pairwise (· ≤·)→Q (.ref q) (upd H1 q (.lst (zs.map V.int))):=rfl
end L2
namespace N35
open L2 N1 N5 N31 N4 N32 N41
section
variable (ys:List Str)
noncomputable def yat(j:Nat):Str:=ys.getD j Str.empty
end
variable {ys:List Str} {R:Str→Int} {n c:Nat}
noncomputable def thr(o:Option Int)(P:Int):Bool:=match o with
 | none=>false
 | some d=>decide (d≤P)
noncomputable def mis(R:Str→Int)(ys:List Str)(P:Int)(n:Nat):List Nat:=(List.range n).filter fun i=>!thr (dep R ys i) P
noncomputable def nMis(R:Str→Int)(ys:List Str)(P:Int)(n:Nat):Int:=((mis R ys P n).length:Int)
noncomputable def cMis(C R:Str→Int)(ys:List Str)(P:Int)(n:Nat):Int:=((mis R ys P n).map fun i=>C (yat ys i)).sum
theorem compL_mkT{K:PySem.W.Frag}{H1:Hp}{tail:L2.St}{te:Blk→TE}{Q:VK}{a:Addr}{xs:List V}(f:Nat→List V)(hS:SqL K H1 a xs)(hz:xs.length≤sizeLine)(he:∀b (i:Nat) x H Q',xs[i]?=some x→Same H1 H→(∀t H',Same H H'→H' t=some (.tup (f i))→Q' (.ref t) H')→te b (some x::tail) H Q')
 (q:∀(D:Addr) (as:List Addr) (H':Hp),H1 D=none→Same H1 H'→H' D=some (.lst (as.map V.ref))→as.length=xs.length→(∀i b,as[i]?=some b→H' b=some (.tup (f i)))→Q (.ref D) H'):CompTail (none::tail) (fun _=>gName 0) (fun _=>tYes) te Q (Itl K a) H1:=by
 refine comp_by xs.length (fun b D hD=>⟨fun i ys H=>i≤xs.length∧H D=some (.lst ys)∧Same H1 H∧∃as:List Addr,ys=as.map V.ref∧as.length=i∧∀j c,as[j]?=some c→H c=some (.tup (f j)),⟨Nat.zero_le _,upd_same,same_new hD,[],rfl,rfl,fun j y e=>by simp at e⟩,?_,?_,?_⟩)
 · rintro i ys H ⟨hi,h,_⟩
   exact h
 · rintro ys H ⟨_,h,sm,as,rfl,hl,hall⟩
   exact ⟨⟨xs,sm.seq hS,Nat.le_refl _⟩,q D as H hD sm h hl hall⟩
 · rintro i ys H hi ⟨_,h,sm,as,rfl,hl,hall⟩
   refine ⟨⟨xs,xs[i],sm.seq hS,by simp [hi]⟩,fun x H3 ⟨e3,ex⟩=>?_⟩
   subst e3
   refine he b i x _ _ (ex xs (sm.seq hS)) sm fun t H4 sm4 py=>?_
   have h4:=sm4 _ _ h
   refine compNext h4 (by rw [List.length_map];omega) hi ⟨hi,upd_same,fun c o e=>?_,as++[t],by rw [List.map_append];rfl,by rw [List.length_append,hl];rfl,fun j c e=>?_⟩
   · rw [upd_ne (ne_of_none e hD)];exact sm4 _ _ (sm _ _ e)
   · by_cases hj:j < as.length
     · rw [List.getElem?_append_left hj]at e
       have g:=sm4 _ _ (hall j c e)
       rw [upd_ne (ne_of g h4 (by intro z;cases z))];exact g
     · rw [List.getElem?_append_right (by omega)]at e
       have hj0:j=i:=by have:=(List.getElem?_eq_some_iff.mp e).1;simp at this;omega
       subst hj0
       rw [show j - as.length=0 by omega]at e
       cases e
       rw [upd_ne (ne_of py h4 (by intro z;cases z))];exact py
theorem compL_ifj{K:PySem.W.Frag}{H1:Hp}{tail:L2.St}{tt:Blk→TT}{te:Blk→TE}{Q:VK}{a:Addr}{xs:List V}(p:Nat→Bool)(hS:SqL K H1 a xs)(hz:xs.length≤sizeLine)
 (ht:∀b (i:Nat) x H QT,xs[i]?=some x→Same H1 H→(∀H',Same H H'→QT (p i) H')→tt b (some x::tail) H QT)
 (he:∀b (i:Nat) x H Q',xs[i]?=some x→p i=true→Same H1 H→(∀H',Same H H'→Q' x H')→te b (some x::tail) H Q')
 (q:∀D H',H1 D=none→Same H1 H'→H' D=some (.lst (((List.range xs.length).filter p).map fun i=>xs.getD i .non))→Q (.ref D) H'):CompTail (none::tail) (fun _=>gName 0) tt te Q (Itl K a) H1:=by
 intro b D hD
 refine ⟨fun i m ys H=>m=xs.length - i∧i≤xs.length∧ys=((List.range i).filter p).map (fun i=>xs.getD i .non)∧H D=some (.lst ys)∧Same H1 H,⟨_,rfl,Nat.zero_le _,rfl,upd_same,same_new hD⟩,?_⟩
 rintro i m ys H ⟨rfl,hi,rfl,hd,sm⟩
 refine ⟨hd,?_⟩
 by_cases hlt:i < xs.length
 · have hx:=List.getElem?_eq_getElem hlt
   refine .inr ⟨⟨xs,xs[i],sm.seq hS,hx⟩,fun x H3 ⟨e3,ex⟩=>⟨kept0,?_⟩⟩
   subst e3
   have hx':=(ex xs (sm.seq hS)).symm.trans hx
   cases hx'
   have eg:xs.getD i .non=xs[i]:=by rw [List.getD_eq_getElem?_getD,hx];rfl
   have hl:(((List.range i).filter p).map fun i=>xs.getD i .non).length≤i:=by
    rw [List.length_map];exact Nat.le_trans (List.length_filter_le _ _) (by rw [List.length_range];omega)
   have htk:(List.range (i+1)).filter p=(List.range i).filter p++[i].filter p:=by rw [List.range_succ,List.filter_append]
   refine ht b i _ _ _ hx sm fun H7 s7=>?_
   by_cases hp:p i=true
   · rw [if_pos hp]
     refine he b i _ H7 _ hx hp (sm.trans s7) fun H8 s8=>?_
     have hd8:=(s7.trans s8) _ _ hd
     refine ⟨hd8,by omega,xs.length - (i+1),by omega,rfl,hlt,?_,upd_same,same_put ((sm.trans s7).trans s8) hD⟩
     rw [htk,List.filter_cons_of_pos hp,List.filter_nil,List.map_append]
     show _++[xs[i]]=_++[xs.getD i .non]
     rw [eg]
   · rw [if_neg hp]
     refine ⟨xs.length - (i+1),by omega,rfl,hlt,?_,s7 _ _ hd,sm.trans s7⟩
     rw [htk,List.filter_cons_of_neg hp,List.filter_nil,List.append_nil]
 · have e:i=xs.length:=by omega
   subst e
   exact .inl ⟨⟨xs,sm.seq hS,Nat.le_refl _⟩,q D H hD sm hd⟩
theorem eqQ_nil{K:PySem.W.Frag}{H:Hp}{a b:Addr}{xs:List V}(h1:SqL K H a xs)(hf:xs.all flatV=true)(h2:SqL K H b []):EqQ K H (.ref a) (.ref b) (decide (xs=[])):=⟨a,b,xs,[],rfl,rfl,.inl ⟨h1,h2⟩,hf,rfl,by cases xs <;> simp [flatEq]⟩
theorem deps_flat:(depsV R ys).all flatV=true:=by
 unfold depsV
 rw [List.all_map,List.all_eq_true]
 intro i _
 show flatV (optV (dep R ys i))=true
 cases dep R ys i <;> rfl
noncomputable def dps(R:Str→Int)(ys:List Str)(w:Int):List Int:=(List.range ys.length).filterMap fun i=>match dep R ys i with | none=>none | some v=>if w < v then some v else none
theorem dps_eq{w:Int}:((List.range (depsV R ys).length).filter fun i=>match dep R ys i with | none=>false | some v=>decide (w < v)).map (fun i=>(depsV R ys).getD i V.non)=(dps R ys w).map V.int:=by
 have hdl:(depsV R ys).length=ys.length:=by unfold depsV;rw [List.length_map,List.length_range]
 rw [hdl]
 unfold dps
 have key:∀l:List Nat,(∀i∈l,i < ys.length)→(l.filter fun i=>match dep R ys i with | none=>false | some v=>decide (w < v)).map (fun i=>(depsV R ys).getD i V.non)=(l.filterMap fun i=>match dep R ys i with | none=>none | some v=>if w < v then some v else none).map V.int:=by
  intro l
  induction l with
  | nil=>intro _;rfl
  | cons i r ih=>
   intro h
   have hi:=h i (.head _)
   have ih:=ih fun j hj=>h j (.tail _ hj)
   have eg:(depsV R ys).getD i V.non=optV (dep R ys i):=by unfold depsV;rw [List.getD_eq_getElem?_getD,List.getElem?_map,List.getElem?_range hi];rfl
   rw [List.filter_cons,List.filterMap_cons]
   cases e:dep R ys i with
   | none=>simp only [Bool.false_eq_true,if_false];exact ih
   | some v=>
    by_cases c:w < v
    · simp only [decide_eq_true c,if_true,if_pos c,List.map_cons]
      rw [ih,eg,e];rfl
    · simp only [decide_eq_false c,if_neg c,Bool.false_eq_true,if_false]
      exact ih
 exact key _ fun i hi=>List.mem_range.mp hi
theorem dps_len{w:Int}:(dps R ys w).length≤ys.length:=by
 unfold dps
 exact Nat.le_trans (List.length_filterMap_le _ _) (by rw [List.length_range];exact Nat.le_refl _)
theorem cut_4x(ns:List Int)(lo hi:Nat):∃cs:List Int,cutV (ns.map V.int) (some (lo:Int)) (some (hi:Int))=cs.map V.int∧cs.length≤hi - lo∧cs.length≤ns.length - lo:=by
 unfold cutV
 rw [HT.sIx_nat,HT.sIx_nat,List.length_map,← List.map_drop,← List.map_take]
 refine ⟨_,rfl,?_,?_⟩
 · rw [List.length_take,List.length_drop];omega
 · rw [List.length_take,List.length_drop];omega
noncomputable abbrev stT(C R:Str→Int)(ys:List Str)(z:Int):List V:=[.int z,.int (nMis R ys z ys.length),.int (cMis C R ys z ys.length)]
noncomputable def sp35_there:Sp:=fun vs H Q _=>∃(o:Option Int) (p:Int),vs=[optV o,.int p]∧Q (.bl (thr o p)) H
noncomputable def sp35_step(K:PySem.W.Frag)(X:Addr):Sp:=fun vs H Q _=>∃(st a d:Addr) (P:Int) (ts:List Th) (ys:List Str),vs=[.ref st,.ref a,.ref d,.int P]∧StockAt K X H st ts∧(ts.map (·.1)).Nodup∧SqL K H a (ys.map V.str)∧ys.length≤200∧(∀y∈ys,y∈ts.map (·.1))∧SqL K H d (depsV (rm ts) ys)∧
 ∀t H',H t=none→Same H H'→H' t=some (.tup (stT (cst ts) (rm ts) ys P))→Q (.ref t) H'
noncomputable def sp35_names:Sp:=fun vs H Q _=>∃(i:Int) (m:Nat),vs=[.int i,.int m]∧m≤9∧∀(p:Addr) (ys:List Str) (H':Hp),H p=none→Same H H'→H' p=some (.lst (ys.map V.str))→ys.length=m→ys.Nodup→(∀y∈ys,nameB y.cps.toList=true)→Q (.ref p) H'
end N35
namespace N34
open L2 N1 N5 N31 N4 N32 N41 N35
variable {ys:List Str} {R:Str→Int} {n c:Nat}
end N34
namespace L2
noncomputable def rIndex:V→List V→Hp→VK→Prop:=fun x vs H Q=>∃(l:Addr) (ys:List Str) (z:Str),x= .ref l∧vs=[.str z]∧H l=some (.lst (ys.map V.str))∧z∈ys∧Q (.int (ys.idxOf z:Nat)) H
section
variable {X:Cx}
theorem mt_index:MtM X "list.index" rIndex:=by
 intro pins s σ H x vs v us Q I rx rv h
 obtain ⟨l,ys,z,rfl,rfl,hH,hz,q⟩:=h
 cases rx
 obtain ⟨u,rfl,ru⟩:=rv.one
 obtain ⟨t,rfl⟩:=ru
 obtain ⟨hs,its,n,r,hl,e⟩:=I.lstM hH
 have line:=line_val
 have hj:ys.idxOf z < ys.length:=List.idxOf_lt_length_iff.mpr hz
 have hyl:ys.length≤sizeLine:=by have:=hs;rw [List.length_map]at this;exact this
 have at_:∀(m:Nat) (u:Value),its[m]?=some u→∃y t,ys[m]?=some y∧u= .str y t:=fun m u em=>by
  obtain ⟨x,ex,rx⟩:=vals_get r em
  rw [List.getElem?_map]at ex
  cases hy:ys[m]? with
  | none=>rw [hy]at ex;cases ex
  | some y=>
   rw [hy]at ex
   cases ex
   obtain ⟨t,e⟩:=rx
   exact ⟨y,t,rfl,e⟩
 have ev:∀y,y∈its.toArray→MeetsSeq.EqGives y (.str z t) (PyProof.Rows.isStrOf z y):=fun y hy=>by
  obtain ⟨m,hm⟩:=List.mem_iff_getElem?.mp (by simpa using hy)
  obtain ⟨y',t',_,rfl⟩:=at_ m y hm
  exact eqGives_str y' z t' t
 have hit:∀(m:Nat) (hm:m < its.toArray.size),∃y t,ys[m]?=some y∧its.toArray[m]= .str y t:=fun m hm=>at_ m _ (by simp)
 refine call_meets F.slot_list_index ⟨_,e,rfl⟩ F.entry_list_index (F.args_list_index_2 _ _) (MeetsSeq.list_index l its.toArray n (.str z t) (isStrOf z) ev (ys.idxOf z) (by rw [List.size_toArray,← hl,List.length_map];exact hj) (by omega) ?_ ?_) ⟨e,?_⟩
 · obtain ⟨y,t',h1,h2⟩:=hit (ys.idxOf z) (by rw [List.size_toArray,← hl,List.length_map];exact hj)
   rw [h2]
   have e3:ys[ys.idxOf z]?=some z:=by rw [List.getElem?_eq_getElem hj,List.getElem_idxOf hj]
   rw [e3]at h1;cases h1
   simp [isStrOf]
 · intro m hm hlt
   obtain ⟨y,t',h1,h2⟩:=hit m hm
   rw [h2]
   have e3:(ys[m]'(by omega)==z)=false:=List.not_of_lt_findIdx hlt
   rw [List.getElem?_eq_getElem (by omega)]at h1
   cases h1
   exact e3
 · exact ⟨.int (ys.idxOf z:Nat),H,I.kept (t':=s.toks+1) (fun b o e=>e),⟨_,rfl⟩,q⟩
theorem rd_index{x:V}{vs:List V}{H:Hp}{Q:VK}:rIndex x vs H Q=∃(l:Addr) (ys:List Str) (z:Str),x= .ref l∧vs=[.str z]∧H l=some (.lst (ys.map V.str))∧z∈ys∧Q (.int (ys.idxOf z:Nat)) H:=rfl
end
end L2
namespace N36
open L2 N1 N5 N4 N6 N12 N32 N14 N20 N18 N25 NR N22 N21 N24 N23 N29
theorem snoc_ind{P:List Str→Prop}(nil:P [])(snoc:∀l u,P l→P (l++[u]))(l:List Str):P l:=by
 have h:∀l:List Str,P l.reverse:=by
  intro l
  induction l with
  | nil=>exact nil
  | cons u l ih=>rw [List.reverse_cons];exact snoc _ _ ih
 have:=h l.reverse
 rw [List.reverse_reverse]at this
 exact this
noncomputable def ltK(f g:Str→Int)(a b:Str):Bool:=decide (f a < f b∨(f a=f b∧g a < g b))
theorem ltK_t{f g:Str→Int}{a b:Str}:ltK f g a b=true↔(f a < f b∨(f a=f b∧g a < g b)):=by unfold ltK;exact decide_eq_true_iff
theorem ltK_f{f g:Str→Int}{a b:Str}:ltK f g a b=false↔¬(f a < f b∨(f a=f b∧g a < g b)):=by unfold ltK;exact decide_eq_false_iff_not
noncomputable def cstep(lt:Str→Str→Bool)(s:List Str×Str)(u:Str):List Str×Str:=if lt u s.2 then (s.1++[s.2],u) else (s.1++[u],s.2)
noncomputable def cst(lt:Str→Str→Bool)(c:Str)(us:List Str):List Str×Str:=us.foldl (cstep lt) ([],c)
theorem cst_snoc{lt:Str→Str→Bool}{c u:Str}{us:List Str}:cst lt c (us++[u])=cstep lt (cst lt c us) u:=by unfold cst;rw [List.foldl_append];rfl
theorem cst_len{lt:Str→Str→Bool}{c:Str}(us:List Str):(cst lt c us).1.length=us.length:=by
 induction us using snoc_ind with
 | nil=>rfl
 | snoc us u ih=>rw [cst_snoc];unfold cstep;split <;> simp [ih]
structure CS(f g:Str→Int)(l:List Str)(s:List Str×Str):Prop where
 m:s.2∈l
 k:∀u,u∈s.1↔(u∈l∧u≠s.2)
 nd:s.1.Nodup
 mn:∀u∈l,ltK f g u s.2=false
theorem nd_snoc{l:List Str}{u:Str}(h:l.Nodup)(hu:u∉l):(l++[u]).Nodup:=by
 rw [List.nodup_append];exact ⟨h,by simp,fun a ha b hb e=>hu (by rw [List.mem_singleton.mp hb]at e;rw [← e];exact ha)⟩
theorem cs_of{f g:Str→Int}{c:Str}(us:List Str)(nd:(c::us).Nodup):CS f g (c::us) (cst (ltK f g) c us):=by
 induction us using snoc_ind with
 | nil=>exact ⟨by simp [cst],fun u=>by simp [cst],by simp [cst],fun u hu=>by rw [List.mem_singleton.mp hu];show ltK f g c c=false;rw [ltK_f];omega⟩
 | snoc us v ih=>
  have nd':(c::us++[v]).Nodup:=by simpa using nd
  obtain ⟨n1,_,n3⟩:=List.nodup_append.mp nd'
  have hv:v∉c::us:=fun h=>n3 v h v (by simp) rfl
  obtain ⟨m,k,nd2,mn⟩:=ih n1
  rw [cst_snoc]
  generalize cst (ltK f g) c us=s at m k nd2 mn
  have ms:s.2∉s.1:=fun h=>((k _).mp h).2 rfl
  have vs1:v∉s.1:=fun h=>hv ((k _).mp h).1
  have e:c::(us++[v])=(c::us)++[v]:=rfl
  rw [e]
  unfold cstep
  by_cases hlt:ltK f g v s.2=true
  · rw [if_pos hlt]
    refine ⟨by simp,fun u=>?_,nd_snoc nd2 ms,fun u hu=>?_⟩
    · show u∈s.1++[s.2]↔_
      rw [List.mem_append,List.mem_singleton,List.mem_append,List.mem_singleton,k]
      constructor
      · rintro (⟨h,_⟩ | rfl)
        · exact ⟨.inl h,fun (e:u=v)=>hv (by rw [← e];exact h)⟩
        · exact ⟨.inl m,fun (e:s.2=v)=>hv (by rw [← e];exact m)⟩
      · rintro ⟨h | rfl,hne⟩
        · by_cases e:u=s.2
          · exact .inr e
          · exact .inl ⟨h,e⟩
        · exact absurd rfl hne
    · show ltK f g u v=false
      rw [ltK_t]at hlt
      rcases List.mem_append.mp hu with h | h
      · have:=mn u h
        rw [ltK_f]at this ⊢
        omega
      · rw [List.mem_singleton.mp h,ltK_f];omega
  · rw [if_neg hlt]
    refine ⟨List.mem_append_left _ m,fun u=>?_,nd_snoc nd2 vs1,fun u hu=>?_⟩
    · show u∈s.1++[v]↔_
      rw [List.mem_append,List.mem_singleton,List.mem_append,List.mem_singleton,k]
      constructor
      · rintro (⟨h,hne⟩ | rfl)
        · exact ⟨.inl h,hne⟩
        · exact ⟨.inr rfl,fun e=>hv (by rw [e];exact m)⟩
      · rintro ⟨h | rfl,hne⟩
        · exact .inl ⟨h,hne⟩
        · exact .inr rfl
    · rcases List.mem_append.mp hu with h | h
      · exact mn u h
      · rw [List.mem_singleton.mp h];exact Bool.eq_false_iff.mpr hlt
noncomputable def pos(row:List Str)(z:Str):Nat:=if z∈row then row.idxOf z else row.length
noncomputable def carrA(lt:Str→Str→Bool)(row:List Str):List Str:=(cst lt (row.headD Str.empty) row.tail).1++[(cst lt (row.headD Str.empty) row.tail).2]
noncomputable def behd(lt:Str→Str→Bool)(row:List Str)(z:Str):List Str:=
 if row=[]∨row.head?=some z then z::row.tail else z::(carrA lt (row.take (pos row z))++row.drop (pos row z+1))
noncomputable def dep(row:List Str)(z:Str):Option Nat:=if z∈row then some (row.idxOf z+1) else none
theorem perm_of{l l':List Str}(h1:l.Nodup)(h2:l'.Nodup)(h:∀u,u∈l↔u∈l'):l.Perm l':=(List.perm_ext_iff_of_nodup h1 h2).mpr h
theorem split_at{row:List Str}{z:Str}(h:z∈row):row=row.take (row.idxOf z)++z::row.drop (row.idxOf z+1):=by
 have hl:=List.idxOf_lt_length_iff.mpr h
 have e:=List.getElem_idxOf hl
 conv=>lhs;rw [← List.take_append_drop (row.idxOf z) row,List.drop_eq_getElem_cons hl,e]
theorem carrA_mem{f g:Str→Int}{A:List Str}(nd:A.Nodup)(h:A≠[]):(carrA (ltK f g) A).Nodup∧(∀u,u∈carrA (ltK f g) A↔u∈A)∧(carrA (ltK f g) A).length=A.length:=by
 obtain ⟨c,r,rfl⟩:=List.exists_cons_of_ne_nil h
 obtain ⟨m,k,n,mn⟩:=cs_of (f:=f) (g:=g) r nd
 unfold carrA
 show ((cst (ltK f g) c r).1++[(cst (ltK f g) c r).2]).Nodup∧(∀u,u∈(cst (ltK f g) c r).1++[(cst (ltK f g) c r).2]↔_)∧((cst (ltK f g) c r).1++[(cst (ltK f g) c r).2]).length=_
 refine ⟨nd_snoc n fun hh=>((k _).mp hh).2 rfl,fun u=>?_,by rw [List.length_append,cst_len];rfl⟩
 rw [List.mem_append,List.mem_singleton,k]
 constructor
 · rintro (⟨h,_⟩ | rfl)
   · exact h
   · exact m
 · intro h
   by_cases e:u=(cst (ltK f g) c r).2
   · exact .inr e
   · exact .inl ⟨h,e⟩
theorem pos_hit{row:List Str}{z:Str}(h:z∈row):pos row z=row.idxOf z:=by unfold pos;rw [if_pos h]
theorem pos_miss{row:List Str}{z:Str}(h:z∉row):pos row z=row.length:=by unfold pos;rw [if_neg h]
theorem behd_ok{f g:Str→Int}{row:List Str}{z:Str}(nd:row.Nodup):(behd (ltK f g) row z).Nodup∧∀u,u∈behd (ltK f g) row z↔(u=z∨u∈row):=by
 unfold behd
 split
 · rename_i h
   cases row with
   | nil=>exact ⟨by simp,by simp⟩
   | cons c r=>
    have e:c=z:=by simpa using h
    subst e
    exact ⟨nd,fun u=>by simp⟩
 · rename_i h
   have hne:row≠[]:=fun e=>h (.inl e)
   have hh:row.head?≠some z:=fun e=>h (.inr e)
   by_cases hz:z∈row
   · rw [pos_hit hz]
     have sp:=split_at hz
     have hA:row.take (row.idxOf z)≠[]:=fun e=>by rw [e,List.nil_append]at sp;rw [sp]at hh;exact hh rfl
     have nd':=nd
     rw [sp,List.nodup_append]at nd'
     obtain ⟨na,nb,nc⟩:=nd'
     obtain ⟨nb1,nb2⟩:=List.nodup_cons.mp nb
     obtain ⟨c1,c2,c3⟩:=carrA_mem (f:=f) (g:=g) na hA
     refine ⟨List.nodup_cons.mpr ⟨fun hm=>?_,?_⟩,fun u=>?_⟩
     · rcases List.mem_append.mp hm with hm | hm
       · exact nc z ((c2 z).mp hm) z (by simp) rfl
       · exact nb1 hm
     · rw [List.nodup_append]
       exact ⟨c1,nb2,fun a ha b hb e=>nc a ((c2 a).mp ha) b (List.mem_cons_of_mem _ hb) e⟩
     · rw [List.mem_cons,List.mem_append,c2]
       conv=>rhs;rw [sp,List.mem_append,List.mem_cons]
       constructor
       · rintro (h | h | h)
         · exact .inl h
         · exact .inr (.inl h)
         · exact .inr (.inr (.inr h))
       · rintro (h | h | h | h)
         · exact .inl h
         · exact .inr (.inl h)
         · exact .inl h
         · exact .inr (.inr h)
   · rw [pos_miss hz,List.take_length,List.drop_of_length_le (by omega),List.append_nil]
     obtain ⟨c1,c2,c3⟩:=carrA_mem (f:=f) (g:=g) nd hne
     exact ⟨List.nodup_cons.mpr ⟨fun hm=>hz ((c2 z).mp hm),c1⟩,fun u=>by rw [List.mem_cons,c2]⟩
inductive W3 where
 | ol | ha | fa
noncomputable def W3.w:W3→W5
 | .ol=> .ol
 | .ha=> .ha
 | .fa=> .fa
noncomputable def fK(w:W3)(ys:List Str)(L:L5)(u:Str):Int:=match w with
 | .ol=>0
 | .ha=>tvK L.ta (Sum.inr u)
 | .fa=>0 - ((nx ys L.k.toNat u:Int)+1)
noncomputable def gK(L:L5)(u:Str):Int:=tvK L.la (Sum.inr u)
noncomputable def ltw(w:W3)(ys:List Str)(L:L5):Str→Str→Bool:=ltK (fK w ys L) (gK L)
theorem lex1{a b:Int}:HT.lexLt [a] [b]=decide (a < b):=by
 show (if a=b then false else decide (a < b))=_
 split
 · exact (decide_eq_false (by omega)).symm
 · rfl
theorem lex_due{w:W3}{ys:List Str}{L:L5}{a b:Str}:HT.lexLt (dueR ys L a w.w) (dueR ys L b w.w)=ltw w ys L a b:=by
 cases w with
 | ol=>
  show HT.lexLt [_] [_]=_
  rw [lex1]
  unfold ltw ltK
  exact decide_eq_decide.mpr (by show gK L a < gK L b↔((0:Int) < 0∨((0:Int)=0∧gK L a < gK L b));omega)
 | ha=>show HT.lexLt [_,_] [_,_]=_;rw [lex2];rfl
 | fa=>show HT.lexLt [_,_] [_,_]=_;rw [lex2];rfl
noncomputable def Lst(e:Int)(ys:List Str)(i:Nat):L5:=(ys.take i).foldl L5.ask (l50 e)
theorem Lst_succ{e:Int}{ys:List Str}{i:Nat}{z:Str}(h:ys[i]?=some z):Lst e ys (i+1)=(Lst e ys i).ask z:=by
 unfold Lst
 rw [List.take_add_one,h,List.foldl_append];rfl
noncomputable def rwS(w:W3)(ys:List Str)(e:Int):Nat→List Str
 | 0=>[]
 | i+1=>behd (ltw w ys (Lst e ys (i+1))) (rwS w ys e i) (ys.getD i Str.empty)
noncomputable def depS(w:W3)(ys:List Str)(e:Int)(i:Nat):Option Nat:=dep (rwS w ys e i) (ys.getD i Str.empty)
section
variable {c:C5} {ys ns l l':List Str} {w:W3} {n e:Int} {L:L5} {z:Str} {i:Nat}
theorem _root_.N21.LI.sub{s:S2}(h:LI ns s l)(nd:l'.Nodup)(hs:∀u∈l',u∈l):LI ns s l':=
 ⟨h.a,fun u hu=>h.v u (hs u hu),nd.imp_of_mem fun {x y} hx hy hne e=>hne (h.inj x (hs x hx) y (hs y hy) e)⟩
theorem inv_sub(h:(T5 c ys w.w).inv ns n (proj c ys w.w L) l)(nd:l'.Nodup)(hs:∀u∈l',u∈l):(T5 c ys w.w).inv ns n (proj c ys w.w L) l':=by
 cases w with
 | ol=>exact LI.sub (s:=⟨L.k,L.la⟩) h nd hs
 | ha=>
  have h1:LI ns ⟨L.k,L.la⟩ l∧CI ns ⟨⟨L.k,L.la⟩,L.ta,L.e⟩ l:=h
  exact (⟨h1.1.sub nd hs,h1.2.t,fun u hu=>h1.2.v u (hs u hu),h1.2.e1,h1.2.e2⟩:LI ns ⟨L.k,L.la⟩ l'∧CI ns ⟨⟨L.k,L.la⟩,L.ta,L.e⟩ l')
 | fa=>
  have h1:LI ns ⟨L.k,L.la⟩ l∧0≤L.k:=h
  exact (⟨h1.1.sub nd hs,h1.2⟩:LI ns ⟨L.k,L.la⟩ l'∧0≤L.k)
theorem inv_came(h:(T5 c ys w.w).mid ns n z (proj c ys w.w L) l)(hz:z∈ns)(hn:z∉l):(T5 c ys w.w).inv ns n (proj c ys w.w L) (l++[z]):=by
 have:=(T5 c ys w.w).i_came h hz hn
 rw [p_came]at this
 cases w <;> exact this
theorem inv_ask(h:(T5 c ys w.w).inv ns n (proj c ys w.w L) l)(hz:z∈ns)(nd:l'.Nodup)(hs:∀u∈l',u=z∨u∈l):(T5 c ys w.w).inv ns n (proj c ys w.w (L.ask z)) l':=by
 by_cases hm:z∈l
 · have:=(T5 c ys w.w).i_hit h hz hm
   rw [p_ask]at this
   exact inv_sub this nd fun u hu=>(hs u hu).elim (fun e=>by rw [e];exact hm) id
 · have:=(T5 c ys w.w).i_mid h hz hm
   rw [p_ask]at this
   exact inv_sub (inv_came this hz hm) nd fun u hu=>(hs u hu).elim (fun e=>by rw [e];simp) (fun h=>List.mem_append_left _ h)
structure RI(c:C5)(ys ns:List Str)(w:W3)(n:Int)(e:Int)(i:Nat):Prop where
 j:(T5 c ys w.w).inv ns n (proj c ys w.w (Lst e ys i)) (rwS w ys e i)
 nd:(rwS w ys e i).Nodup
 lj:LJ ns (Lst e ys i)
 k:(Lst e ys i).k=(i:Int)
 m:∀u,u∈rwS w ys e i↔u∈ys.take i
theorem getD_at(h:ys[i]?=some z):ys.getD i Str.empty=z:=by rw [List.getD_eq_getElem?_getD,h];rfl
theorem RI.zero(h1:1≤e)(h2:e≤200):RI c ys ns w n e 0:=⟨inv50 h1 h2,List.nodup_nil,lj0 h1 h2,rfl,fun u=>by simp [rwS]⟩
theorem RI.succ(r:RI c ys ns w n e i)(h:ys[i]?=some z)(hz:z∈ns):RI c ys ns w n e (i+1)∧(∀l',l'.Nodup→(∀u∈l',u=z∨u∈rwS w ys e i)→(T5 c ys w.w).inv ns n (proj c ys w.w (Lst e ys (i+1))) l'):=by
 have key:∀l',l'.Nodup→(∀u∈l',u=z∨u∈rwS w ys e i)→(T5 c ys w.w).inv ns n (proj c ys w.w (Lst e ys (i+1))) l':=fun l' nd hs=>by
  rw [Lst_succ h];exact inv_ask r.j hz nd hs
 have hb:=behd_ok (f:=fK w ys (Lst e ys (i+1))) (g:=gK (Lst e ys (i+1))) (z:=z) r.nd
 have er:rwS w ys e (i+1)=behd (ltw w ys (Lst e ys (i+1))) (rwS w ys e i) z:=by show behd _ _ (ys.getD i Str.empty)=_;rw [getD_at h]
 refine ⟨⟨?_,?_,?_,?_,fun u=>?_⟩,key⟩
 · rw [er];exact key _ hb.1 fun u hu=>(hb.2 u).mp hu
 · rw [er];exact hb.1
 · rw [Lst_succ h];exact r.lj.ask hz
 · rw [Lst_succ h];show (Lst e ys i).k+1=_;rw [r.k];omega
 · rw [er,List.take_add_one,h,List.mem_append]
   refine (hb.2 u).trans ?_
   rw [r.m]
   simp only [Option.toList_some,List.mem_singleton]
   exact Or.comm
theorem ri_all(h1:1≤e)(h2:e≤200)(hin:∀y∈ys,y∈ns):∀i,i≤ys.length→RI c ys ns w n e i
 | 0,_=> .zero h1 h2
 | i+1,h=>((ri_all h1 h2 hin i (by omega)).succ (List.getElem?_eq_getElem (show i < ys.length by omega)) (hin _ (List.getElem_mem _))).1
end
theorem cut_fromS(ys:List Str)(m:Nat):cutV (ys.map V.str) (some (m:Int)) none=(ys.drop m).map V.str:=by
 unfold cutV
 rw [HT.sIx_nat,HT.sIx_none,List.length_map,List.map_drop]
 by_cases h:m≤ys.length
 · rw [Nat.min_eq_left h,List.take_of_length_le (by rw [List.length_drop,List.length_map];omega)]
 · rw [Nat.min_eq_right (by omega),List.drop_of_length_le (by rw [List.length_map];omega),List.drop_of_length_le (by rw [List.length_map];omega),List.take_nil]
theorem rwS_len{w:W3}{ys:List Str}{e:Int}{i:Nat}(h1:1≤e)(h2:e≤200)(hi:i≤ys.length):(rwS w ys e i).length≤i:=by
 have r:=ri_all (c:=⟨0,0,0,0,0⟩) (ys:=ys) (w:=w) (n:=0) h1 h2 (fun y hy=>hy) i hi
 have h:=(N36.perm_of r.nd (ds_nodup (ys.take i)) (fun u=>(r.m u).trans mem_ds.symm)).length_eq
 have:=len_ds (ys.take i)
 rw [List.length_take]at this
 omega
theorem cut_toS(ys:List Str)(m:Nat):cutV (ys.map V.str) none (some (m:Int))=(ys.take m).map V.str:=by
 by_cases h:m≤ys.length
 · exact cut_to ys m h
 · unfold cutV
   rw [HT.sIx_none,HT.sIx_nat,List.length_map,Nat.min_eq_right (by omega),List.drop_zero,Nat.sub_zero,List.take_of_length_le (by rw [List.length_map];omega),List.take_of_length_le (by omega)]
noncomputable def dpV6(o:Option Nat):V:=optV (o.map fun j=>(j:Int))
noncomputable def sp36_nests:Sp:=fun vs H Q _=>∃q:Addr,vs=[.ref q]∧Q (.bl true) H
noncomputable def sp36_depth(K:PySem.W.Frag):Sp:=fun vs H Q _=>∃(r:Addr) (z:Str) (row:List Str),vs=[.ref r,.str z]∧H r=some (.lst (row.map V.str))∧row.length≤300∧Q (dpV6 (dep row z)) H
noncomputable def sp36_carried(c:C5):Sp:=fun vs H Q _=>∃(w:W3) (q p r:Addr) (n:Int) (M:List Addr) (L:L5) (ys ns row:List Str),vs=[.ref q,.ref r]∧ys.length≤1000∧(T5 c ys w.w).At H M q p n (proj c ys w.w L)∧LJ ns L∧L.k≤1000∧H r=some (.lst (row.map V.str))∧row≠[]∧row.length≤300∧∀(b:Addr) (H':Hp),Same H H'→H b=none→H' b=some (.lst ((carrA (ltw w ys L) row).map V.str))→Q (.ref b) H'
noncomputable def sp36_behind(c:C5):Sp:=fun vs H Q _=>∃(w:W3) (q p r:Addr) (z:Str) (n:Int) (M:List Addr) (L:L5) (ys ns row:List Str),vs=[.ref q,.ref r,.str z]∧ys.length≤1000∧(T5 c ys w.w).At H M q p n (proj c ys w.w L)∧LJ ns L∧L.k≤1000∧H r=some (.lst (row.map V.str))∧row.length≤300∧∀(b:Addr) (H':Hp),Same H H'→H b=none→H' b=some (.lst ((behd (ltw w ys L) row z).map V.str))→Q (.ref b) H'
end N36
namespace N26
open L2 N1 N5 N4 N6 N12 N32 N14 N20 N18 N25 NR
structure R4 where
 a:List Str
 b:List Str
 p:List Str
 q:List Str
 k:Int
 r:Bool
noncomputable def stp(x y:Nat):Int:=if (x:Int).fdiv (y:Int) > 1 then (x:Int).fdiv (y:Int) else 1
noncomputable def mn(n x:Int):Int:=if x < n then x else n
noncomputable def mx(x:Int):Int:=if x > 0 then x else 0
noncomputable def rpush(n:Int)(L:List Str)(z:Str):List Str:=if ((L++[z]).length:Int) > n then (L++[z]).eraseIdx 0 else L++[z]
noncomputable def rback(n:Int)(s:R4)(z:Str):R4:=
 if z∈s.p then ⟨s.a,s.b,s.p.erase z,s.q,mn n (s.k+stp s.q.length s.p.length),true⟩
 else if z∈s.q then ⟨s.a,s.b,s.p,s.q.erase z,mx (s.k - stp s.p.length s.q.length),true⟩
 else ⟨s.a,s.b,s.p,s.q,s.k,false⟩
noncomputable def rask(n:Int)(s:R4)(z:Str):R4:=
 if z∈s.a then ⟨s.a.erase z,s.b++[z],s.p,s.q,s.k,decide (z∈s.p∨z∈s.q)⟩
 else if z∈s.b then ⟨s.a,s.b.erase z++[z],s.p,s.q,s.k,decide (z∈s.p∨z∈s.q)⟩
 else rback n s z
noncomputable def rpick(s:R4):Str:=if s.b=[]∨s.k < s.a.length then s.a.headD Str.empty else s.b.headD Str.empty
noncomputable def rgone(n:Int)(s:R4)(z:Str):R4:=
 if z∈s.a then ⟨s.a.erase z,s.b,rpush n s.p z,s.q,s.k,s.r⟩ else ⟨s.a,s.b.erase z,s.p,rpush n s.q z,s.k,s.r⟩
noncomputable def rcame(s:R4)(z:Str):R4:=if s.r=true then ⟨s.a,s.b++[z],s.p,s.q,s.k,s.r⟩ else ⟨s.a++[z],s.b,s.p,s.q,s.k,s.r⟩
noncomputable def cnt(s:R4)(u:Str):Nat:=s.a.count u+s.b.count u+s.p.count u+s.q.count u
structure RI(ns:List Str)(n:Int)(s:R4)(l:List Str):Prop where
 c:∀u,cnt s u≤1
 i:∀u,0 < cnt s u→u∈ns
 pm:l.Perm (s.a++s.b)
 k0:0≤s.k
 pn:(s.p.length:Int)≤n
 qn:(s.q.length:Int)≤n
 n1:1≤n
theorem c_erase{L:List Str}{z u:Str}(h:z∈L):(L.erase z).count u+(if z=u then 1 else 0)=L.count u:=by
 rw [List.count_erase]
 by_cases e:z=u
 · subst e
   have:=List.count_pos_iff.mpr h
   rw [if_pos rfl,if_pos (by simp)];omega
 · rw [if_neg e,if_neg (by simp [e])];omega
theorem c_snoc{L:List Str}{z u:Str}:(L++[z]).count u=L.count u+(if z=u then 1 else 0):=by
 rw [List.count_append,List.count_singleton]
 by_cases e:z=u
 · rw [if_pos e,if_pos (by simp [e])]
 · rw [if_neg e,if_neg (by simp [e])]
theorem c_push{n:Int}{L:List Str}{z u:Str}:(rpush n L z).count u≤L.count u+(if z=u then 1 else 0):=by
 rw [← c_snoc]
 unfold rpush
 split
 · exact (List.eraseIdx_sublist ..).count_le _
 · exact Nat.le_refl _
theorem c_zero{L:List Str}{z:Str}(h:z∉L):L.count z=0:=List.count_eq_zero.mpr h
theorem push_len{n:Int}{L:List Str}{z:Str}(h:(L.length:Int)≤n):((rpush n L z).length:Int)≤n:=by
 unfold rpush
 have e:(L++[z]).length=L.length+1:=by rw [List.length_append];rfl
 split
 · rw [List.length_eraseIdx]
   split <;> omega
 · omega
theorem stp1(x y:Nat):1≤stp x y:=by unfold stp;split <;> omega
theorem RI.in_l{ns:List Str}{n:Int}{s:R4}{l:List Str}{z:Str}(h:RI ns n s l):z∈l↔z∈s.a∨z∈s.b:=by rw [h.pm.mem_iff,List.mem_append]
theorem RI.hit{ns:List Str}{n:Int}{s:R4}{l:List Str}{z:Str}(h:RI ns n s l)(hz:z∈l):RI ns n (rask n s z) l:=by
 unfold rask
 split
 · rename_i ha
   have hc:∀u,cnt ⟨s.a.erase z,s.b++[z],s.p,s.q,s.k,decide (z∈s.p∨z∈s.q)⟩ u=cnt s u:=fun u=>by
    have e1:=c_erase (u:=u) ha
    have e2:=c_snoc (L:=s.b) (z:=z) (u:=u)
    unfold cnt;simp only;omega
   refine ⟨fun u=>by rw [hc];exact h.c u,fun u hu=>h.i u (by rw [hc]at hu;exact hu),h.pm.trans ?_,h.k0,h.pn,h.qn,h.n1⟩
   have e:=(List.perm_cons_erase ha).append_right s.b
   refine e.trans ?_
   simp only [← List.append_assoc]
   exact (List.perm_append_singleton ..).symm
 · rename_i ha
   have hb:z∈s.b:=((h.in_l).mp hz).resolve_left ha
   rw [if_pos hb]
   have hc:∀u,cnt ⟨s.a,s.b.erase z++[z],s.p,s.q,s.k,decide (z∈s.p∨z∈s.q)⟩ u=cnt s u:=fun u=>by
    have e1:=c_erase (u:=u) hb
    have e2:=c_snoc (L:=s.b.erase z) (z:=z) (u:=u)
    unfold cnt;simp only;omega
   refine ⟨fun u=>by rw [hc];exact h.c u,fun u hu=>h.i u (by rw [hc]at hu;exact hu),h.pm.trans ?_,h.k0,h.pn,h.qn,h.n1⟩
   exact ((List.perm_cons_erase hb).trans (List.perm_append_singleton ..).symm).append_left s.a
theorem RI.miss{ns:List Str}{n:Int}{s:R4}{l:List Str}{z:Str}(h:RI ns n s l)(hz:z∉l):RI ns n (rask n s z) l∧cnt (rask n s z) z=0:=by
 have ha:z∉s.a:=fun hh=>hz (h.in_l.mpr (.inl hh))
 have hb:z∉s.b:=fun hh=>hz (h.in_l.mpr (.inr hh))
 have hc1:=h.c z
 have ca:=c_zero ha
 have cb:=c_zero hb
 have k0:=h.k0
 have n1:=h.n1
 unfold rask
 rw [if_neg ha,if_neg hb]
 unfold rback
 split
 · rename_i hp
   have hcp:=List.count_pos_iff.mpr hp
   have hle:=List.length_erase_le (a:=z) (l:=s.p)
   have hpn:=h.pn
   have h1:=stp1 s.q.length s.p.length
   have hc:∀u,cnt ⟨s.a,s.b,s.p.erase z,s.q,mn n (s.k+stp s.q.length s.p.length),true⟩ u+(if z=u then 1 else 0)=cnt s u:=fun u=>by
    have e1:=c_erase (u:=u) hp
    unfold cnt;simp only;omega
   refine ⟨⟨fun u=>by have:=hc u;have:=h.c u;omega,fun u hu=>h.i u (by have:=hc u;omega),h.pm,?_,?_,h.qn,n1⟩,?_⟩
   · show 0≤mn n (s.k+stp s.q.length s.p.length)
     unfold mn
     split <;> omega
   · show ((s.p.erase z).length:Int)≤n
     omega
   · have:=hc z
     rw [if_pos rfl]at this;omega
 · rename_i hp
   have cp:=c_zero hp
   split
   · rename_i hq
     have hcp:=List.count_pos_iff.mpr hq
     have hle:=List.length_erase_le (a:=z) (l:=s.q)
     have hqn:=h.qn
     have hc:∀u,cnt ⟨s.a,s.b,s.p,s.q.erase z,mx (s.k - stp s.p.length s.q.length),true⟩ u+(if z=u then 1 else 0)=cnt s u:=fun u=>by
      have e1:=c_erase (u:=u) hq
      unfold cnt;simp only;omega
     refine ⟨⟨fun u=>by have:=hc u;have:=h.c u;omega,fun u hu=>h.i u (by have:=hc u;omega),h.pm,?_,h.pn,?_,n1⟩,?_⟩
     · show 0≤mx (s.k - stp s.p.length s.q.length)
       unfold mx
       split <;> omega
     · show ((s.q.erase z).length:Int)≤n
       omega
     · have:=hc z
       rw [if_pos rfl]at this;omega
   · rename_i hq
     have cq:=c_zero hq
     exact ⟨⟨h.c,h.i,h.pm,k0,h.pn,h.qn,n1⟩,by unfold cnt;simp only;omega⟩
theorem RI.pick{ns:List Str}{n:Int}{s:R4}{l:List Str}(h:RI ns n s l)(hl:l≠[]):(rpick s∈s.a∧(s.b=[]∨s.k < s.a.length)∧∃r,s.a=rpick s::r)∨(rpick s∈s.b∧rpick s∉s.a∧¬(s.b=[]∨s.k < s.a.length)∧∃r,s.b=rpick s::r):=by
 have k0:=h.k0
 unfold rpick
 by_cases hc:s.b=[]∨s.k < s.a.length
 · rw [if_pos hc]
   left
   cases ha:s.a with
   | nil=>
    exfalso
    rw [ha]at hc
    rcases hc with e | e
    · have:=h.pm
      rw [ha,e]at this
      exact hl this.eq_nil
    · rw [List.length_nil]at e;omega
   | cons f r=>rw [ha]at hc;exact ⟨List.mem_cons_self ..,hc,r,rfl⟩
 · rw [if_neg hc]
   right
   cases hb:s.b with
   | nil=>exact absurd (.inl hb) hc
   | cons f r=>
    have hc1:=h.c f
    have hcb:0 < s.b.count f:=List.count_pos_iff.mpr (by rw [hb];exact List.mem_cons_self ..)
    refine ⟨List.mem_cons_self ..,fun hm=>?_,by rw [← hb];exact hc,r,rfl⟩
    have:0 < s.a.count f:=List.count_pos_iff.mpr hm
    unfold cnt at hc1
    omega
theorem RI.goes{ns:List Str}{n:Int}{s:R4}{l:List Str}{z:Str}(h:RI ns n s l)(hz:z∈l):RI ns n (rgone n s z) (l.erase z)∧∀u,cnt (rgone n s z) u≤cnt s u:=by
 have hpe:=h.pm.erase z
 unfold rgone
 split
 · rename_i ha
   have hc:∀u,cnt ⟨s.a.erase z,s.b,rpush n s.p z,s.q,s.k,s.r⟩ u≤cnt s u:=fun u=>by
    have e1:=c_erase (u:=u) ha
    have e2:=c_push (n:=n) (L:=s.p) (z:=z) (u:=u)
    unfold cnt;simp only;omega
   refine ⟨⟨fun u=>Nat.le_trans (hc u) (h.c u),fun u hu=>h.i u (Nat.lt_of_lt_of_le hu (hc u)),?_,h.k0,push_len h.pn,h.qn,h.n1⟩,hc⟩
   rw [List.erase_append_left _ ha]at hpe
   exact hpe
 · rename_i ha
   have hb:z∈s.b:=((h.in_l).mp hz).resolve_left ha
   have hc:∀u,cnt ⟨s.a,s.b.erase z,s.p,rpush n s.q z,s.k,s.r⟩ u≤cnt s u:=fun u=>by
    have e1:=c_erase (u:=u) hb
    have e2:=c_push (n:=n) (L:=s.q) (z:=z) (u:=u)
    unfold cnt;simp only;omega
   refine ⟨⟨fun u=>Nat.le_trans (hc u) (h.c u),fun u hu=>h.i u (Nat.lt_of_lt_of_le hu (hc u)),?_,h.k0,h.pn,push_len h.qn,h.n1⟩,hc⟩
   rw [List.erase_append_right _ ha]at hpe
   exact hpe
theorem RI.comes{ns:List Str}{n:Int}{s:R4}{l:List Str}{z:Str}(h:RI ns n s l)(h0:cnt s z=0)(hz:z∈ns):RI ns n (rcame s z) (l++[z]):=by
 unfold rcame
 have hs:∀{s':R4},(∀u,cnt s' u=cnt s u+(if z=u then 1 else 0))→(∀u,cnt s' u≤1)∧(∀u,0 < cnt s' u→u∈ns):=fun {s'} e=>by
  refine ⟨fun u=>?_,fun u hu=>?_⟩
  · rw [e u]
    by_cases hu:z=u
    · rw [if_pos hu,← hu,h0];omega
    · rw [if_neg hu];exact h.c u
  · by_cases he:z=u
    · rw [← he];exact hz
    · rw [e u,if_neg he]at hu;exact h.i u hu
 split
 · obtain ⟨c1,c2⟩:=hs (s':=⟨s.a,s.b++[z],s.p,s.q,s.k,s.r⟩) fun u=>by
    have e2:=c_snoc (L:=s.b) (z:=z) (u:=u)
    unfold cnt;simp only;omega
   refine ⟨c1,c2,?_,h.k0,h.pn,h.qn,h.n1⟩
   show (l++[z]).Perm (s.a++(s.b++[z]))
   rw [← List.append_assoc]
   exact h.pm.append_right _
 · obtain ⟨c1,c2⟩:=hs (s':=⟨s.a++[z],s.b,s.p,s.q,s.k,s.r⟩) fun u=>by
    have e2:=c_snoc (L:=s.a) (z:=z) (u:=u)
    unfold cnt;simp only;omega
   refine ⟨c1,c2,?_,h.k0,h.pn,h.qn,h.n1⟩
   show (l++[z]).Perm (s.a++[z]++s.b)
   refine (h.pm.append_right _).trans ?_
   rw [List.append_assoc,List.append_assoc]
   exact List.perm_append_comm.append_left s.a
noncomputable def rfd(p l1 l2 l3 l4:Addr)(n k:Int)(r:Bool):List (Str×V):=putF "returns" (.bl r) (putF "bound" (.int k) (putF "past_again" (.ref l4) (putF "past_once" (.ref l3) (putF "again" (.ref l2) (putF "once" (.ref l1) (putF "places" (.int n) (putF "stock" (.ref p) [])))))))
section
variable {p l1 l2 l3 l4:Addr} {n k k':Int} {r r':Bool}
theorem rfd_stock:(rfd p l1 l2 l3 l4 n k r).lookup ("stock":Str)=some (V.ref p):=by rfl
theorem rfd_places:(rfd p l1 l2 l3 l4 n k r).lookup ("places":Str)=some (V.int n):=by rfl
end
structure Row4(C:Addr)(H:Hp)(q p l1 l2 l3 l4:Addr)(n:Int)(s:R4):Prop where
 o:∃dx,H q=some (.ins C dx (rfd p l1 l2 l3 l4 n s.k s.r))
 h1:H l1=some (.lst (s.a.map V.str))
 h2:H l2=some (.lst (s.b.map V.str))
 h3:H l3=some (.lst (s.p.map V.str))
 h4:H l4=some (.lst (s.q.map V.str))
 d12:l1≠l2
 d13:l1≠l3
 d14:l1≠l4
 d23:l2≠l3
 d24:l2≠l4
 d34:l3≠l4
section
variable {C:Addr} {H H':Hp} {q p l1 l2 l3 l4:Addr} {n:Int} {s:R4} {L:List Str}
theorem Row4.dep(h:Row4 C H q p l1 l2 l3 l4 n s)(e:∀m∈[q,l1,l2,l3,l4],∀o,H m=some o→H' m=some o):Row4 C H' q p l1 l2 l3 l4 n s:=
 ⟨h.o.imp fun _ e1=>e _ (by simp) _ e1,e _ (by simp) _ h.h1,e _ (by simp) _ h.h2,e _ (by simp) _ h.h3,e _ (by simp) _ h.h4,h.d12,h.d13,h.d14,h.d23,h.d24,h.d34⟩
end
noncomputable def RAt(C:Addr)(H:Hp)(M:List Addr)(q p:Addr)(n:Int)(s:R4):Prop:=∃l1 l2 l3 l4,M=[q,l1,l2,l3,l4]∧Row4 C H q p l1 l2 l3 l4 n s
noncomputable def T26(C:Addr):RuleT where
 C:=C
 St:=R4
 At:=RAt C
 asked:=rask
 pick:=fun _ s _=>(s,rpick s)
 gone:=rgone
 came:=fun _ s z=>rcame s z
 inv:=RI
 mid:=fun ns n z s l=>RI ns n s l∧cnt s z=0
 dep:=fun e ⟨l1,l2,l3,l4,hM,h⟩=>⟨l1,l2,l3,l4,hM,h.dep (by rw [hM]at e;exact e)⟩
 live:=fun ⟨l1,l2,l3,l4,hM,h⟩ m hm e=>by
  rw [hM]at hm
  obtain ⟨dx,ho⟩:=h.o
  simp only [List.mem_cons,List.not_mem_nil,or_false]at hm
  rcases hm with e1 | e1 | e1 | e1 | e1
  · rw [e1,ho]at e;cases e
  · rw [e1,h.h1]at e;cases e
  · rw [e1,h.h2]at e;cases e
  · rw [e1,h.h3]at e;cases e
  · rw [e1,h.h4]at e;cases e
 obj:=fun ⟨l1,l2,l3,l4,hM,h⟩=>h.o.imp fun dx ho=>⟨_,ho,rfd_stock,rfd_places,by rfl,by rfl,by rfl,by rfl,by rfl⟩
 i_hit:=fun h _ hz=>h.hit hz
 i_mid:=fun h _ hz=>h.miss hz
 i_pick:=fun {ns n s l z} h hl=>by
  have hm:rpick s∈l:=by
   rcases h.1.pick hl with ⟨a,_⟩ | ⟨a,_⟩
   · exact h.1.in_l.mpr (.inl a)
   · exact h.1.in_l.mpr (.inr a)
  obtain ⟨a,b⟩:=h.1.goes hm
  exact ⟨hm,a,Nat.le_zero.mp (by rw [← h.2];exact b z)⟩
 i_came:=fun h hz _=>h.1.comes h.2 hz
noncomputable def sp26_init(C:Addr):Sp:=fun vs H Q _=>∃(q dx p:Addr) (n:Int),vs=[.ref q,.ref p,.int n]∧H q=some (.ins C dx [])∧1≤n∧n≤1000000∧∀H' l1 l2 l3 l4,SameBut q H H'→H l1=none→H l2=none→H l3=none→H l4=none→Row4 C H' q p l1 l2 l3 l4 n ⟨[],[],[],[],0,false⟩→Q .non H'
noncomputable def s00:R4:=⟨[],[],[],[],0,false⟩
end N26
namespace N28
open L2 N1 N5 N4 N6 N12 N32 N14 N20 N18 N25 NR N22 N21 N24 N23 N26
structure H6 where
 L:List Str
 k:List (Key×V)
noncomputable def hrot:Nat→H6→H6
 | 0,s=>s
 | m+1,s=>match s.L with
  | []=>s
  | f::r=>if (valV s.k (Sum.inr f)).isSome=true then hrot m ⟨r++[f],dropK s.k (Sum.inr f)⟩ else s
noncomputable def hpk(s:H6):H6:=hrot s.k.length s
theorem hrot_cons{m:Nat}{f:Str}{r:List Str}{k:List (Key×V)}:hrot (m+1) ⟨f::r,k⟩=if (valV k (Sum.inr f)).isSome=true then hrot m ⟨r++[f],dropK k (Sum.inr f)⟩ else ⟨f::r,k⟩:=rfl
theorem KeysIn.drop{kvs:List (Key×V)}{ns:List Str}{z:Str}(h:KeysIn kvs ns):KeysIn (dropK kvs (Sum.inr z)) ns:=by
 obtain ⟨ks,e,nd,s⟩:=h
 refine ⟨ks.filter (fun u=>decide (u≠z)),?_,nd.filter _,fun u hu=>s u (List.mem_filter.mp hu).1⟩
 unfold dropK
 clear nd s
 induction kvs generalizing ks with
 | nil=>cases ks with
  | nil=>rfl
  | cons a b=>cases e
 | cons p q ih=>
  cases ks with
  | nil=>cases e
  | cons a b=>
   rw [List.map_cons,List.map_cons]at e
   obtain ⟨e1,e2⟩:=List.cons.inj e
   have:=ih b e2
   by_cases ha:a=z
   · rw [List.filter_cons_of_neg (by rw [e1,ha];simp),List.filter_cons_of_neg (by rw [ha];simp)];exact this
   · rw [List.filter_cons_of_pos (by rw [e1];simp [ha]),List.filter_cons_of_pos (by simp [ha]),List.map_cons,List.map_cons,this,e1]
structure HI6(ns:List Str)(s:H6)(l:List Str):Prop where
 k:KeysIn s.k ns
 p:s.L.Perm l
 nd:s.L.Nodup
 s:∀u∈s.L,u∈ns
theorem hrot_inv{ns l:List Str}:∀(m:Nat) (s:H6),HI6 ns s l→HI6 ns (hrot m s) l:=by
 intro m
 induction m with
 | zero=>exact fun s h=>h
 | succ m ih=>
  intro s h
  obtain ⟨L,k⟩:=s
  cases L with
  | nil=>exact h
  | cons f r=>
   rw [hrot_cons]
   split
   · have hp:(r++[f]).Perm (f::r):=List.perm_append_singleton ..
     exact ih _ ⟨KeysIn.drop h.k,hp.trans h.p,hp.nodup_iff.mpr h.nd,fun u hu=>h.s u (hp.mem_iff.mp hu)⟩
   · exact h
noncomputable def HkAt(C:Addr)(H:Hp)(M:List Addr)(q p:Addr)(n:Int)(s:H6):Prop:=∃od md,M=[q,od,md]∧(∃dx,H q=some (.ins C dx (hfl p od md n)))∧H od=some (.lst (s.L.map V.str))∧H md=some (.dK s.k)
noncomputable def ask6(s:H6)(z:Str):H6:=if z∈s.L then ⟨s.L,putK s.k (Sum.inr z) (.bl true)⟩ else s
noncomputable def T6(C:Addr):RuleT where
 C:=C
 St:=H6
 At:=HkAt C
 asked:=fun _ s z=>ask6 s z
 pick:=fun _ s _=>(hpk s,(hpk s).L.headD Str.empty)
 gone:=fun _ s z=>⟨s.L.erase z,s.k⟩
 came:=fun _ s z=>⟨s.L++[z],putK s.k (Sum.inr z) (.bl true)⟩
 inv:=fun ns _ s l=>HI6 ns s l
 mid:=fun ns _ _ s l=>HI6 ns s l
 dep:=fun e ⟨od,md,hM,⟨dx,ho⟩,h1,h2⟩=>by
  subst hM
  exact ⟨od,md,rfl,⟨dx,e _ (by simp) _ ho⟩,e _ (by simp) _ h1,e _ (by simp) _ h2⟩
 live:=fun ⟨od,md,hM,⟨dx,ho⟩,h1,h2⟩ m hm e=>by
  subst hM
  simp only [List.mem_cons,List.not_mem_nil,or_false]at hm
  rcases hm with e1 | e1 | e1
  · rw [e1,ho]at e;cases e
  · rw [e1,h1]at e;cases e
  · rw [e1,h2]at e;cases e
 obj:=fun ⟨od,md,hM,⟨dx,ho⟩,h1,h2⟩=>⟨dx,_,ho,hfl_stock,hfl_places,by rfl,by rfl,by rfl,by rfl,by rfl⟩
 i_hit:=fun {ns n s l z} h hn hz=>by
  show HI6 ns (ask6 s z) l
  unfold ask6
  split
  · exact ⟨h.k.put hn,h.p,h.nd,h.s⟩
  · exact h
 i_mid:=fun {ns n s l z} h hn hz=>by
  show HI6 ns (ask6 s z) l
  unfold ask6
  split
  · exact ⟨h.k.put hn,h.p,h.nd,h.s⟩
  · exact h
 i_pick:=fun {ns n s l z} h hl=>by
  have h2:HI6 ns (hpk s) l:=hrot_inv _ _ h
  have hm:(hpk s).L.headD Str.empty∈(hpk s).L:=by
   cases e:(hpk s).L with
   | nil=>have:=h2.p;rw [e]at this;exact absurd (List.nil_perm.mp this) hl
   | cons f r=>exact List.mem_cons_self ..
  exact ⟨h2.p.mem_iff.mp hm,h2.k,h2.p.erase _,h2.nd.erase _,fun u hu=>h2.s u (List.mem_of_mem_erase hu)⟩
 i_came:=fun {ns n s l z} h hn hz=>by
  refine ⟨h.k.put hn,h.p.append_right _,?_,fun u hu=>?_⟩
  · show (s.L++[z]).Nodup
    rw [List.nodup_append]
    refine ⟨h.nd,by simp,fun a ha b hb e=>hz (h.p.mem_iff.mp ?_)⟩
    rw [List.mem_singleton]at hb
    rw [← hb,← e];exact ha
  · rcases List.mem_append.mp hu with hu | hu
    · exact h.s u hu
    · rw [List.mem_singleton.mp hu];exact hn
noncomputable def s60:H6:=⟨[],[]⟩
inductive W8 where
 | ru | ra | ol | fi | ha
 | fa (ys:List Str) (h:ys.length≤1000)
 | hd | ro
structure C8 where
 ru:Addr
 ra:Addr
 ol:Addr
 fi:Addr
 ha:Addr
 fa:Addr
 hd:Addr
 ro:Addr
noncomputable def T8(c:C8):W8→RuleT
 | .ru=>T0 c.ru
 | .ra=>T2 c.ra
 | .ol=>T2 c.ol
 | .fi=>T1 c.fi
 | .ha=>T4 c.ha
 | .fa ys _=>T3 c.fa ys
 | .hd=>T6 c.hd
 | .ro=>T26 c.ro
noncomputable def s80(c:C8)(e:Int):(w:W8)→(T8 c w).St
 | .ru=>()
 | .ra=>s20
 | .ol=>s20
 | .fi=>(⟨0,[],[]⟩:S1)
 | .ha=>s40 e
 | .fa _ _=>s20
 | .hd=>s60
 | .ro=>s00
noncomputable def sp28_rinit(K:PySem.W.Frag):Sp:=fun vs H Q _=>∃(X q dx p:Addr) (n:Int),vs=[.ref q,.ref p,.int n]∧H q=some (.ins X dx [])∧Cls K X∧NoAttr K X "stock"∧NoAttr K X "places"∧1≤n∧n≤1000000∧∀H',SameBut q H H'→H' q=some (.ins X dx (rf0 p n))→Q .non H'
noncomputable def sp28_kinit(K:PySem.W.Frag):Sp:=fun vs H Q _=>∃(X q dx p:Addr) (n:Int),vs=[.ref q,.ref p,.int n]∧H q=some (.ins X dx [])∧Cls K X∧(NoAttr K X "stock"∧NoAttr K X "places")∧NoAttr K X "present"∧NoAttr K X "last"∧1≤n∧n≤1000000∧∀H' la,SameBut q H H'→H la=none→la≠q→H' q=some (.ins X dx (rf2 p n 0 la))→H' la=some (.dK [])→Q .non H'
noncomputable def sp28_hinit(C:Addr):Sp:=fun vs H Q _=>∃(q dx p:Addr) (n:Int),vs=[.ref q,.ref p,.int n]∧H q=some (.ins C dx [])∧1≤n∧n≤1000000∧∀H' od md,SameBut q H H'→H od=none→H md=none→HkAt C H' [q,od,md] q p n s60→Q .non H'
end N28
namespace N63
open L2 N1 N5 N4 N6 N12 N32 N14 N20 N18 N25 NR N22 N21 N28
end N63
namespace L2
open PySem.W
noncomputable def unk(H:Hp)(as:List Addr):Hp:=fun b=>if b∈as then none else H b
end L2
namespace N64
open L2 N1 N5 N4 N6 N12 N32 N14 N20 N18 N25 NR N22 N21 N24 N23 N28 N63
inductive W2 where
 | ha
 | fa (ys:List Str) (h:ys.length≤1000)
structure C2 where
 ha:Addr
 fa:Addr
end N64
namespace N62
open L2 N1 N5 N4 N6 N12 N32 N14 N20 N18 N25 NR N22 N21 N28 N63 N64 N41
inductive W3 where
 | ol | fi | hd
 deriving DecidableEq
structure C3 where
 ol:Addr
 fi:Addr
 hd:Addr
noncomputable def TQ(c:C3):W3→RuleT
 | .ol=>T2 c.ol
 | .fi=>T1 c.fi
 | .hd=>T6 c.hd
end N62
namespace N66
open L2 N1 N5 N4 N6 N12 N32 N14 N20 N18 N25 NR N22 N21 N26 N28 N63 N64 N62
end N66
namespace N13
open L2 N1 N5 N4 N6 N12
open N53 (NumV)
noncomputable def bad(ts:List Th)(n:Int):List Str→Nat→Option (Bool×Str×Nat)
 | [],_=>none
 | y::ys,i=>if y∈ts.map (·.1) then (if n < rmOf ts y then some (false,y,i) else bad ts n ys (i+1)) else some (true,y,i)
theorem bad_step{ts:List Th}{n:Int}{ys:List Str}{i:Nat}{y:Str}(h:ys[i]?=some y):bad ts n (ys.drop i) i=if y∈ts.map (·.1) then (if n < rmOf ts y then some (false,y,i) else bad ts n (ys.drop (i+1)) (i+1)) else some (true,y,i):=by
 obtain ⟨hi,e⟩:=List.getElem?_eq_some_iff.mp h
 rw [List.drop_eq_getElem_cons hi,e]
 rfl
noncomputable def askD(ts:List Th)(v:V)(ys:List Str):Str×Option (Str×Nat):=
 if wIn 1 1000000 v=true then
  if 200 < ys.length then (Str.ofString "many",none)
  else match bad ts (iOf v) ys 0 with
   | some (true,z,i)=>(Str.ofString "unknown",some (z,i))
   | some (false,z,i)=>(Str.ofString "wide",some (z,i))
   | none=>(Str.ofString "fine",none)
 else (Str.ofString "number",none)
noncomputable def sp13_check(K:PySem.W.Frag)(x:Addr):Sp:=fun vs H Q E=>∃(v:V),vs=[v]∧NumV K H v∧(wIn 1 1000000 v=true→Q .non H)∧(wIn 1 1000000 v=false→∀H' y,Same H H'→H y=none→Err0 x H' y→E (.ref x) (some y) H')
noncomputable def sp13_asks(K:PySem.W.Frag)(C xN xM xU xW:Addr):Sp:=fun vs H Q E=>∃(p a:Addr) (v:V) (ts:List Th) (ys:List Str),vs=[.ref p,.ref a,v]∧StockAt K C H p ts∧(ts.map (·.1)).Nodup∧SqL K H a (ys.map V.str)∧ys.length≤250∧NumV K H v∧
 (askD ts v ys=(Str.ofString "fine",none)→∀H',Same H H'→Q (.bl true) H')∧
 (askD ts v ys=(Str.ofString "number",none)→∀H' y,Same H H'→H y=none→Err0 xN H' y→E (.ref xN) (some y) H')∧
 (askD ts v ys=(Str.ofString "many",none)→∀H' y,Same H H'→H y=none→Err0 xM H' y→E (.ref xM) (some y) H')∧
 (∀z i,askD ts v ys=(Str.ofString "unknown",some (z,i))→∀H' y,Same H H'→H y=none→ErrU xU H' y (.str z) (.int i)→E (.ref xU) (some y) H')∧
 (∀z i,askD ts v ys=(Str.ofString "wide",some (z,i))→∀H' y,Same H H'→H y=none→ErrU xW H' y (.str z) (.int i)→E (.ref xW) (some y) H')
end N13
open PySem PySem.W PyProof.Rows
namespace L2
structure Bs(P:Program)(w:World)(K:PySem.W.Frag)(mg:Str→Option Value)(base:Heap):Prop where
 ex:∃h:Heap,K.In h∧h.Ns mainGlobals mg
theorem lc{α:Type}{us:List α}{n:Nat}(h:us.length=n+1):∃u r,us=u::r∧r.length=n:=by
 cases us with
 | nil=>cases h
 | cons u r=>exact ⟨u,r,rfl,Nat.succ.inj h⟩
theorem l0{α:Type}{us:List α}(h:us.length=0):us=[]:=by
 cases us with
 | nil=>rfl
 | cons u r=>cases h
section
variable {P:Program} {w:World} {K:PySem.W.Frag} {mg:Str→Option Value} {base:Heap} {CX:CXT} {k:Nat} {sp:Sp} {ps:List Str} {x qual n p1 p2 p3 p4 p5 p6 p7:Str} {st:Stmt} {f C:Addr} {fd:FuncData}
theorem Fun.d(F:Fun K x qual st f fd)(B:Bs P w K mg base)(a:PySem.W.nsIn K mainGlobals x=some (some (.ref f)))(o:FnOk P w K mg base CX k f fd ps sp)(b:Binds K fd ps []):Def P w K mg base CX k x ps sp:=
 let ⟨_,X,G⟩:=B.ex;⟨f,fd,o,PySem.W.mg_of X G a,F.kp,b⟩
theorem Fun.m(F:Fun K x qual st f fd)(B:Bs P w K mg base)(M:Meth K C x f)(o:FnOk P w K mg base CX k f fd ps sp)(b:Binds K fd ps []):DefM P w K mg base CX k C x ps sp:=
 ⟨f,fd,o,M,b⟩
theorem Fun.i(F:Fun K x qual st f fd)(B:Bs P w K mg base)(M:Mk K C f)(a:PySem.W.nsIn K mainGlobals n=some (some (.ref C)))(o:FnOk P w K mg base CX k f fd ps sp)(b:Binds K fd ps []):DefI P w K mg base CX k n C ps sp:=
 let ⟨_,X,G⟩:=B.ex;⟨f,fd,o,M,PySem.W.mg_of X G a,b⟩
theorem Fun.e1(F:Fun K x qual st f fd)(h:∀(kV doc pm:Value) (an:Option Addr) (cdv ct u:Value),bindArgs (PySem.W.fnOf x qual (defArgs st) (defBody st) (defScope st) .none kV doc pm an cdv ct) ⟨[u],[]⟩=pure [(p1,u)]):Binds K fd [p1] []:=
 F.binds (ps:=[p1]) fun kV doc pm an cdv ct us hl=>by
  obtain ⟨u,us,rfl,h1⟩:=lc hl
  cases l0 h1
  exact h kV doc pm an cdv ct u
theorem Fun.e2(F:Fun K x qual st f fd)(h:∀(kV doc pm:Value) (an:Option Addr) (cdv ct u v:Value),bindArgs (PySem.W.fnOf x qual (defArgs st) (defBody st) (defScope st) .none kV doc pm an cdv ct) ⟨[u,v],[]⟩=pure [(p1,u),(p2,v)]):Binds K fd [p1,p2] []:=
 F.binds (ps:=[p1,p2]) fun kV doc pm an cdv ct us hl=>by
  obtain ⟨u,us,rfl,h1⟩:=lc hl
  obtain ⟨v,us,rfl,h2⟩:=lc h1
  cases l0 h2
  exact h kV doc pm an cdv ct u v
theorem Fun.e3(F:Fun K x qual st f fd)(h:∀(kV doc pm:Value) (an:Option Addr) (cdv ct u v w:Value),bindArgs (PySem.W.fnOf x qual (defArgs st) (defBody st) (defScope st) .none kV doc pm an cdv ct) ⟨[u,v,w],[]⟩=pure [(p1,u),(p2,v),(p3,w)]):Binds K fd [p1,p2,p3] []:=
 F.binds (ps:=[p1,p2,p3]) fun kV doc pm an cdv ct us hl=>by
  obtain ⟨u,us,rfl,h1⟩:=lc hl
  obtain ⟨v,us,rfl,h2⟩:=lc h1
  obtain ⟨w,us,rfl,h3⟩:=lc h2
  cases l0 h3
  exact h kV doc pm an cdv ct u v w
theorem Fun.e4(F:Fun K x qual st f fd)(h:∀(kV doc pm:Value) (an:Option Addr) (cdv ct u v w y:Value),bindArgs (PySem.W.fnOf x qual (defArgs st) (defBody st) (defScope st) .none kV doc pm an cdv ct) ⟨[u,v,w,y],[]⟩=pure [(p1,u),(p2,v),(p3,w),(p4,y)]):Binds K fd [p1,p2,p3,p4] []:=
 F.binds (ps:=[p1,p2,p3,p4]) fun kV doc pm an cdv ct us hl=>by
  obtain ⟨u,us,rfl,h1⟩:=lc hl
  obtain ⟨v,us,rfl,h2⟩:=lc h1
  obtain ⟨w,us,rfl,h3⟩:=lc h2
  obtain ⟨y,us,rfl,h4⟩:=lc h3
  cases l0 h4
  exact h kV doc pm an cdv ct u v w y
end
theorem st_c{n:Str}{N:List Str}{v:V}{vs:List V}:start (n::N) (v::vs)=some v::start N vs:=by
 simp [start]
theorem st_n{n:Str}{N:List Str}:start (n::N) []=none::start N []:=rfl
theorem st_e:start [] []=[]:=rfl
end L2
namespace L2
open N1 N5
section
variable {P:Program} {w:World} {K:PySem.W.Frag} {mg:Str→Option Value} {base:Heap} {CX:CXT} {k:Nat} {C:Addr} {m:Str} {ps:List Str} {sp sp':Sp}
theorem FnOk.weaker{f:Addr}{fd:FuncData}(F:FnOk P w K mg base CX k f fd ps sp)(h:∀vs H Q E,sp' vs H Q E→sp vs H Q E):FnOk P w K mg base CX k f fd ps sp':=F.imp h
theorem Def.weaker{x:Str}(D:Def P w K mg base CX k x ps sp)(h:∀vs H Q E,sp' vs H Q E→sp vs H Q E):Def P w K mg base CX k x ps sp':=by
 obtain ⟨f,fd,F,hm⟩:=D
 exact ⟨f,fd,F.weaker h,hm⟩
end
end L2
namespace N67
open L2 N1 N5 N4 N6 N12 N32 N41 N14 N20 N18 N25 NR N22 N21 N26 N28 N63 N64 N62 N66 N13
open N53 (NumV)
inductive Du where
 | no | num | many | rule
 | unk (z:Str) (i:Nat)
 | wide (z:Str) (i:Nat)
noncomputable def lackD(ts:List Th)(v u:V)(ys:List Str):Du:=
 if wIn 1 1000000 v=true then
  if 200 < ys.length then .many
  else match bad ts (iOf v) ys 0 with
   | some (true,z,i)=> .unk z i
   | some (false,z,i)=> .wide z i
   | none=>if wIn (iOf v) 1000000 u=true then .no else .num
 else .num
section
variable {ts:List Th} {v u:V} {ys:List Str}
theorem rm_rmOf{z:Str}:rm ts z=rmOf ts z:=by
 unfold rm rmOf
 cases ts.find? (fun t=>decide (t.1=z)) <;> rfl
theorem bad_none{n:Int}:∀{ys:List Str} {i:Nat},bad ts n ys i=none↔(∀y∈ys,y∈ts.map (·.1))∧∀y∈ys,rm ts y≤n:=by
 intro ys
 induction ys with
 | nil=>intro i;exact ⟨fun _=>⟨by simp,by simp⟩,fun _=>rfl⟩
 | cons y r ih=>
  intro i
  show (if y∈ts.map (·.1) then (if n < rmOf ts y then some (false,y,i) else bad ts n r (i+1)) else some (true,y,i))=none↔_
  rw [← rm_rmOf]
  by_cases h:y∈ts.map (·.1)
  · rw [if_pos h]
    by_cases h2:n < rm ts y
    · rw [if_pos h2]
      exact ⟨fun e=>(by cases e),fun e=>(by have:=e.2 y (by simp);omega)⟩
    · rw [if_neg h2,ih]
      constructor
      · intro ⟨a,b⟩
        exact ⟨fun x hx=>by rcases List.mem_cons.mp hx with e | e;rw [e];exact h;exact a x e,fun x hx=>by rcases List.mem_cons.mp hx with e | e;rw [e];omega;exact b x e⟩
      · intro ⟨a,b⟩
        exact ⟨fun x hx=>a x (List.mem_cons_of_mem _ hx),fun x hx=>b x (List.mem_cons_of_mem _ hx)⟩
  · rw [if_neg h]
    exact ⟨fun e=>(by cases e),fun e=>absurd (e.1 y (by simp)) h⟩
theorem ask_fine(h:askD ts v ys=(Str.ofString "fine",none)):∃n:Int,v= .int n∧1≤n∧n≤1000000∧ys.length≤200∧(∀y∈ys,y∈ts.map (·.1))∧(∀y∈ys,rm ts y≤n)∧lackD ts v u ys=if wIn n 1000000 u=true then .no else .num:=by
 unfold askD at h
 split at h
 · rename_i hw
   obtain ⟨n,rfl,h1,h2⟩:=N53.wIn_one hw
   split at h
   · cases h
   · rename_i h3
     split at h
     · cases h
     · cases h
     · rename_i e
       have b:=bad_none.mp e
       refine ⟨n,rfl,h1,h2,by omega,b.1,b.2,?_⟩
       unfold lackD
       rw [if_pos hw,if_neg h3,e]
       rfl
 · cases h
theorem fine_ask{n:Int}(h1:1≤n)(h2:n≤1000000)(h3:ys.length≤200)(h4:∀y∈ys,y∈ts.map (·.1))(h5:∀y∈ys,rm ts y≤n):askD ts (.int n) ys=(Str.ofString "fine",none):=by
 unfold askD
 rw [if_pos (N53.wIn_is h1 h2),if_neg (by omega)]
 show (match bad ts n ys 0 with | some (true,z,i)=>_ | some (false,z,i)=>_ | none=>_)=_
 rw [bad_none.mpr ⟨h4,h5⟩]
end
section
variable {K:PySem.W.Frag} {C xN xM xU xW:Addr} {vs:List V} {H:Hp} {Q:VK} {E:XK}
theorem im_places:sp32_check vs H Q E→sp13_check K xN vs H Q E:=fun ⟨i,e,h1,h2,q⟩=>⟨.int i,e,NumV.flat rfl,fun _=>q,fun h=>by rw [N53.wIn_is h1 h2]at h;cases h⟩
theorem im_within:sp_within K vs H Q E→N53.sp53_within K vs H Q E:=fun ⟨v,lo,hi,e,h,q⟩=>⟨v,lo,hi,e,NumV.flat h,q⟩
theorem im_asks:N41.sp41_asks K C vs H Q E→sp13_asks K C xN xM xU xW vs H Q E:=fun ⟨p,a,pl,ts,ys,e,h1,h2,h3,h4,h5,h6,h7,h8,q⟩=>by
 have f:=fine_ask h7 h8 h4 h5 h6
 exact ⟨p,a,.int pl,ts,ys,e,h1,h2,h3,by omega,NumV.flat rfl,fun _=>q,(fun z=>by rw [f]at z;cases z),(fun z=>by rw [f]at z;cases z),(fun _ _ z=>by rw [f]at z;cases z),(fun _ _ z=>by rw [f]at z;cases z)⟩
end
end N67
namespace L2
noncomputable def rNinQ(K:PySem.W.Frag):R2:=fun x y H Q=>∃(a p:Addr) (as:List Addr) (f:Addr→Bool),x= .ref a∧y= .ref p∧SqL K H p (as.map V.ref)∧a∉as∧(∀b∈as,EqQ K H (.ref b) (.ref a) (f b))∧Q (.bl (!as.any f)) H
noncomputable def fRef(f:Addr→Bool):Value→Bool
 | .ref b=>f b
 | _=>false
theorem vals_refs{as:List Addr}{us:List Value}(h:Vals (as.map V.ref) us):us=as.map Value.ref:=by
 induction as generalizing us with
 | nil=>cases h;rfl
 | cons a as ih=>
  cases h with
  | cons r t=>
   cases r
   rw [ih t];rfl
section
variable {X:Cx}
theorem op_ninQ{k:Nat}(hr:Room k X.A):OpR X (compareOp .NotIn) (rNinQ X.K):=by
 intro pins s σ H x y v u Q I rx ry h
 obtain ⟨a,p,as,f,rfl,rfl,hp,hna,hf,q⟩:=h
 cases rx
 cases ry
 obtain ⟨its,r,pl,hz⟩:=I.list hp
 have hv:=vals_refs r
 subst hv
 have hu:X.A.units+1 < cLine:=Nat.lt_of_le_of_lt (by omega) hr.un
 refine SeqAt.notIn_listAt (fRef f) pl.isList (fun w hw=>?_) ⟨.bl _,H,I,rfl,?_⟩
 · obtain ⟨b,hb,rfl⟩:∃b∈as,Value.ref b=w:=by simpa using hw
   exact SeqAt.EqAt.of_refs (fun e=>hna (by rw [← e];exact hb)) (eqQ_rc (x:= .ref b) (y:= .ref a) I rfl rfl (hf b hb) hu)
 · rw [show (as.map Value.ref).toArray.any (fRef f)=as.any f by simp [List.any_map];rfl]
   exact q
theorem rd_ninQ{K:PySem.W.Frag}{x y:V}{H:Hp}{Q:VK}:rNinQ K x y H Q=∃(a p:Addr) (as:List Addr) (f:Addr→Bool),x= .ref a∧y= .ref p∧SqL K H p (as.map V.ref)∧a∉as∧(∀b∈as,EqQ K H (.ref b) (.ref a) (f b))∧Q (.bl (!as.any f)) H:=rfl
end
end L2
namespace L2
theorem FunD.okF{P:Program}{w:World}{K:PySem.W.Frag}{mg:Str→Option Value}{base:Heap}{x qual:Str}{st:Stmt}{f:Addr}{fd:FuncData}{dv:List Value}{N ps:List Str}{k:Nat}{sp:Sp}(F:FunD K x qual st f fd dv)(S:FnScope N ps (defScope st))(len:∀vs H Q E,sp vs H Q E→vs.length=ps.length)
 (hbody:∀(cdv:Value) (A:Around) (outer:List Env) (s:Shared) (H:Hp) (vs:List V) (Q:VK) (E:XK),Room k (A.deeper (envOfC qual (defScope st) s.heap.objs.size f cdv))→sp vs H Q E→
  ∃t,PSs (cxOf (CXF P w) P w K mg base N qual (defScope st) f cdv A outer s H E) (defBody st) t∧t {nx:=fun _ H'=>Q .non H',rt:=Q} (start N vs) H):FnOk P w K mg base (CXF P w) (k+1) f fd ps sp:=by
 obtain ⟨oc,od,dT,ob,n,kV,doc,pm,an,cdv,ct,osl,rfl,lk,hcd,_⟩:=F.ex
 exact fn_of lk hcd S len fun A outer s H vs Q E hr hsp=>hbody cdv A outer s H vs Q E hr hsp
end L2
namespace N38
open L2 N1 N5 N4 N6 N12 N32 N14 N20 N18 N25 NR N22 N21 N24 N23 N26 N28 N29 N36 N13 N67
open N53 (NumV)
inductive R8 where
 | many | unk (z:Str) (i:Nat) | wide (z:Str) (i:Nat) | nor | unl | no
noncomputable def R8.vs:R8→List V
 | .many=>[.str (Str.ofString "too many")]
 | .unk z i=>[.str (Str.ofString "unknown"),.str z,.int i]
 | .wide z i=>[.str (Str.ofString "too wide"),.str z,.int i]
 | .nor=>[.str (Str.ofString "no rule")]
 | .unl=>[.str (Str.ofString "unlike")]
 | .no=>[.str (Str.ofString "nothing")]
theorem R8.flat(r:R8):r.vs.all flatV=true:=by cases r <;> rfl
noncomputable def ask8(ts:List Th)(n:Int)(ys:List Str):R8:=if 200 < ys.length then .many else match bad ts n ys 0 with
 | some (true,z,i)=> .unk z i
 | some (false,z,i)=> .wide z i
 | none=> .no
noncomputable def due8(ts:List Th)(n:Int)(ys:List Str)(k:Bool):R8:=match ask8 ts n ys with
 | .no=>if k=true then (if ∀y∈ys,rm ts y=1 then .no else .unl) else .nor
 | r=>r
structure Ex8 where
 many:Addr
 unk:Addr
 wide:Addr
 nor:Addr
 unl:Addr
noncomputable def Tell(X:Ex8)(H:Hp)(E:XK)(G:Hp→Prop):R8→Prop
 | .many=>∀H' y,Same H H'→H y=none→Err0 X.many H' y→E (.ref X.many) (some y) H'
 | .unk z i=>∀H' y,Same H H'→H y=none→ErrU X.unk H' y (.str z) (.int i)→E (.ref X.unk) (some y) H'
 | .wide z i=>∀H' y,Same H H'→H y=none→ErrU X.wide H' y (.str z) (.int i)→E (.ref X.wide) (some y) H'
 | .nor=>∀H' y,Same H H'→H y=none→Err0 X.nor H' y→E (.ref X.nor) (some y) H'
 | .unl=>∀H' y,Same H H'→H y=none→Err0 X.unl H' y→E (.ref X.unl) (some y) H'
 | .no=>∀H',Same H H'→G H'
section
variable {ts:List Th} {n:Int} {ys:List Str} {k:Bool}
theorem ask_is(h1:1≤n)(h2:n≤1000000):askD ts (.int n) ys=match ask8 ts n ys with
 | .many=>(Str.ofString "many",none)
 | .unk z i=>(Str.ofString "unknown",some (z,i))
 | .wide z i=>(Str.ofString "wide",some (z,i))
 | _=>(Str.ofString "fine",none):=by
 unfold askD ask8
 rw [if_pos (N53.wIn_is h1 h2)]
 by_cases h:200 < ys.length
 · rw [if_pos h,if_pos h]
 · rw [if_neg h,if_neg h]
   show (match bad ts n ys 0 with | some (true,z,i)=>(Str.ofString "unknown",some (z,i)) | some (false,z,i)=>(Str.ofString "wide",some (z,i)) | none=>(Str.ofString "fine",none))=_
   cases bad ts n ys 0 with
   | none=>rfl
   | some x=>obtain ⟨b,z,i⟩:=x;cases b <;> rfl
theorem ask_cases:ask8 ts n ys= .many∨(∃z i,ask8 ts n ys= .unk z i)∨(∃z i,ask8 ts n ys= .wide z i)∨ask8 ts n ys= .no:=by
 unfold ask8
 split
 · exact .inl rfl
 · split
   · exact .inr (.inl ⟨_,_,rfl⟩)
   · exact .inr (.inr (.inl ⟨_,_,rfl⟩))
   · exact .inr (.inr (.inr rfl))
theorem ask_inv{r:R8}(h1:1≤n)(h2:n≤1000000){u:Str×Option (Str×Nat)}(e:askD ts (.int n) ys=u)(hu:(match r with | .many=>(Str.ofString "many",none) | .unk z i=>(Str.ofString "unknown",some (z,i)) | .wide z i=>(Str.ofString "wide",some (z,i)) | _=>(Str.ofString "fine",none))=u)(hr:r≠ .nor∧r≠ .unl:=by constructor <;> (intro h;cases h)):ask8 ts n ys=r:=by
 subst hu
 rw [ask_is h1 h2]at e
 have n1:Str.ofString "many"≠Str.ofString "unknown":=by decide+kernel
 have n2:Str.ofString "many"≠Str.ofString "wide":=by decide+kernel
 have n3:Str.ofString "many"≠Str.ofString "fine":=by decide+kernel
 have n4:Str.ofString "unknown"≠Str.ofString "wide":=by decide+kernel
 have n5:Str.ofString "unknown"≠Str.ofString "fine":=by decide+kernel
 have n6:Str.ofString "wide"≠Str.ofString "fine":=by decide+kernel
 rcases ask_cases (ts:=ts) (n:=n) (ys:=ys) with h | ⟨z,i,h⟩ | ⟨z,i,h⟩ | h <;> rw [h]at e ⊢ <;> cases r <;> simp only [Prod.mk.injEq,reduceCtorEq,and_false,and_true,Option.some.injEq,false_and]at e <;> first | rfl | exact absurd e n1 | exact absurd e n2 | exact absurd e n3 | exact absurd e n4 | exact absurd e n5 | exact absurd e n6 | exact absurd e.symm n1 | exact absurd e.symm n2 | exact absurd e.symm n3 | exact absurd e.symm n4 | exact absurd e.symm n5 | exact absurd e.symm n6 | exact absurd e.1 n4 | exact absurd e.1.symm n4 | exact absurd rfl hr.1 | exact absurd rfl hr.2 | (obtain ⟨_,rfl,rfl⟩:=e;rfl)
theorem ask_nonum(h1:1≤n)(h2:n≤1000000):askD ts (.int n) ys≠(Str.ofString "number",none):=fun e=>by
 unfold askD at e
 rw [if_pos (N53.wIn_is h1 h2)]at e
 have n1:Str.ofString "many"≠Str.ofString "number":=by decide+kernel
 have n2:Str.ofString "fine"≠Str.ofString "number":=by decide+kernel
 split at e
 · exact n1 (congrArg Prod.fst e)
 · split at e
   · cases e
   · cases e
   · exact n2 (congrArg Prod.fst e)
theorem fine_of(h1:1≤n)(h2:n≤1000000)(h:ask8 ts n ys= .no):ys.length≤200∧(∀y∈ys,y∈ts.map (·.1))∧(∀y∈ys,rm ts y≤n):=by
 have e:=ask_is (ts:=ts) (ys:=ys) h1 h2
 rw [h]at e
 obtain ⟨m,e2,_,_,a,b,c,_⟩:=ask_fine (u:= .non) e
 cases e2
 exact ⟨a,b,c⟩
theorem of_fine(h3:ys.length≤200)(h4:∀y∈ys,y∈ts.map (·.1))(h5:∀y∈ys,rm ts y≤n):ask8 ts n ys= .no:=by
 unfold ask8
 rw [if_neg (by omega),bad_none.mpr ⟨h4,h5⟩]
theorem bad_wide{m:Int}(hr:∀z,rm ts z≤n)(hm:n≤m):∀(l:List Str) (i:Nat),bad ts m l i=bad ts n l i
 | [],_=>rfl
 | y::l,i=>by
  have h1:=hr y
  rw [rm_rmOf]at h1
  unfold bad
  rw [if_neg (show ¬m < rmOf ts y by omega),if_neg (show ¬n < rmOf ts y by omega),bad_wide hr hm l (i+1)]
theorem ask_wide{m:Int}(hr:∀z,rm ts z≤n)(hm:n≤m):ask8 ts m ys=ask8 ts n ys:=by unfold ask8;rw [bad_wide hr hm]
theorem bad_nowide(hr:∀z,rm ts z≤n):∀(l:List Str) (i:Nat) z j,bad ts n l i≠some (false,z,j)
 | [],_,_,_,h=>by cases h
 | y::l,i,z,j,h=>by
  have h1:=hr y
  rw [rm_rmOf]at h1
  unfold bad at h
  rw [if_neg (show ¬n < rmOf ts y by omega)]at h
  split at h
  · exact bad_nowide hr l (i+1) z j h
  · cases h
theorem ask_nowide(hr:∀z,rm ts z≤n){z:Str}{i:Nat}:ask8 ts n ys≠ .wide z i:=by
 unfold ask8
 split
 · intro h;cases h
 · split
   · intro h;cases h
   · rename_i e;exact absurd e (bad_nowide hr _ _ _ _)
   · intro h;cases h
theorem due_no:due8 ts n ys k= .no↔ask8 ts n ys= .no∧k=true∧∀y∈ys,rm ts y=1:=by
 unfold due8
 constructor
 · intro h
   cases e:ask8 ts n ys with
   | no=>
    rw [e]at h
    refine ⟨rfl,?_⟩
    cases k with
    | false=>cases h
    | true=>
     refine ⟨rfl,?_⟩
     have h':(if ∀y∈ys,rm ts y=1 then R8.no else R8.unl)=R8.no:=h
     split at h'
     · assumption
     · cases h'
   | many=>rw [e]at h;cases h
   | unk z i=>rw [e]at h;cases h
   | wide z i=>rw [e]at h;cases h
   | nor=>rw [e]at h;cases h
   | unl=>rw [e]at h;cases h
 · rintro ⟨e,rfl,h⟩
   rw [e]
   show (if ∀y∈ys,rm ts y=1 then R8.no else R8.unl)=R8.no
   rw [if_pos h]
end
noncomputable def kd:W8→Int
 | .ol=>0
 | .ha=>1
 | .fa _ _=>2
 | .fi=>3
 | .hd=>4
 | .ro=>5
 | .ru=>6
 | .ra=>7
noncomputable def nB:W8→Bool
 | .ol=>true
 | .ha=>true
 | .fa _ _=>true
 | _=>false
theorem nB_kd(w:W8):nB w=decide (kd w≤2):=by cases w <;> rfl
noncomputable def c5of(c:C8):C5:=⟨c.ra,c.ol,c.ol,c.ha,c.fa⟩
theorem as3{c:C8}{w:W8}{H:Hp}{M:List Addr}{q p:Addr}{n:Int}{ys:List Str}(hw:nB w=true)(hf:∀y h,w= .fa y h→y=ys)(h:(T8 c w).At H M q p n (s80 c 8 w)):∃w3:W3,(T5 (c5of c) ys w3.w).At H M q p n (proj (c5of c) ys w3.w (l50 8)):=by
 cases w with
 | ol=>exact ⟨.ol,h⟩
 | ha=>exact ⟨.ha,h⟩
 | fa y h'=>cases hf y h' rfl;exact ⟨.fa,h⟩
 | ru=>cases hw
 | ra=>cases hw
 | fi=>cases hw
 | hd=>cases hw
 | ro=>cases hw
noncomputable def tsn(nm:List Str)(rs:List Int):List Th:=(List.range rs.length).map fun j:Nat=>(nm.getD (1+j) Str.empty,(1+(j:Int)),rs.getD j 0)
noncomputable def kvn(nm:List Str)(rs:List Int):List (Key×V):=(List.range rs.length).map fun j:Nat=>(Sum.inr (nm.getD (1+j) Str.empty),V.int (rs.getD j 0))
theorem kvn_ts{nm:List Str}{rs:List Int}:kvn nm rs=(tsn nm rs).map fun t=>(Sum.inr t.1,V.int t.2.2):=by unfold kvn tsn;rw [List.map_map];rfl
theorem tsn_len{nm:List Str}{rs:List Int}:(tsn nm rs).length=rs.length:=by unfold tsn;rw [List.length_map,List.length_range]
theorem tsn_at{nm:List Str}{rs:List Int}{j:Nat}(h:j < rs.length):(tsn nm rs)[j]?=some (nm.getD (1+j) Str.empty,(1+(j:Int)),rs.getD j 0):=by
 unfold tsn;rw [List.getElem?_map,List.getElem?_range h];rfl
theorem tsn_names{nm:List Str}{rs:List Int}(h:rs.length+1=nm.length):(tsn nm rs).map (·.1)=nm.drop 1:=by
 refine List.ext_getElem? fun j=>?_
 rw [List.getElem?_map,List.getElem?_drop]
 by_cases hj:j < rs.length
 · rw [tsn_at hj,List.getElem?_eq_getElem (show 1+j < nm.length by omega)]
   show some (nm.getD (1+j) Str.empty)=_
   rw [List.getD_eq_getElem?_getD,List.getElem?_eq_getElem (show 1+j < nm.length by omega)];rfl
 · rw [List.getElem?_eq_none (by rw [tsn_len];omega),List.getElem?_eq_none (by omega)];rfl
theorem getD_snoc{rs:List Int}{r:Int}{j:Nat}(h:j < rs.length):(rs++[r]).getD j 0=rs.getD j 0:=by rw [List.getD_eq_getElem?_getD,List.getElem?_append_left h,← List.getD_eq_getElem?_getD]
theorem getD_last{rs:List Int}{r:Int}:(rs++[r]).getD rs.length 0=r:=by rw [List.getD_eq_getElem?_getD,List.getElem?_append_right (Nat.le_refl _),Nat.sub_self];rfl
theorem getD_inj{nm:List Str}(nd:nm.Nodup){i j:Nat}(hi:i < nm.length)(hj:j < nm.length)(h:nm.getD i Str.empty=nm.getD j Str.empty):i=j:=N32.nd_getD nd hi hj h
theorem kvn_put{nm:List Str}{rs:List Int}{r:Int}(nd:nm.Nodup)(h:1+rs.length < nm.length):putK (kvn nm rs) (Sum.inr (nm.getD (1+rs.length) Str.empty)) (V.int r)=kvn nm (rs++[r]):=by
 have hno:valV (kvn nm rs) (Sum.inr (nm.getD (1+rs.length) Str.empty))=none:=by
  cases e:valV (kvn nm rs) (Sum.inr (nm.getD (1+rs.length) Str.empty)) with
  | none=>rfl
  | some v=>
   have h1:((kvn nm rs).any fun kv=>decide (kv.1=Sum.inr (nm.getD (1+rs.length) Str.empty)))=true:=by rw [valV_any,e];rfl
   obtain ⟨x,hx,hk⟩:=List.any_eq_true.mp h1
   unfold kvn at hx
   obtain ⟨j,hj,rfl⟩:=List.mem_map.mp hx
   have hj':=List.mem_range.mp hj
   have hk':(Sum.inr (nm.getD (1+j) Str.empty):Key)=Sum.inr (nm.getD (1+rs.length) Str.empty):=of_decide_eq_true hk
   injection hk' with hk'
   have:=getD_inj nd (by omega) h hk'
   omega
 rw [putK_new _ hno]
 unfold kvn
 rw [List.length_append,List.length_singleton,List.range_succ,List.map_append]
 congr 1
 · refine List.map_congr_left fun j hj=>?_
   rw [getD_snoc (List.mem_range.mp hj)]
 · show _=[(Sum.inr (nm.getD (1+rs.length) Str.empty),V.int ((rs++[r]).getD rs.length 0))]
   rw [getD_last]
theorem kvn_get{nm:List Str}{rs:List Int}{j:Nat}(nd:nm.Nodup)(h:rs.length+1=nm.length)(hj:j < rs.length):valV (kvn nm rs) (Sum.inr (nm.getD (1+j) Str.empty))=some (.int (rs.getD j 0)):=by
 have hnd:((tsn nm rs).map (·.1)).Nodup:=by rw [tsn_names h];exact nd.sublist (List.drop_sublist _ _)
 have ht:=tsn_at (nm:=nm) hj
 have hm:=List.mem_of_getElem? ht
 rw [kvn_ts,rm_some (List.mem_map.mpr ⟨_,hm,rfl⟩)]
 have:=rmOf_is hnd hm
 rw [show nm.getD (1+j) Str.empty=(nm.getD (1+j) Str.empty,(1+(j:Int)),rs.getD j 0).1 from rfl,this]
theorem fe_unl(r:R8):flatEq r.vs [V.str (Str.ofString "unlike")]=true↔r= .unl:=by
 have h:∀s:Str,flatEq [V.str s] [V.str (Str.ofString "unlike")]=decide (s=Str.ofString "unlike"):=fun s=>by
  have:=flatEq_strs (xs:=[s]) (ys:=[Str.ofString "unlike"])
  rw [show ([s].map V.str)=[V.str s] from rfl,show ([Str.ofString "unlike"].map V.str)=[V.str (Str.ofString "unlike")] from rfl]at this
  rw [this];exact decide_eq_decide.mpr ⟨fun e=>by injection e,fun e=>by rw [e]⟩
 cases r with
 | many=>exact ⟨fun e=>absurd e (by rw [show R8.many.vs=[V.str (Str.ofString "too many")] from rfl,h];decide+kernel),fun e=>by cases e⟩
 | unk z i=>exact ⟨fun e=>absurd e (by rw [flatEq_len (by simp [R8.vs])];decide),fun e=>by cases e⟩
 | wide z i=>exact ⟨fun e=>absurd e (by rw [flatEq_len (by simp [R8.vs])];decide),fun e=>by cases e⟩
 | nor=>exact ⟨fun e=>absurd e (by rw [show R8.nor.vs=[V.str (Str.ofString "no rule")] from rfl,h];decide+kernel),fun e=>by cases e⟩
 | unl=>exact ⟨fun _=>rfl,fun _=>by rw [show R8.unl.vs=[V.str (Str.ofString "unlike")] from rfl,h];decide+kernel⟩
 | no=>exact ⟨fun e=>absurd e (by rw [show R8.no.vs=[V.str (Str.ofString "nothing")] from rfl,h];decide+kernel),fun e=>by cases e⟩
theorem fe_no(r:R8):flatEq r.vs [V.str (Str.ofString "nothing")]=true↔r= .no:=by
 have h:∀s:Str,flatEq [V.str s] [V.str (Str.ofString "nothing")]=decide (s=Str.ofString "nothing"):=fun s=>by
  have:=flatEq_strs (xs:=[s]) (ys:=[Str.ofString "nothing"])
  rw [show ([s].map V.str)=[V.str s] from rfl,show ([Str.ofString "nothing"].map V.str)=[V.str (Str.ofString "nothing")] from rfl]at this
  rw [this];exact decide_eq_decide.mpr ⟨fun e=>by injection e,fun e=>by rw [e]⟩
 cases r with
 | many=>exact ⟨fun e=>absurd e (by rw [show R8.many.vs=[V.str (Str.ofString "too many")] from rfl,h];decide+kernel),fun e=>by cases e⟩
 | unk z i=>exact ⟨fun e=>absurd e (by rw [flatEq_len (by simp [R8.vs])];decide),fun e=>by cases e⟩
 | wide z i=>exact ⟨fun e=>absurd e (by rw [flatEq_len (by simp [R8.vs])];decide),fun e=>by cases e⟩
 | nor=>exact ⟨fun e=>absurd e (by rw [show R8.nor.vs=[V.str (Str.ofString "no rule")] from rfl,h];decide+kernel),fun e=>by cases e⟩
 | unl=>exact ⟨fun e=>absurd e (by rw [show R8.unl.vs=[V.str (Str.ofString "unlike")] from rfl,h];decide+kernel),fun e=>by cases e⟩
 | no=>exact ⟨fun _=>rfl,fun _=>by rw [show R8.no.vs=[V.str (Str.ofString "nothing")] from rfl,h];decide+kernel⟩
theorem ef_unl(r:R8):flatEq [V.str (Str.ofString "unlike")] r.vs=true↔r= .unl:=by
 have h:∀s:Str,flatEq [V.str (Str.ofString "unlike")] [V.str s]=decide (Str.ofString "unlike"=s):=fun s=>by
  have:=flatEq_strs (xs:=[Str.ofString "unlike"]) (ys:=[s])
  rw [show ([s].map V.str)=[V.str s] from rfl,show ([Str.ofString "unlike"].map V.str)=[V.str (Str.ofString "unlike")] from rfl]at this
  rw [this];exact decide_eq_decide.mpr ⟨fun e=>by injection e,fun e=>by rw [e]⟩
 cases r with
 | many=>exact ⟨fun e=>absurd e (by rw [show R8.many.vs=[V.str (Str.ofString "too many")] from rfl,h];decide+kernel),fun e=>by cases e⟩
 | unk z i=>exact ⟨fun e=>absurd e (by rw [flatEq_len (by simp [R8.vs])];decide),fun e=>by cases e⟩
 | wide z i=>exact ⟨fun e=>absurd e (by rw [flatEq_len (by simp [R8.vs])];decide),fun e=>by cases e⟩
 | nor=>exact ⟨fun e=>absurd e (by rw [show R8.nor.vs=[V.str (Str.ofString "no rule")] from rfl,h];decide+kernel),fun e=>by cases e⟩
 | unl=>exact ⟨fun _=>rfl,fun _=>by rw [show R8.unl.vs=[V.str (Str.ofString "unlike")] from rfl,h];decide+kernel⟩
 | no=>exact ⟨fun e=>absurd e (by rw [show R8.no.vs=[V.str (Str.ofString "nothing")] from rfl,h];decide+kernel),fun e=>by cases e⟩
theorem ef_no(r:R8):flatEq [V.str (Str.ofString "nothing")] r.vs=true↔r= .no:=by
 have h:∀s:Str,flatEq [V.str (Str.ofString "nothing")] [V.str s]=decide (Str.ofString "nothing"=s):=fun s=>by
  have:=flatEq_strs (xs:=[Str.ofString "nothing"]) (ys:=[s])
  rw [show ([s].map V.str)=[V.str s] from rfl,show ([Str.ofString "nothing"].map V.str)=[V.str (Str.ofString "nothing")] from rfl]at this
  rw [this];exact decide_eq_decide.mpr ⟨fun e=>by injection e,fun e=>by rw [e]⟩
 cases r with
 | many=>exact ⟨fun e=>absurd e (by rw [show R8.many.vs=[V.str (Str.ofString "too many")] from rfl,h];decide+kernel),fun e=>by cases e⟩
 | unk z i=>exact ⟨fun e=>absurd e (by rw [flatEq_len (by simp [R8.vs])];decide),fun e=>by cases e⟩
 | wide z i=>exact ⟨fun e=>absurd e (by rw [flatEq_len (by simp [R8.vs])];decide),fun e=>by cases e⟩
 | nor=>exact ⟨fun e=>absurd e (by rw [show R8.nor.vs=[V.str (Str.ofString "no rule")] from rfl,h];decide+kernel),fun e=>by cases e⟩
 | unl=>exact ⟨fun e=>absurd e (by rw [show R8.unl.vs=[V.str (Str.ofString "unlike")] from rfl,h];decide+kernel),fun e=>by cases e⟩
 | no=>exact ⟨fun _=>rfl,fun _=>by rw [show R8.no.vs=[V.str (Str.ofString "nothing")] from rfl,h];decide+kernel⟩
theorem w8_at{k:Int}(h0:0≤k)(h1:k < 8)(h2:k≠2):∃w:W8,kd w=k∧∀y h,w≠ .fa y h:=by
 have:k=0∨k=1∨k=3∨k=4∨k=5∨k=6∨k=7:=by omega
 rcases this with e | e | e | e | e | e | e
 · exact ⟨.ol,e.symm,fun _ _ h=>by cases h⟩
 · exact ⟨.ha,e.symm,fun _ _ h=>by cases h⟩
 · exact ⟨.fi,e.symm,fun _ _ h=>by cases h⟩
 · exact ⟨.hd,e.symm,fun _ _ h=>by cases h⟩
 · exact ⟨.ro,e.symm,fun _ _ h=>by cases h⟩
 · exact ⟨.ru,e.symm,fun _ _ h=>by cases h⟩
 · exact ⟨.ra,e.symm,fun _ _ h=>by cases h⟩
theorem no_ask{ts:List Th}{n:Int}{ys:List Str}{k:Bool}(h:due8 ts n ys k= .no):ask8 ts n ys= .no:=(due_no.mp h).1
theorem due_ask{ts:List Th}{n:Int}{ys:List Str}(h:due8 ts n ys true≠ .unl):due8 ts n ys true=ask8 ts n ys:=by
 unfold due8 at h ⊢
 cases e:ask8 ts n ys with
 | no=>
  rw [e]at h
  show (if true=true then (if ∀y∈ys,rm ts y=1 then R8.no else R8.unl) else R8.nor)=R8.no
  rw [if_pos rfl]
  by_cases hh:∀y∈ys,rm ts y=1
  · rw [if_pos hh]
  · exact absurd (by show (if true=true then (if ∀y∈ys,rm ts y=1 then R8.no else R8.unl) else R8.nor)=R8.unl;rw [if_pos rfl,if_neg hh]) h
 | many=>rfl
 | unk z i=>rfl
 | wide z i=>rfl
 | nor=>rfl
 | unl=>rfl
theorem ask_nounl{ts:List Th}{n:Int}{ys:List Str}:ask8 ts n ys≠ .unl∧ask8 ts n ys≠ .nor:=by
 rcases ask_cases (ts:=ts) (n:=n) (ys:=ys) with h | ⟨z,i,h⟩ | ⟨z,i,h⟩ | h <;> rw [h] <;> exact ⟨(by intro e;cases e),(by intro e;cases e)⟩
theorem unl_ask{ts:List Th}{n:Int}{ys:List Str}{k:Bool}(h:due8 ts n ys k= .unl):ask8 ts n ys= .no:=by
 unfold due8 at h
 cases e:ask8 ts n ys with
 | no=>rfl
 | many=>rw [e]at h;cases h
 | unk z i=>rw [e]at h;cases h
 | wide z i=>rw [e]at h;cases h
 | nor=>exact absurd e ask_nounl.2
 | unl=>exact absurd e ask_nounl.1
theorem rm_most{ts:List Th}{n:Int}(nd:(ts.map (·.1)).Nodup)(h:∀t∈ts,t.2.2≤n)(h0:0≤n)(z:Str):rm ts z≤n:=by
 rw [rm_rmOf]
 by_cases hz:z∈ts.map (·.1)
 · obtain ⟨t,ht,rfl⟩:=List.mem_map.mp hz
   rw [rmOf_is nd ht];exact h t ht
 · have hno:ts.find? (fun t=>decide (t.1=z))=none:=List.find?_eq_none.mpr fun t ht=>by
    simp only [decide_eq_true_eq]
    exact fun e=>hz (List.mem_map.mpr ⟨t,ht,e⟩)
   unfold rmOf
   first | (rw [hno];exact h0) | (simp [hno];exact h0)
noncomputable def sp38_nests(b:Bool):Sp:=fun vs H Q _=>∃q:Addr,vs=[.ref q]∧Q (.bl b) H
noncomputable def sp38_rooms(K:PySem.W.Frag)(S U:Addr):Sp:=fun vs H Q E=>∃(p a:Addr) (ts:List Th) (ys:List Str),vs=[.ref p,.ref a]∧StockAt K S H p ts∧(ts.map (·.1)).Nodup∧SqL K H a (ys.map V.str)∧(∀y∈ys,y∈ts.map (·.1))∧ys.length≤200∧(∀y∈ys,y.length≤100)∧
 ((∀y∈ys,rm ts y=1)→Q .non H)∧((¬∀y∈ys,rm ts y=1)→∀H' e,Same H H'→H e=none→Err0 U H' e→E (.ref U) (some e) H')
noncomputable def sp38_walk(c:C8)(X:Ex8)(K:PySem.W.Frag)(S:Addr):Sp:=fun vs H Q E=>∃(w:W8) (q p a:Addr) (n:Int) (M:List Addr) (s:(T8 c w).St) (ts:List Th) (ys:List Str),vs=[.ref q,.ref a]∧(T8 c w).At H M q p n s∧StockAt K S H p ts∧(ts.map (·.1)).Nodup∧SqL K H a (ys.map V.str)∧ys.length≤250∧(∀y∈ys,y.length≤100)∧1≤n∧n≤1000000∧
 Tell X H E (fun H'=>Q .non H') (due8 ts n ys (nB w))
noncomputable def sp38_depths(X:Ex8)(K:PySem.W.Frag)(S:Addr):Sp:=fun vs H Q E=>∃(p a:Addr) (ts:List Th) (ys:List Str),vs=[.ref p,.ref a]∧StockAt K S H p ts∧(ts.map (·.1)).Nodup∧SqL K H a (ys.map V.str)∧ys.length≤250∧(∀t∈ts,t.2.2≤1000000)∧(∀z,rm ts z≤1000000)∧
 Tell X H E (fun H1=>∀(D:Addr) (H':Hp),H D=none→Same H H'→H' D=some (.lst (depsV (rm ts) ys))→Q (.ref D) H') (ask8 ts 1000000 ys)
noncomputable def sp38_steps(X:Ex8)(K:PySem.W.Frag)(S:Addr):Sp:=fun vs H Q E=>∃(p a:Addr) (ts:List Th) (ys:List Str),vs=[.ref p,.ref a]∧StockAt K S H p ts∧(ts.map (·.1)).Nodup∧SqL K H a (ys.map V.str)∧ys.length≤250∧(ys.length≤60∨200 < ys.length)∧(∀t∈ts,t.2.2≤1000000)∧(∀z,rm ts z≤1000000)∧
 Tell X H E (fun H1=>∀(D:Addr) (H':Hp),Same H H'→Q (.ref D) H') (ask8 ts 1000000 ys)
noncomputable def sp38_stack(c:C8)(X:Ex8)(K:PySem.W.Frag)(S:Addr):Sp:=fun vs H Q E=>∃(w:W8) (q p a:Addr) (n:Int) (M:List Addr) (ts:List Th) (ys:List Str),vs=[.ref q,.ref a]∧(T8 c w).At H M q p n (s80 c 8 w)∧(∀y h,w= .fa y h→y=ys)∧StockAt K S H p ts∧(ts.map (·.1)).Nodup∧ts.length≤60∧H a=some (.lst (ys.map V.str))∧a∉M∧ys.length≤250∧(ys.length≤60∨200 < ys.length)∧(∀y∈ys,y.length≤100)∧1≤n∧n≤1000000∧
 Tell X H E (fun H1=>∀(D:Addr) (H':Hp),Kp M H H'→Q (.ref D) H') (due8 ts n ys (nB w))
noncomputable def sp38_told(K:PySem.W.Frag)(S:Addr):Sp:=fun vs H Q _=>∃(p a:Addr) (b:Bool) (ts:List Th) (ys:List Str),vs=[.ref p,.ref a,.bl b]∧StockAt K S H p ts∧(ts.map (·.1)).Nodup∧SqL K H a (ys.map V.str)∧ys.length≤250∧(ys.length≤60∨200 < ys.length)∧(∀t∈ts,t.2.2≤1000000)∧(∀z,rm ts z≤1000000)∧
 ∀(t:Addr) (H':Hp),Same H H'→H t=none→H' t=some (.tup (ask8 ts 1000000 ys).vs)→Q (.ref t) H'
noncomputable def sp38_rank(c:C8)(K:PySem.W.Frag)(S:Addr):Sp:=fun vs H Q _=>∃(w:W8) (q p a:Addr) (n:Int) (M:List Addr) (ts:List Th) (ys:List Str),vs=[.ref q,.ref a]∧(T8 c w).At H M q p n (s80 c 8 w)∧(∀y h,w= .fa y h→y=ys)∧StockAt K S H p ts∧(ts.map (·.1)).Nodup∧ts.length≤60∧H a=some (.lst (ys.map V.str))∧a∉M∧ys.length≤250∧(ys.length≤60∨200 < ys.length)∧(∀y∈ys,y.length≤100)∧1≤n∧n≤1000000∧
 ∀(t:Addr) (H':Hp),Kp M H H'→(due8 ts n ys (nB w)≠ .no→Same H H')→H t=none→H' t=some (.tup (due8 ts n ys (nB w)).vs)→Q (.ref t) H'
noncomputable def sp38_due(K:PySem.W.Frag):Sp:=fun vs H Q _=>∃(a e:Addr) (n k:Int) (ts:List Th) (ys:List Str),vs=[.ref a,.ref e,.int n,.int k]∧SqL K H a (ys.map V.str)∧ys.length≤250∧H e=some (.dK (ts.map fun t=>(Sum.inr t.1,.int t.2.2)))∧(ts.map (·.1)).Nodup∧
 ∀(t:Addr) (H':Hp),Same H H'→H t=none→H' t=some (.tup (due8 ts n ys (decide (k≤2))).vs)→Q (.ref t) H'
noncomputable def sp38_rule(c:C8)(K:PySem.W.Frag)(S:Addr):Sp:=fun vs H Q _=>∃(w:W8) (st a:Addr) (n:Int) (ts:List Th) (ys:List Str),vs=[.ref st,.int n,.int (kd w),.ref a]∧StockAt K S H st ts∧(ts.map (·.1)).Nodup∧H a=some (.lst (ys.map V.str))∧(∀y h,w= .fa y h→y=ys∧ys.length≤200∧(∀y∈ys,y∈ts.map (·.1))∧∀y∈ys,rm ts y≤n)∧1≤n∧n≤1000000∧
 ∀(q:Addr) (M:List Addr) (H':Hp),Same H H'→(∀m∈M,H m=none)→(T8 c w).At H' M q st n (s80 c 8 w)→Q (.ref q) H'
end N38
namespace K38
open L2 N1 N5 N4 N6 N12 N31 N32 N41 N14 N20 N18 N25 NR N22 N21 N24 N23 N26 N28 N29 N35 N34 N71 N13 N67 N36 N38
local macro_rules | `(tactic| walk_at "rq") => `(tactic| simp only [rd_asg, rd_var, rd_c, rd_op, rd_I0, rd_I, rd_name, rd_ifS, rd_test, rd_b, rd_ret, rd_next, rd_cb, rd_cons, rd_nil, rd_call, rd_not, rd_or, rd_and, rd_andV, rd_notV, rd_if, rd_eq, rd_ne, rd_tup, rd_lst, rd_never, rd_drop, rd_gcons, rd_gnil, rd_chain, rd_rng1, rd_rng2, rd_ilist, rd_for', sc_nn, sc_ni, sc_in, sc_nb, sc_bn, sc_ns, sc_sn, sc_ii, sc_bb, sc_ss, sc_is, sc_si, sc_bs, sc_sb, rd_comp, rd_istr, rd_sl, rd_noPart, rd_part, rd_slL, rd_bm, tyV_str, rd_all, rd_jnil, rd_jcons, rd_fstr, rd_fmt, rd_dnewK, true_implies, false_implies, Bool.false_and, Bool.true_and, Bool.and_true, Bool.and_false, Bool.false_or, Bool.true_or, Bool.or_true, Bool.or_false, rd_eqQ, rd_neQ, rd_methE, rd_makeE, rd_fld, rd_sfld, rd_din, rd_dnotin, rd_dget, rd_dput, rd_gtup, rd_inS, hasS_one, blk_K, Int.zero_add, Int.toNat_natCast, upd_upd, List.map_cons, List.map_nil, List.getD_cons_zero, List.getD_cons_succ, cxOf_K, List.length_cons, List.length_nil, List.getElem?_cons_zero, List.getElem?_cons_succ, List.set_cons_zero, List.set_cons_succ, Option.some.injEq, V.int.injEq, V.bl.injEq, V.str.injEq, V.ref.injEq, V.ty.injEq, exists_eq_left', exists_eq_left, exists_and_left, exists_eq, exists_eq', List.cons.injEq, and_true, true_and, decide_eq_true_eq, Bool.not_eq_true', decide_eq_false_iff_not, reduceCtorEq, exists_const, Bool.true_eq_false, Bool.false_eq_true, if_true, if_false, ite_true, ite_false, Bool.not_true, Bool.not_false, decide_true, decide_false, Bool.not_not, false_and, and_false, exists_false, false_or, or_false, true_or, or_true, and_assoc, not_true_eq_false, not_false_eq_true, Int.reduceToNat, Nat.reduceAdd, rd_raiseF, rd_raiseI, rd_hasF, rd_fldX, rd_sfldX, rd_exc, rd_excI, rd_listD, rd_dget2, rd_tryV, rd_hclsV, tryX_K, sui_K, rd_callE, rd_hnil, rd_ends, exists_eq_right, sp_cell, sp_made, sp_is_name, sp_is_whole, sp_checkG, sp_initG, sp_has, sp32_room, sp32_thing, sp32_check, N41.sp41_asks, rd_listD, rd_ienum, rd_izip, rd_compI, rd_comp2, rd_maxL, rd_setL, rd_dget1, rd_callS, rd_sumL, spR_asked, rd_fldaug, rd_dget2, rAdd, rd_ipI, sp22_init, rd_makeD, gV31_at, rd_dictOf, rd_methI, rd_neDD, List.cons_append, List.nil_append, sp28_rinit, sp28_kinit, rd_rep, sp_within, N53.sp53_within, sp13_check, sp13_asks, sp_unk, sp_law, sp21_number, sp23_init, sp23_halve, sp23_number, sp23_counts, sp24_init, sp24_number, sp24_coming, sp29_last2, sp29_last3, sp29_last4, sp29_asked, sp29_rank, sp36_nests, sp36_depth, sp36_carried, sp36_behind, rd_gtT, rd_index, rd_cat, sp32_early, sp32_init, sp32_add, sp32_upto, rd_getL, rd_augS, sp41_cost, sp35_there, sp35_step, sp35_names, rd_sortset, sp26_init, sp28_hinit, sp38_nests, sp38_rooms, sp38_walk, sp38_depths, sp38_steps, sp38_stack, sp38_told, sp38_rank, sp38_due, sp38_rule, rd_ninQ])
local macro_rules | `(tactic| walk_at "rd") => `(tactic| first | (dsimp only [rd_asg, rd_var, rd_c, rd_op, rd_I0, rd_I, rd_name, rd_ifS, rd_test, rd_b, rd_ret, rd_next, rd_cb, rd_cons, rd_nil, rd_call, rd_not, rd_or, rd_and, rd_andV, rd_notV, rd_if, rd_eq, rd_ne, rd_tup, rd_lst, rd_never, rd_drop, rd_gcons, rd_gnil, rd_chain, rd_rng1, rd_rng2, rd_ilist, rd_for', sc_nn, sc_ni, sc_in, sc_nb, sc_bn, sc_ns, sc_sn, sc_ii, sc_bb, sc_ss, sc_is, sc_si, sc_bs, sc_sb, rd_comp, rd_istr, rd_sl, rd_noPart, rd_part, rd_slL, rd_bm, tyV_str, rd_all, rd_jnil, rd_jcons, rd_fstr, rd_fmt, rd_dnewK, true_implies, false_implies, Bool.false_and, Bool.true_and, Bool.and_true, Bool.and_false, Bool.false_or, Bool.true_or, Bool.or_true, Bool.or_false, rd_eqQ, rd_neQ, rd_methE, rd_makeE, rd_fld, rd_sfld, rd_din, rd_dnotin, rd_dget, rd_dput, rd_gtup, rd_inS, hasS_one, blk_K, Int.zero_add, Int.toNat_natCast, upd_upd, List.map_cons, List.map_nil, List.getD_cons_zero, List.getD_cons_succ, cxOf_K, List.length_cons, List.length_nil, List.getElem?_cons_zero, List.getElem?_cons_succ, List.set_cons_zero, List.set_cons_succ, Option.some.injEq, V.int.injEq, V.bl.injEq, V.str.injEq, V.ref.injEq, V.ty.injEq, exists_eq_left', exists_eq_left, exists_and_left, exists_eq, exists_eq', List.cons.injEq, and_true, true_and, decide_eq_true_eq, Bool.not_eq_true', decide_eq_false_iff_not, reduceCtorEq, exists_const, Bool.true_eq_false, Bool.false_eq_true, if_true, if_false, ite_true, ite_false, Bool.not_true, Bool.not_false, decide_true, decide_false, Bool.not_not, false_and, and_false, exists_false, false_or, or_false, true_or, or_true, and_assoc, not_true_eq_false, not_false_eq_true, Int.reduceToNat, Nat.reduceAdd, rd_raiseF, rd_raiseI, rd_hasF, rd_fldX, rd_sfldX, rd_exc, rd_excI, rd_listD, rd_dget2, rd_tryV, rd_hclsV, tryX_K, sui_K, rd_callE, rd_hnil, rd_ends, exists_eq_right, sp_cell, sp_made, sp_is_name, sp_is_whole, sp_checkG, sp_initG, sp_has, sp32_room, sp32_thing, sp32_check, N41.sp41_asks, rd_listD, rd_ienum, rd_izip, rd_compI, rd_comp2, rd_maxL, rd_setL, rd_dget1, rd_callS, rd_sumL, spR_asked, rd_fldaug, rd_dget2, rAdd, rd_ipI, sp22_init, rd_makeD, gV31_at, rd_dictOf, rd_methI, rd_neDD, List.cons_append, List.nil_append, sp28_rinit, sp28_kinit, rd_rep, sp_within, N53.sp53_within, sp13_check, sp13_asks, sp_unk, sp_law, sp21_number, sp23_init, sp23_halve, sp23_number, sp23_counts, sp24_init, sp24_number, sp24_coming, sp29_last2, sp29_last3, sp29_last4, sp29_asked, sp29_rank, sp36_nests, sp36_depth, sp36_carried, sp36_behind, rd_gtT, rd_index, rd_cat, sp32_early, sp32_init, sp32_add, sp32_upto, rd_getL, rd_augS, sp41_cost, sp35_there, sp35_step, sp35_names, rd_sortset, sp26_init, sp28_hinit, sp38_nests, sp38_rooms, sp38_walk, sp38_depths, sp38_steps, sp38_stack, sp38_told, sp38_rank, sp38_due, sp38_rule, rd_ninQ]; try walk_at "rq") | walk_at "rq")
local macro_rules | `(tactic| walk_at "hp") => `(tactic| first | with_reducible assumption | exact upd_same | (rw [upd_ne (by first | with_reducible assumption | exact ne_of_none (by with_reducible assumption) (by with_reducible assumption))]; first | with_reducible assumption | exact upd_same))
local macro_rules | `(tactic| walk_at "sq") => `(tactic| (repeat' first | with_reducible assumption | exact SqT.of upd_same | exact SqL.of upd_same | refine' Same.tup (Same.new (by with_reducible assumption)) ?_ | refine' Same.seq (Same.new (by with_reducible assumption)) ?_))
local macro_rules | `(tactic| walk_at "isi") => `(tactic| first | exact isi_ii | exact isi_ib | exact isi_bb | exact isi_ss | exact isi_si | exact isi_bi | exact isi_ni)
local macro_rules | `(tactic| walk_at "slen") => `(tactic| first | omega | decide +kernel | (refine le_app ?_ ?_ <;> walk_at "slen"))
local macro_rules | `(tactic| walk_at "side") => `(tactic| first | with_reducible assumption | with_reducible exact cdiv_of (by omega) (by omega) | with_reducible exact cpow_of (by decide) (by decide) (by decide) | with_reducible exact cmul_l (by omega) (by omega) | with_reducible exact cmul_r (by omega) (by omega) | omega | decide | decide +kernel | (have := line_val; omega) | (simp only [len_app, len_one, line_val]; omega) | (rw [line_val]; walk_at "slen"; done))
local macro_rules | `(tactic| walk_at "go1") => `(tactic| first | walk_at "rd" | ((with_reducible refine And.intro ?_ ?_); (focus (walk_at "side"; done))) | ((with_reducible apply isi_go); (focus (walk_at "isi"; done))) | ((with_reducible apply ixT_of); (focus (walk_at "sq"; done)); (focus rfl)) | ((with_reducible apply ixL_of); (focus (walk_at "sq"; done)); (focus rfl)) | ((with_reducible apply len_goT); (focus (walk_at "sq"; done))) | ((with_reducible apply len_goL); (focus (walk_at "sq"; done))) | ((with_reducible apply script_go); (focus (walk_at "sq"; done)); (focus (assumption; done))) | ((with_reducible apply cell_go); (focus (walk_at "sq"; done)); (focus (decide; done)); (focus (assumption; done))) | (intro (_ : List (Addr × PySem.Obj)) (_ : PySem.Value → PySem.Shared → Prop)) | with_reducible refine seq_go fun _ _ => ?_ | (refine leaf_go (by with_reducible assumption) ?_; subst_vars))
local macro_rules | `(tactic| walk_at "go") => `(tactic| repeat walk_at "go1")
noncomputable def top(i:Nat):Stmt:=PySem.Challenge.pw_castoff_k38_walks_refused.main.body.getD i (.Pass ⟨0,0,0,0⟩)
structure Txt(K:W.Frag)(mg:Str→Option Value)(Z6 Z3 Z5 Z9 Z8 Zb Za Z7 Zg Ze Z4 Z2 Zd Z0 Z1 Zf Zc:Addr):Prop where
 Ze8:mg "Stock"=some (.ref Z7)
 Zv:Cls K Z7
 Zo:NoAttr K Z7 "things"
 Zea:mg "Sums"=some (.ref Zg)
 Z1t:Cls K Zg
 Zs:NoAttr K Zg "numbers"
 Z8e:mg "Rule"=some (.ref Ze)
 Z93:Cls K Ze
 Z0y:NoAttr K Ze "stock"
 Z0r:NoAttr K Ze "places"
 Z7t:mg "Ranked"=some (.ref Z4)
 Z6p:Cls K Z4
 Z0g:NoAttr K Z4 "stock"
 Z07:NoAttr K Z4 "places"
 Z0o:NoAttr K Z4 "present"
 Z1c:NoAttr K Z4 "last"
 Ze7:mg "Oldest"=some (.ref Z2)
 Z01:Cls K Z2
 Z0h:NoAttr K Z2 "stock"
 Z08:NoAttr K Z2 "places"
 Zw:NoAttr K Z2 "present"
 Z0b:NoAttr K Z2 "last"
 Ze9:mg "First"=some (.ref Zd)
 Z5p:Cls K Zd
 Z0s:NoAttr K Zd "stock"
 Z0i:NoAttr K Zd "places"
 Z0w:NoAttr K Zd "present"
 Z1l:NoAttr K Zd "last"
 Z0z:NoAttr K Zd "put_at"
 Ze6:mg "Halving"=some (.ref Z0)
 Zi:Cls K Z0
 Z09:NoAttr K Z0 "stock"
 Z02:NoAttr K Z0 "places"
 Zq:NoAttr K Z0 "present"
 Z03:NoAttr K Z0 "last"
 Z0j:NoAttr K Z0 "turn"
 Zk:NoAttr K Z0 "tally"
 Ze5:mg "Farthest"=some (.ref Z1)
 Zj:Cls K Z1
 Z04:NoAttr K Z1 "stock"
 Z00:NoAttr K Z1 "places"
 Zp:NoAttr K Z1 "present"
 Zz:NoAttr K Z1 "last"
 Zt:NoAttr K Z1 "asks"
 Zeb:mg "Hand"=some (.ref Zf)
 Z5m:Cls K Zf
 Z10:NoAttr K Zf "stock"
 Z0t:NoAttr K Zf "places"
 Z1m:NoAttr K Zf "order"
 Z1d:NoAttr K Zf "marked"
 Zec:mg "Rows"=some (.ref Zc)
 Z1u:Cls K Zc
 Z11:NoAttr K Zc "stock"
 Z0u:NoAttr K Zc "places"
 Z29:NoAttr K Zc "once"
 Z1n:NoAttr K Zc "again"
 Z0p:NoAttr K Zc "past_once"
 Z0e:NoAttr K Zc "past_again"
 Z1o:NoAttr K Zc "bound"
 Z12:NoAttr K Zc "returns"
 Ze4:mg "CastError"=some (.ref Z6)
 Z9d:mg "Unknown"=some (.ref Z3)
 Zck:mg "TooWide"=some (.ref Z5)
 Zav:mg "NoNumber"=some (.ref Z9)
 Zaw:ExcC K Z9
 k_NoNumber:W.keepIn K (.ref Z9)=true
 Z6q:mg "TooMany"=some (.ref Z8)
 Zcl:ExcC K Z8
 k_TooMany:W.keepIn K (.ref Z8)=true
 Z9r:mg "NoRule"=some (.ref Zb)
 Zdq:ExcC K Zb
 k_NoRule:W.keepIn K (.ref Zb)=true
 Z9s:mg "Unlike"=some (.ref Za)
 Zdr:ExcC K Za
 k_Unlike:W.keepIn K (.ref Za)=true
 Z0f:ExcQ K Z3 Z6
 Zx:W.findIn K (.ref Z3) "name"=some none
 Zu:W.findIn K (.ref Z3) "place"=some none
 Z2w:ExcQ K Z5 Z6
 Z0k:W.findIn K (.ref Z5) "name"=some none
 Z0a:W.findIn K (.ref Z5) "place"=some none
 Z1y:W.exmOne K (.ref Z8) (.ref Z8)=some true
 Z1z:W.exmOne K (.ref Z3) (.ref Z8)=some false
 Z20:W.exmOne K (.ref Z3) (.ref Z3)=some true
 Z7k:W.exmOne K (.ref Z5) (.ref Z8)=some false
 Z7l:W.exmOne K (.ref Z5) (.ref Z3)=some false
 Z7m:W.exmOne K (.ref Z5) (.ref Z5)=some true
 Z7u:W.exmOne K (.ref Zb) (.ref Z8)=some false
 Z7v:W.exmOne K (.ref Zb) (.ref Z3)=some false
 Z7w:W.exmOne K (.ref Zb) (.ref Z5)=some false
 Z8f:W.exmOne K (.ref Zb) (.ref Zb)=some true
 Z7x:W.exmOne K (.ref Za) (.ref Z8)=some false
 Z7y:W.exmOne K (.ref Za) (.ref Z3)=some false
 Z7z:W.exmOne K (.ref Za) (.ref Z5)=some false
 Z8g:W.exmOne K (.ref Za) (.ref Zb)=some false
 Z8h:W.exmOne K (.ref Za) (.ref Za)=some true
 Z06:mg "len"=none
 Z0q:mg "isinstance"=none
 Z8i:mg "int"=none
 Z6r:mg "bool"=none
 Z8j:mg "str"=none
 Z4e:mg "list"=none
 Z7f:mg "tuple"=none
 Z8k:mg "all"=none
 Z13:mg "range"=none
 Z7g:mg "sum"=none
 Z0x:mg "enumerate"=none
 Z8l:mg "zip"=none
 Z8m:mg "max"=none
 Z9q:mg "min"=none
 Z4f:mg "sorted"=none
 Z6s:mg "dict"=none
 Z8n:mg "set"=none
 Z2x:∃t,mg "LETTERS"=some (.str "abcdefghijklmnopqrstuvwxyz" t)
 Z3y:∃t,mg "FIGURES"=some (.str "0123456789" t)
 Z1p:∃t,mg "MOST_SIGNS"=some (.int 8 t)
 Z1e:∃t,mg "MOST_THINGS"=some (.int 60 t)
 Z2a:∃t,mg "MOST_ROOM"=some (.int 1000 t)
 Z0c:∃t,mg "MOST_PLACES"=some (.int 1000000 t)
 Z1f:∃t,mg "MOST_ASKS"=some (.int 200 t)
 Z2b:∃t,mg "MOST_SUMS"=some (.int 200 t)
 Z2c:∃t,mg "MOST_TURN"=some (.int 200 t)
local macro_rules | `(tactic| walk_at "sc") => `(tactic| exact ⟨rfl, rfl, rfl, by decide +kernel, rfl, by decide +kernel, by decide +kernel⟩)
local macro_rules | `(tactic| walk_at "st") => `(tactic| simp only [st_c, st_n, st_e])
section
variable {P:Program} {w:World} {K:W.Frag} {mg:Str→Option Value} {base:Heap} {Z6 Z3 Z5 Z9 Z8 Zb Za Z7 Zg Ze Z4 Z2 Zd Z0 Z1 Zf Zc:Addr}
noncomputable abbrev Z6t:Stmt:=top 23
noncomputable abbrev Z6u:Stmt:=top 24
noncomputable abbrev Z5q:Stmt:=top 12
noncomputable abbrev Z50:Stmt:=top 13
noncomputable abbrev Z40:Stmt:=top 25
noncomputable abbrev Z4g:Stmt:=inClass (top 26) 0
noncomputable abbrev Z0l:Stmt:=inClass (top 7) 0
noncomputable abbrev Z0m:Stmt:=inClass (top 8) 0
noncomputable abbrev Z51:Stmt:=inClass (top 26) 2
noncomputable abbrev Z2f:Stmt:=inClass (top 26) 3
noncomputable abbrev Z2z:Stmt:=inClass (top 26) 6
noncomputable abbrev Z3i:Stmt:=top 16
noncomputable abbrev Z4h:Stmt:=top 29
noncomputable abbrev Z30:Stmt:=inClass (top 26) 5
noncomputable abbrev Z41:Stmt:=top 30
noncomputable abbrev Z3j:Stmt:=top 31
noncomputable abbrev Z52:Stmt:=inClass (top 34) 0
noncomputable abbrev Z5r:Stmt:=inClass (top 34) 1
noncomputable abbrev Z53:Stmt:=inClass (top 34) 2
noncomputable abbrev Z54:Stmt:=top 36
noncomputable abbrev Z5s:Stmt:=top 37
noncomputable abbrev Z55:Stmt:=top 38
noncomputable abbrev Z5t:Stmt:=top 39
noncomputable abbrev Z1g:Stmt:=inClass (top 47) 0
noncomputable abbrev Z0v:Stmt:=inClass (top 48) 0
noncomputable abbrev Z42:Stmt:=inClass (top 48) 0
noncomputable abbrev Z4i:Stmt:=inClass (top 50) 0
noncomputable abbrev Z0n:Stmt:=inClass (top 51) 0
noncomputable abbrev Z31:Stmt:=inClass (top 52) 0
noncomputable abbrev Z56:Stmt:=inClass (top 54) 0
noncomputable abbrev Z57:Stmt:=inClass (top 57) 0
noncomputable abbrev Z1i:Stmt:=inClass (top 48) 2
noncomputable abbrev Z3k:Stmt:=inClass (top 48) 1
noncomputable abbrev Z2g:Stmt:=inClass (top 48) 3
noncomputable abbrev Z43:Stmt:=inClass (top 48) 4
noncomputable abbrev Z32:Stmt:=inClass (top 51) 2
noncomputable abbrev Z16:Stmt:=inClass (top 48) 2
noncomputable abbrev Z2h:Stmt:=inClass (top 51) 4
noncomputable abbrev Z33:Stmt:=inClass (top 51) 3
noncomputable abbrev Z21:Stmt:=inClass (top 48) 3
noncomputable abbrev Z3l:Stmt:=inClass (top 51) 5
noncomputable abbrev Z14:Stmt:=inClass (top 48) 2
noncomputable abbrev Z1q:Stmt:=inClass (top 48) 3
noncomputable abbrev Z17:Stmt:=inClass (top 52) 2
noncomputable abbrev Z34:Stmt:=inClass (top 52) 3
noncomputable abbrev Z2i:Stmt:=inClass (top 48) 1
noncomputable abbrev Z4j:Stmt:=inClass (top 47) 1
noncomputable abbrev Z3m:Stmt:=inClass (top 47) 1
noncomputable abbrev Z3n:Stmt:=inClass (top 49) 0
noncomputable abbrev Z44:Stmt:=inClass (top 47) 1
noncomputable abbrev Z35:Stmt:=inClass (top 51) 1
noncomputable abbrev Z2j:Stmt:=inClass (top 52) 1
noncomputable abbrev Z4k:Stmt:=inClass (top 47) 1
noncomputable abbrev Z4l:Stmt:=inClass (top 47) 1
noncomputable abbrev Z4m:Stmt:=top 40
noncomputable abbrev Z5u:Stmt:=top 41
noncomputable abbrev Z36:Stmt:=top 42
noncomputable abbrev Z4n:Stmt:=top 43
noncomputable abbrev Z3o:Stmt:=top 44
noncomputable abbrev Z80:Stmt:=top 59
noncomputable abbrev Z6v:Stmt:=top 60
noncomputable abbrev Z58:Stmt:=top 61
noncomputable abbrev Z2k:Stmt:=top 62
noncomputable abbrev Z81:Stmt:=top 63
noncomputable abbrev Z94:Stmt:=top 64
noncomputable abbrev Z49:Stmt:=top 65
theorem Zax{f:Addr}{fd:FuncData}(F:Fun K "made_of" "made_of" Z6t f fd)(T:Txt K mg Z6 Z3 Z5 Z9 Z8 Zb Za Z7 Zg Ze Z4 Z2 Zd Z0 Z1 Zf Zc):FnOk P w K mg base (CXF P w) 1 f fd ["text","signs"] (sp_made):=by
 have sc:FnScope ["text","signs"] ["text","signs"] (defScope Z6t):=by walk_at "sc"
 refine F.okF sc (fun vs H Q E h=>?_) (fun cdv A outer s H vs Q E hr h=>?_)
 · obtain ⟨_,_,rfl,_⟩:=h;rfl
 obtain ⟨z,w,rfl,hz,q⟩:=h
 refine ⟨_,(@pss_one _ _ _ (@ps_ret _ _ _ _ (pe_callB (call_all rfl) rfl T.Z8k (by first | rfl | decide+kernel) (pa_cons (pe_comp1 "sign" [1] rfl rfl (pi_str (pv 0)) (fun b=>(pe_cmpR op_inS (pv 0) (pv 1) (by with_unfolding_all rfl)))) pa_nil)))),?_⟩
 walk_at "st"
 walk_at "go"
 refine compS_pure (fun c=>V.bl (decide (c∈w.cps.toList))) hz (fun b c H' Q' hc sm q'=>?_) fun D hD=>?_
 · walk_at "go"
   exact q'
 · refine ⟨_,rfl,z.cps.toList.map fun c=>decide (c∈w.cps.toList),?_,?_⟩
   · rw [List.map_map];exact SqL.of upd_same
   · rw [List.all_map];exact q _ (Same.new hD)
theorem Zay{f:Addr}{fd:FuncData}(F:Fun K "is_name" "is_name" Z6u f fd)(T:Txt K mg Z6 Z3 Z5 Z9 Z8 Zb Za Z7 Zg Ze Z4 Z2 Zd Z0 Z1 Zf Zc)(Z6w:Def P w K mg base (CXF P w) 1 "made_of" ["text","signs"] (sp_made)):FnOk P w K mg base (CXF P w) 2 f fd ["thing"] (sp_is_name K):=by
 have sc:FnScope ["thing"] ["thing"] (defScope Z6u):=by walk_at "sc"
 refine F.okF sc (fun vs H Q E h=>?_) (fun cdv A outer s H vs Q E hr h=>?_)
 · obtain ⟨_,rfl,_⟩:=h;rfl
 obtain ⟨x,rfl,hx⟩:=h
 refine ⟨_,(@pss_cons _ _ _ _ _ (ps_if (pt_not (pt_val (pe_callB call_isinst rfl T.Z0q (by first | rfl | decide+kernel) (pa_cons (pv 0) (pa_cons (pe_bltn (v:= .ty "str") rfl T.Z8j (by first | rfl | decide+kernel) rfl) pa_nil)))))
  (@pss_one _ _ _ (@ps_ret _ _ _ _ pe_bl))
  pss_nil)
  (@pss_cons _ _ _ _ _ (ps_if (PW.pt (pw_or (pt_cmpR op_lt (pe_callB call_len_str rfl T.Z06 PySem.boot_len (pa_cons (pv 0) pa_nil)) pe_int (nomark _)) (pw_or1 (pt_cmpR op_gt (pe_callB call_len_str rfl T.Z06 PySem.boot_len (pa_cons (pv 0) pa_nil)) (pe_gint rfl T.Z1p) (nomark _)))))
   (@pss_one _ _ _ (@ps_ret _ _ _ _ pe_bl))
   pss_nil)
  (@pss_one _ _ _ (@ps_ret _ _ _ _ (pe_and (pe_cmpR op_inS (@pe_ix _ _ _ _ _ _ _ ix_str (pv 0) pe_int (fun _ _=>rfl)) (pe_gstr rfl T.Z2x) (by with_unfolding_all rfl)) (pe_one (pe_callD Z6w hr rfl pass_onF (pa_cons (pv 0) (pa_cons (pe_op op_add_str (pe_gstr rfl T.Z2x) (pe_gstr rfl T.Z3y)) pa_nil))))))))),?_⟩
 walk_at "st"
 rcases hx with ⟨z,rfl,hz,q⟩ | ⟨hi,q⟩
 · walk_at "go"
   have hl:=str_len (z:=z)
   split
   · rename_i h1
     have e:nameB z.cps.toList=false:=by unfold nameB;rw [decide_eq_false (show ¬1≤z.cps.toList.length by omega)];rfl
     rw [e]at q;exact q _ (Same.refl H)
   · rename_i h1
     refine ⟨hz,?_⟩
     split
     · have e:nameB z.cps.toList=false:=by unfold nameB;rw [decide_eq_false (show ¬z.cps.toList.length≤8 by omega),Bool.and_false];rfl
       rw [e]at q;exact q _ (Same.refl H)
     · rename_i h2
       obtain ⟨c,r,hcr⟩:∃c r,z.cps.toList=c::r:=by
        cases h:z.cps.toList with
        | nil=>rw [h]at hl;simp at hl;omega
        | cons c r=>exact ⟨c,r,rfl⟩
       have hn:nameB z.cps.toList=(decide (c∈letters) && z.cps.toList.all fun c=>decide (c∈letters++figures)):=by
        unfold nameB;rw [decide_eq_true (show 1≤z.cps.toList.length by omega),decide_eq_true (show z.cps.toList.length≤8 by omega)];rw [hcr];rfl
       rw [hn]at q
       walk_at "go"
       refine ixS_of hz (by rw [hcr];exact at_0) ?_
       walk_at "go"
       rw [let_list]
       split
       · rename_i hc
         rw [decide_eq_true hc,Bool.true_and]at q
         walk_at "go"
         rw [app_list,let_list,fig_list]
         exact q
       · rename_i hc
         rw [decide_eq_false hc,Bool.false_and]at q
         exact q _ (Same.refl H)
 · walk_at "go"
   refine ⟨_,hi,?_⟩
   walk_at "go"
   exact q
theorem Za9{f:Addr}{fd:FuncData}(F:Fun K "is_whole" "is_whole" Z5q f fd)(T:Txt K mg Z6 Z3 Z5 Z9 Z8 Zb Za Z7 Zg Ze Z4 Z2 Zd Z0 Z1 Zf Zc):FnOk P w K mg base (CXF P w) 1 f fd ["thing"] (sp_is_whole K):=by
 have sc:FnScope ["thing"] ["thing"] (defScope Z5q):=by walk_at "sc"
 refine F.okF sc (fun vs H Q E h=>?_) (fun cdv A outer s H vs Q E hr h=>?_)
 · obtain ⟨_,_,_,rfl,_⟩:=h;rfl
 obtain ⟨x,b,c,rfl,h1,h2,q⟩:=h
 refine ⟨_,(@pss_one _ _ _ (@ps_ret _ _ _ _ (pe_and (pe_callB call_isinst rfl T.Z0q (by first | rfl | decide+kernel) (pa_cons (pv 0) (pa_cons (pe_bltn (v:= .ty "int") rfl T.Z8i (by first | rfl | decide+kernel) rfl) pa_nil))) (pe_one (pe_not (pe_callB call_isinst rfl T.Z0q (by first | rfl | decide+kernel) (pa_cons (pv 0) (pa_cons (pe_bltn (v:= .ty "bool") rfl T.Z6r (by first | rfl | decide+kernel) rfl) pa_nil)))))))),?_⟩
 walk_at "st"
 walk_at "go"
 refine ⟨_,h1,?_⟩
 cases b
 · walk_at "go"
   exact q
 · walk_at "go"
   refine ⟨_,h2 rfl,?_⟩
   walk_at "go"
   exact q
theorem Z9t{f:Addr}{fd:FuncData}(F:Fun K "is_within" "is_within" Z50 f fd)(T:Txt K mg Z6 Z3 Z5 Z9 Z8 Zb Za Z7 Zg Ze Z4 Z2 Zd Z0 Z1 Zf Zc)(Z5v:Def P w K mg base (CXF P w) 1 "is_whole" ["thing"] (sp_is_whole K)):FnOk P w K mg base (CXF P w) 2 f fd ["thing","least","most"] (N53.sp53_within K):=by
 have sc:FnScope ["thing","least","most"] ["thing","least","most"] (defScope Z50):=by walk_at "sc"
 refine F.okF sc (fun vs H Q E h=>?_) (fun cdv A outer s H vs Q E hr h=>?_)
 · obtain ⟨_,_,_,rfl,_⟩:=h;rfl
 obtain ⟨v,lo,hi,rfl,hv,q⟩:=h
 refine ⟨_,(@pss_one _ _ _ (@ps_ret _ _ _ _ (pe_and (pe_callD Z5v hr rfl pass_onF (pa_cons (pv 0) pa_nil)) (pe_one (pe_chain op_le op_le (pv 1) (pv 0) (pv 2)))))),?_⟩
 walk_at "st"
 obtain ⟨b,c,h1,h2,h3,h4⟩:=hv
 walk_at "go"
 refine ⟨b,h1,c,h2,?_⟩
 split
 · rename_i h
   obtain ⟨i,rfl⟩:=h3 h
   simp only [wIn]at q
   walk_at "go"
   split
   · rename_i h'
     rw [decide_eq_true h',Bool.true_and]at q;exact q
   · rename_i h'
     rw [decide_eq_false h',Bool.false_and]at q;exact q
 · rename_i h
   have e:wIn lo hi v=false:=by
    cases v with
    | int i=>exact absurd rfl (h4 (by simpa using h) i)
    | _=>rfl
   rw [e]at q;exact q
theorem Z95{f:Addr}{fd:FuncData}(F:Fun K "check_thing" "check_thing" Z40 f fd)(T:Txt K mg Z6 Z3 Z5 Z9 Z8 Zb Za Z7 Zg Ze Z4 Z2 Zd Z0 Z1 Zf Zc)(Z6x:Def P w K mg base (CXF P w) 2 "is_name" ["thing"] (sp_is_name K))(Zh:Def P w K mg base (CXF P w) 2 "is_within" ["thing","least","most"] (N53.sp53_within K)):FnOk P w K mg base (CXF P w) 3 f fd ["name","cost","room","earlier"] (sp_checkG K):=by
 have sc:FnScope ["name","cost","room","earlier"] ["name","cost","room","earlier"] (defScope Z40):=by walk_at "sc"
 refine F.okF sc (fun vs H Q E h=>?_) (fun cdv A outer s H vs Q E hr h=>?_)
 · obtain ⟨_,_,_,_,_,_,rfl,_⟩:=h;rfl
 obtain ⟨n,co,r,e,kvs,ks,rfl,he,hk,hrow,q⟩:=h
 refine ⟨_,(@pss_cons _ _ _ _ _ (ps_if (pt_not (pt_val (pe_callD Z6x hr rfl pass_onF (pa_cons (pv 0) pa_nil))))
  (@pss_one _ _ _ ps_never)
  pss_nil)
  (@pss_cons _ _ _ _ _ (ps_if (pt_cmp (pc_din (hu_of hr) (pv 0) (pv 3)))
   (@pss_one _ _ _ ps_never)
   pss_nil)
  (@pss_cons _ _ _ _ _ (ps_if (pt_not (pt_val (pe_callD Zh hr rfl pass_onF (pa_cons (pv 1) (pa_cons pe_int (pa_cons (pe_op op_pow pe_int pe_int) pa_nil))))))
   (@pss_one _ _ _ ps_never)
   pss_nil)
  (@pss_one _ _ _ (ps_if (pt_not (pt_val (pe_callD Zh hr rfl pass_onF (pa_cons (pv 2) (pa_cons pe_int (pa_cons (pe_gint rfl T.Z2a) pa_nil))))))
   (@pss_one _ _ _ ps_never)
   pss_nil))))),?_⟩
 walk_at "st"
 obtain ⟨z,c,w,rfl,rfl,rfl,nz,hb,h1,h2,h3,h4⟩:=rowR_none hrow
 have line:=line_val
 have hz8:=name_len hb
 walk_at "go"
 intro H1 sm1
 rw [hb]
 have he1:=sm1 _ _ he
 walk_at "go"
 refine ⟨_,DGet.k (k:=Sum.inr z) he1,?_⟩
 rw [key_mem hk,decide_eq_false nz]
 walk_at "go"
 refine ⟨N53.NumV.flat rfl,?_⟩
 split
 · rename_i h
   exact absurd h (by rw [wIn_ok h1 h2];decide)
 · walk_at "go"
   refine ⟨N53.NumV.flat rfl,?_⟩
   split
   · rename_i h
     exact absurd h (by rw [wIn_ok h3 h4];decide)
   · walk_at "go"
     exact q _ sm1
theorem Z9h{f:Addr}{fd:FuncData}(F:Fun K "__init__" "Stock.__init__" Z4g f fd)(T:Txt K mg Z6 Z3 Z5 Z9 Z8 Zb Za Z7 Zg Ze Z4 Z2 Zd Z0 Z1 Zf Zc)(Z45:Def P w K mg base (CXF P w) 3 "check_thing" ["name","cost","room","earlier"] (sp_checkG K)):FnOk P w K mg base (CXF P w) 4 f fd ["self","rows"] (sp_initG K Z7):=by
 have sc:FnScope ["self","rows","name","cost","room"] ["self","rows"] (defScope Z4g):=by walk_at "sc"
 refine F.okF sc (fun vs H Q E h=>?_) (fun cdv A outer s H vs Q E hr h=>?_)
 · obtain ⟨_,_,_,_,rfl,_⟩:=h;rfl
 obtain ⟨p,dx,ra,rs,rfl,hp,hrs,hall,er,q⟩:=h
 refine ⟨_,(@pss_cons _ _ _ _ _ (ps_if (pt_cmpR op_gt (pe_callB call_len_seq rfl T.Z06 PySem.boot_len (pa_cons (pv 1) pa_nil)) (pe_gint rfl T.Z1e) (nomark _))
  (@pss_one _ _ _ ps_never)
  pss_nil)
  (@pss_cons _ _ _ _ _ (ps_fld (pv 0) pe_dnewK rfl)
  (@pss_one _ _ _ (ps_for own_outF rfl (pi_list (pv 1)) (pg_tup rfl (pgs_cons (pg_name (i:=2) sc.nd rfl (Or.inl rfl)) (pgs_cons (pg_name (i:=3) sc.nd rfl (Or.inl rfl)) (pgs_cons (pg_name (i:=4) sc.nd rfl (Or.inl rfl)) pgs_nil))))
   (@pss_cons _ _ _ _ _ (ps_expr (pe_callD Z45 hr rfl pass_onF (pa_cons (pv 2) (pa_cons (pv 3) (pa_cons (pv 4) (pa_cons (pe_fld (pv 0) rfl) pa_nil))))))
   (@pss_one _ _ _ (ps_dput (hu_of hr) (pe_fld (pv 0) rfl) (pv 2) (pe_tup (pa_cons (pe_callB call_lenD rfl T.Z06 PySem.boot_len (pa_cons (pe_fld (pv 0) rfl) pa_nil)) (pa_cons (pv 3) (pa_cons (pv 4) pa_nil)))) rfl))))))),?_⟩
 walk_at "st"
 have line:=line_val
 obtain ⟨hl60,hstk⟩:=initR_none er
 walk_at "go"
 rw [List.length_map]
 split
 · rename_i h
   exact absurd h (by omega)
 · rename_i h
   walk_at "go"
   intro d hd
   have npd:p≠d:=ne_of_none hp hd
   walk_at "go"
   refine ⟨Z7,dx,[],by rw [upd_ne npd];exact hp,T.Zv,T.Zo,by decide,?_⟩
   have sb0:SameBut p H (upd (upd H d (.dK [])) p (.ins Z7 dx (flds d))):=fun b o e n=>by rw [upd_ne n,upd_ne (ne_of_none e hd)];exact e
   have hp0:upd (upd H d (.dK [])) p (.ins Z7 dx (flds d)) p=some (.ins Z7 dx (flds d)):=upd_same
   have hd0:upd (upd H d (.dK [])) p (.ins Z7 dx (flds d)) d=some (.dK []):=by rw [upd_ne npd.symm,upd_same]
   unfold flds at sb0 hp0 hd0
   generalize upd (upd H d (HO.dK [])) p (HO.ins Z7 dx (putF (Str.ofString "things") (V.ref d) []))=H0 at sb0 hp0 hd0 ⊢
   walk_at "go"
   refine ⟨⟨_,SqL.but sb0 hp hrs⟩,?_⟩
   refine forL_by (xs:=rs.map fun t=>V.ref t.1) (fun i σ H'=>∃v1 v2 v3,σ=[some (V.ref p),some (V.ref ra),v1,v2,v3]∧SameBut p H H'∧H' p=some (.ins Z7 dx (flds d))∧MidAt K H' d (rs.take i)∧stockR (nmsOf (rs.take i)) (rs.drop i)=none) ⟨none,none,none,rfl,sb0,hp0,⟨[],hd0,rfl,fun j t e=>by simp at e⟩,by rw [List.take_zero,List.drop_zero];exact hstk⟩ (fun i σ H' _ h_=>by obtain ⟨v1,v2,v3,_,sb,_⟩:=h_;exact SqL.but sb hp hrs) ?_ ?_
   · rintro i x σ H' hx ⟨v1,v2,v3,rfl,sb,hp',⟨kvs,hd',hk,hm⟩,hst⟩
     rw [List.getElem?_map]at hx
     cases ht:rs[i]? with
     | none=>rw [ht]at hx;cases hx
     | some t=>
      rw [ht]at hx
      simp only [Option.map_some,Option.some.injEq]at hx
      subst hx
      have hi:i < rs.length:=(List.getElem?_eq_some_iff.mp ht).1
      have r1:=SqT.but sb hp (hall t (List.mem_of_getElem? ht))
      rw [stockR_step ht]at hst
      have hkl:kvs.length=i:=by
       have:=congrArg List.length hk
       simp [nmsOf]at this;omega
      cases hrow:rowR (nmsOf (rs.take i)) t.2.1 t.2.2.1 t.2.2.2 with
      | some e=>rw [hrow]at hst;cases hst
      | none=>
       rw [hrow]at hst
       obtain ⟨z,c,q',e1,e2,e3,nz,hb,_⟩:=rowR_none hrow
       walk_at "go"
       refine ⟨_,r1,rfl,?_⟩
       walk_at "go"
       refine ⟨Z7,dx,flds d,hp',T.Zv,T.Zo,_,flds_things,d,rfl,kvs,hd',_,hk,hrow,fun H1 sm1=>?_⟩
       rw [e1,e2,e3]
       have hp1:=sm1 _ _ hp'
       have hd1:=sm1 _ _ hd'
       walk_at "go"
       refine ⟨Z7,dx,flds d,hp1,T.Zv,T.Zo,_,flds_things,?_⟩
       walk_at "go"
       refine ⟨kvs,hd1,by omega,fun t2 ht2=>?_⟩
       have np2:p≠t2:=ne_of_none hp1 ht2
       have nd2:d≠t2:=ne_of_none hd1 ht2
       have hd2:upd H1 t2 (.tup [.int kvs.length,.int c,.int q']) d=some (.dK kvs):=by rw [upd_ne nd2];exact hd1
       refine ⟨Z7,dx,flds d,by rw [upd_ne np2];exact hp1,T.Zv,T.Zo,_,flds_things,d,rfl,_,DPut.k (k:=Sum.inr z) hd2 (by omega),?_,?_,?_,?_⟩
       · intro b o eb nb
         have h1:=sm1 _ _ (sb b o eb nb)
         rw [upd_ne (ne_of_none eb hd),upd_ne (ne_of_none h1 ht2)]
         exact h1
       · rw [upd_ne npd,upd_ne np2];exact hp1
       · rw [List.take_add_one,ht]
         refine MidAt.snoc hd2 hk (fun j t' e=>?_) e1 e2 e3 nz upd_same
         obtain ⟨a,q1,q2⟩:=hm j t' e
         exact ⟨a,q1,(sm1.trans (Same.new ht2)).tup q2⟩
       · rw [List.take_add_one,ht]
         have e:nmsOf (rs.take kvs.length++(some t).toList)=nmsOf (rs.take kvs.length)++[sOf t.2.1]:=by unfold nmsOf;simp
         rw [e];exact hst
   · rintro σ H' ⟨v1,v2,v3,rfl,sb,hp',⟨kvs,hd',hk,hm⟩,hst⟩
     simp only [List.length_map,List.take_length,List.drop_length]at hk hm hst
     show Q V.non H'
     refine q _ sb ⟨dx,d,kvs,hp',hd',?_,fun i t ht=>?_⟩
     · rw [hk];unfold nmsOf;rw [List.map_map,List.map_map];rfl
     · rw [List.getElem?_map]at ht
       cases hr:rs[i]? with
       | none=>rw [hr]at ht;cases ht
       | some t'=>
        rw [hr]at ht
        simp only [Option.map_some,Option.some.injEq]at ht
        subst ht
        exact hm i t' hr
theorem Z8o{f:Addr}{fd:FuncData}(F:Fun K "__init__" "Unknown.__init__" Z0l f fd)(T:Txt K mg Z6 Z3 Z5 Z9 Z8 Zb Za Z7 Zg Ze Z4 Z2 Zd Z0 Z1 Zf Zc):FnOk P w K mg base (CXF P w) 1 f fd ["self","name","place"] (sp_unk Z3):=by
 have sc:FnScope ["self","name","place"] ["self","name","place"] (defScope Z0l):=by walk_at "sc"
 refine F.okF sc (fun vs H Q E h=>?_) (fun cdv A outer s H vs Q E hr h=>?_)
 · obtain ⟨_,_,_,_,rfl,_⟩:=h;rfl
 obtain ⟨x,n,p,nw,rfl,hx,q⟩:=h
 refine ⟨_,(@pss_cons _ _ _ _ _ (ps_fldX rfl (pv 0) (pv 1) rfl)
  (@pss_one _ _ _ (ps_fldX rfl (pv 0) (pv 2) rfl))),?_⟩
 walk_at "st"
 walk_at "go"
 refine ⟨nw,Z3,Z6,T.Z0f,T.Zx,.inl ⟨hx,fun dx hd=>?_⟩⟩
 have nd:x≠dx:=ne_of_none hx hd
 walk_at "go"
 refine ⟨nw,Z3,Z6,T.Z0f,T.Zu,.inr ⟨dx,by rw [upd_ne nd,upd_same],_,upd_same,by simp [putF],?_⟩⟩
 walk_at "go"
 exact q dx hd
theorem Z8p{f:Addr}{fd:FuncData}(F:Fun K "__init__" "TooWide.__init__" Z0m f fd)(T:Txt K mg Z6 Z3 Z5 Z9 Z8 Zb Za Z7 Zg Ze Z4 Z2 Zd Z0 Z1 Zf Zc):FnOk P w K mg base (CXF P w) 1 f fd ["self","name","place"] (sp_unk Z5):=by
 have sc:FnScope ["self","name","place"] ["self","name","place"] (defScope Z0m):=by walk_at "sc"
 refine F.okF sc (fun vs H Q E h=>?_) (fun cdv A outer s H vs Q E hr h=>?_)
 · obtain ⟨_,_,_,_,rfl,_⟩:=h;rfl
 obtain ⟨x,n,p,nw,rfl,hx,q⟩:=h
 refine ⟨_,(@pss_cons _ _ _ _ _ (ps_fldX rfl (pv 0) (pv 1) rfl)
  (@pss_one _ _ _ (ps_fldX rfl (pv 0) (pv 2) rfl))),?_⟩
 walk_at "st"
 walk_at "go"
 refine ⟨nw,Z5,Z6,T.Z2w,T.Z0k,.inl ⟨hx,fun dx hd=>?_⟩⟩
 have nd:x≠dx:=ne_of_none hx hd
 walk_at "go"
 refine ⟨nw,Z5,Z6,T.Z2w,T.Z0a,.inr ⟨dx,by rw [upd_ne nd,upd_same],_,upd_same,by simp [putF],?_⟩⟩
 walk_at "go"
 exact q dx hd
theorem Z9u{f:Addr}{fd:FuncData}(F:Fun K "has" "Stock.has" Z51 f fd)(T:Txt K mg Z6 Z3 Z5 Z9 Z8 Zb Za Z7 Zg Ze Z4 Z2 Zd Z0 Z1 Zf Zc):FnOk P w K mg base (CXF P w) 1 f fd ["self","name"] (sp_has K Z7):=by
 have sc:FnScope ["self","name"] ["self","name"] (defScope Z51):=by walk_at "sc"
 refine F.okF sc (fun vs H Q E h=>?_) (fun cdv A outer s H vs Q E hr h=>?_)
 · obtain ⟨_,_,_,rfl,_⟩:=h;rfl
 obtain ⟨p,ts,z,rfl,hs,q⟩:=h
 refine ⟨_,(@pss_one _ _ _ (@ps_ret _ _ _ _ (pe_cmp (pc_din (hu_of hr) (pv 1) (pe_fld (pv 0) rfl))))),?_⟩
 walk_at "st"
 obtain ⟨dx,d,kvs,h1,h2,h3,h4,h5⟩:=StockAt.has hs
 walk_at "go"
 refine ⟨Z7,dx,flds d,h1,T.Zv,T.Zo,_,flds_things,d,rfl,_,DGet.k (k:=Sum.inr z) h2,?_⟩
 rw [h4]
 exact q
theorem Z7n{f:Addr}{fd:FuncData}(F:Fun K "thing_of" "Stock.thing_of" Z2f f fd)(T:Txt K mg Z6 Z3 Z5 Z9 Z8 Zb Za Z7 Zg Ze Z4 Z2 Zd Z0 Z1 Zf Zc):FnOk P w K mg base (CXF P w) 1 f fd ["self","name"] (sp32_thing K Z7):=by
 have sc:FnScope ["self","name"] ["self","name"] (defScope Z2f):=by walk_at "sc"
 refine F.okF sc (fun vs H Q E h=>?_) (fun cdv A outer s H vs Q E hr h=>?_)
 · obtain ⟨_,_,_,rfl,_⟩:=h;rfl
 obtain ⟨p,ts,z,rfl,hs,nd,hz,q⟩:=h
 refine ⟨_,(@pss_cons _ _ _ _ _ (ps_if (pt_cmp (pc_dnotin (hu_of hr) (pv 1) (pe_fld (pv 0) rfl)))
  (@pss_one _ _ _ ps_never)
  pss_nil)
  (@pss_one _ _ _ (@ps_ret _ _ _ _ (pe_dget (hu_of hr) (pe_fld (pv 0) rfl) (pv 1) (fun _ _=>rfl))))),?_⟩
 walk_at "st"
 obtain ⟨dx,d,kvs,h1,h2,h3,h4,h5⟩:=StockAt.has hs
 have line:=line_val
 walk_at "go"
 refine ⟨Z7,dx,flds d,h1,T.Zv,T.Zo,_,flds_things,d,rfl,_,DGet.k (k:=Sum.inr z) h2,?_⟩
 rw [h4,decide_eq_true hz]
 obtain ⟨i,t,ht,rfl⟩:=mem_nth hz
 obtain ⟨a,e1,e2⟩:=h5 nd i t ht
 walk_at "go"
 refine ⟨Z7,dx,flds d,h1,T.Zv,T.Zo,_,flds_things,?_⟩
 walk_at "go"
 refine ⟨V.ref a,by rw [← e1];exact DGet.k (k:=Sum.inr t.1) h2,?_⟩
 exact q i t ht rfl a e2
theorem Z82{f:Addr}{fd:FuncData}(F:Fun K "room_of" "Stock.room_of" Z2z f fd)(T:Txt K mg Z6 Z3 Z5 Z9 Z8 Zb Za Z7 Zg Ze Z4 Z2 Zd Z0 Z1 Zf Zc)(Z05:DefM P w K mg base (CXF P w) 1 Z7 "thing_of" ["self","name"] (sp32_thing K Z7)):FnOk P w K mg base (CXF P w) 2 f fd ["self","name"] (sp32_room K Z7):=by
 have sc:FnScope ["self","name"] ["self","name"] (defScope Z2z):=by walk_at "sc"
 refine F.okF sc (fun vs H Q E h=>?_) (fun cdv A outer s H vs Q E hr h=>?_)
 · obtain ⟨_,_,_,rfl,_⟩:=h;rfl
 obtain ⟨p,ts,z,rfl,hs,nd,hz,q⟩:=h
 refine ⟨_,(@pss_one _ _ _ (@ps_ret _ _ _ _ (@pe_ix _ _ _ _ _ _ _ ix_tup (pe_methS Z05 T.Zv hr (passS pass_onF) (pv 0) (pa_cons (pv 1) pa_nil)) pe_int (fun _ _=>rfl)))),?_⟩
 walk_at "st"
 obtain ⟨dx,d,kvs,h1,h2,h3,h4,h5⟩:=StockAt.has hs
 walk_at "go"
 refine ⟨dx,flds d,h1,by rfl,?_⟩
 walk_at "go"
 refine ⟨ts,hs,nd,hz,fun i t ht e a ha=>?_⟩
 subst e
 refine ixT_of ha rfl ?_
 rw [rm_at nd ht]at q
 exact q
theorem Z8q{f:Addr}{fd:FuncData}(F:Fun K "check_places" "check_places" Z3i f fd)(T:Txt K mg Z6 Z3 Z5 Z9 Z8 Zb Za Z7 Zg Ze Z4 Z2 Zd Z0 Z1 Zf Zc)(Zh:Def P w K mg base (CXF P w) 2 "is_within" ["thing","least","most"] (N53.sp53_within K)):FnOk P w K mg base (CXF P w) 3 f fd ["places"] (sp13_check K Z9):=by
 have sc:FnScope ["places"] ["places"] (defScope Z3i):=by walk_at "sc"
 refine F.okF sc (fun vs H Q E h=>?_) (fun cdv A outer s H vs Q E hr h=>?_)
 · obtain ⟨_,rfl,_⟩:=h;rfl
 obtain ⟨v,rfl,hv,q,qe⟩:=h
 refine ⟨_,(@pss_one _ _ _ (ps_if (pt_not (pt_val (pe_callD Zh hr rfl pass_onF (pa_cons (pv 0) (pa_cons pe_int (pa_cons (pe_gint rfl T.Z0c) pa_nil))))))
  (@pss_one _ _ _ (ps_raiseF T.Zaw rfl T.k_NoNumber rfl rfl T.Zav raisesF (pa_cons (pe_fstr (pj_cons pe_str (pj_cons (pe_fmt (pe_gint rfl T.Z0c)) pj_nil))) pa_nil)))
  pss_nil)),?_⟩
 walk_at "st"
 have line:=line_val
 walk_at "go"
 split
 · rename_i h
   have l1:(Str.ofString "the places of a shelf are not a whole number from 1 to ").length≤100:=by decide+kernel
   have l2:(Str.ofString (toString (1000000:Int))).length≤100:=by decide+kernel
   have l0:=len_empty
   refine ⟨by rw [len_app];omega,by decide,by rw [len_app,len_app];omega,by rw [len_app,len_app];omega,by omega,fun x hx=>⟨hx,qe h _ x (Same.new hx) hx upd_same⟩⟩
 · rename_i h
   exact q (by simpa using h)
theorem Z9i{f:Addr}{fd:FuncData}(F:Fun K "check_asks" "check_asks" Z4h f fd)(T:Txt K mg Z6 Z3 Z5 Z9 Z8 Zb Za Z7 Zg Ze Z4 Z2 Zd Z0 Z1 Zf Zc)(Zy:Def P w K mg base (CXF P w) 3 "check_places" ["places"] (sp13_check K Z9))(Z59:DefM P w K mg base (CXF P w) 1 Z7 "has" ["self","name"] (sp_has K Z7))(Zl:DefM P w K mg base (CXF P w) 2 Z7 "room_of" ["self","name"] (sp32_room K Z7))(Z3p:DefX P w K mg base (CXF P w) 1 "Unknown" Z3 ["self","name","place"] (sp_unk Z3))(Z3q:DefX P w K mg base (CXF P w) 1 "TooWide" Z5 ["self","name","place"] (sp_unk Z5)):FnOk P w K mg base (CXF P w) 5 f fd ["stock","asks","places"] (sp13_asks K Z7 Z9 Z8 Z3 Z5):=by
 have sc:FnScope ["stock","asks","places","number","name"] ["stock","asks","places"] (defScope Z4h):=by walk_at "sc"
 refine F.okF sc (fun vs H Q E h=>?_) (fun cdv A outer s H vs Q E hr h=>?_)
 · obtain ⟨_,_,_,_,_,rfl,_⟩:=h;rfl
 obtain ⟨p,a,v,ts,ys,rfl,hs,nd,hS,hl,hv,q,qn,qm,qu,qw⟩:=h
 refine ⟨_,(@pss_cons _ _ _ _ _ (ps_expr (pe_callD Zy hr rfl pass_onF (pa_cons (pv 2) pa_nil)))
  (@pss_cons _ _ _ _ _ (ps_if (pt_cmpR op_gt (pe_callB call_len_seq rfl T.Z06 PySem.boot_len (pa_cons (pv 1) pa_nil)) (pe_gint rfl T.Z1f) (nomark _))
   (@pss_one _ _ _ (ps_raiseF T.Zcl rfl T.k_TooMany rfl rfl T.Z6q raisesF (pa_cons (pe_fstr (pj_cons pe_str (pj_cons (pe_fmt (pe_gint rfl T.Z1f)) (pj_cons pe_str pj_nil)))) pa_nil)))
   pss_nil)
  (@pss_cons _ _ _ _ _ (ps_for own_outF rfl (pi_enum rfl T.Z0x (pa_cons (pv 1) pa_nil)) (pg_tup rfl (pgs_cons (pg_name (i:=3) sc.nd rfl (Or.inl rfl)) (pgs_cons (pg_name (i:=4) sc.nd rfl (Or.inl rfl)) pgs_nil)))
   (@pss_cons _ _ _ _ _ (ps_if (pt_not (pt_val (pe_methS Z59 T.Zv hr (passS pass_onF) (pv 0) (pa_cons (pv 4) pa_nil))))
    (@pss_one _ _ _ (ps_raiseI Z3p rfl hr rfl rfl (passS pass_onF) raisesF (pa_cons (pv 4) (pa_cons (pv 3) pa_nil))))
    pss_nil)
   (@pss_one _ _ _ (ps_if (pt_cmpR op_gt (pe_methS Zl T.Zv hr (passS pass_onF) (pv 0) (pa_cons (pv 4) pa_nil)) (pv 2) (nomark _))
    (@pss_one _ _ _ (ps_raiseI Z3q rfl hr rfl rfl (passS pass_onF) raisesF (pa_cons (pv 4) (pa_cons (pv 3) pa_nil))))
    pss_nil))))
  (@pss_one _ _ _ (@ps_ret _ _ _ _ pe_bl))))),?_⟩
 walk_at "st"
 have line:=line_val
 obtain ⟨dx,d,kvs,h1,h2,h3,h4,h5⟩:=StockAt.has hs
 walk_at "go"
 refine ⟨fun hw=>?_,fun hw H' y sm hy er=>qn (by unfold askD;rw [if_neg (by rw [hw];decide)]) H' y sm hy er⟩
 obtain ⟨n,rfl,hn1,hn2⟩:=N53.wIn_one hw
 walk_at "go"
 rw [List.length_map]
 split
 · rename_i hm
   have e:askD ts (.int n) ys=(Str.ofString "many",none):=by unfold askD;rw [if_pos hw,if_pos (by omega)]
   have l1:(Str.ofString "a row has at most ").length≤100:=by decide+kernel
   have l3:(Str.ofString " asks").length≤100:=by decide+kernel
   have l2:(Str.ofString (toString (200:Int))).length≤100:=by decide+kernel
   have l0:=len_empty
   refine ⟨by rw [len_app];omega,by decide,by rw [len_app,len_app];omega,by rw [len_app,len_app,len_app];omega,by rw [len_app,len_app,len_app];omega,by omega,fun x hx=>⟨hx,qm e _ x (Same.new hx) hx upd_same⟩⟩
 · rename_i hm
   have e0:∀r,(match bad ts n ys 0 with | some (true,z,i)=>(Str.ofString "unknown",some (z,i)) | some (false,z,i)=>(Str.ofString "wide",some (z,i)) | none=>(Str.ofString "fine",none))=r→askD ts (.int n) ys=r:=fun r h=>by unfold askD;rw [if_pos hw,if_neg (by omega)];exact h
   walk_at "go"
   refine ⟨⟨_,hS⟩,?_⟩
   rename_i rest hrest
   refine forE_by (xs:=ys.map V.str) (fun i σ H'=>∃(v3 v4:Option V),σ=[some (V.ref p),some (V.ref a),some (V.int n),v3,v4]∧Same H H'∧bad ts n ys 0=bad ts n (ys.drop i) i) ⟨none,none,rfl,Same.refl _,by rw [List.drop_zero]⟩ (fun i σ H' _ h_=>by obtain ⟨v3,v4,_,sm,_⟩:=h_;exact sm.seq hS) ?_ ?_
   · rintro i x σ H' t hx ⟨v3,v4,rfl,sm,hbd⟩ ht
     rw [List.getElem?_map]at hx
     cases hy:ys[i]? with
     | none=>rw [hy]at hx;cases hx
     | some y=>
      rw [hy]at hx
      cases hx
      rw [bad_step hy]at hbd
      walk_at "go"
      refine ⟨_,SqT.of upd_same,rfl,_,_,rfl,_,_,rfl,rfl,?_⟩
      have sm2:=sm.trans (Same.new (o:= .tup [.int i,.str y]) ht)
      generalize upd H' t (.tup [.int i,.str y])=H2 at sm2 ⊢
      clear sm ht
      have hs2:=hs.same sm2
      have hp2:=sm2 _ _ h1
      have noneH:∀b,H2 b=none→H b=none:=fun b e=>by
       cases q:H b with
       | none=>rfl
       | some o=>rw [sm2 _ _ q]at e;cases e
      walk_at "go"
      refine ⟨dx,flds d,hp2,by rfl,ts,hs2,?_⟩
      by_cases hin:y∈ts.map (·.1)
      · rw [if_neg (by simpa using hin)]
        rw [if_pos hin]at hbd
        walk_at "go"
        refine ⟨dx,flds d,hp2,by rfl,ts,hs2,nd,hin,?_⟩
        rw [← rm_rmOf]at hbd
        split
        · rename_i hwd
          rw [if_pos hwd]at hbd
          walk_at "go"
          intro x hx
          refine ⟨true,upd_same,fun dx' hd'=>?_⟩
          have n1:x≠dx':=fun e=>by rw [e,upd_same]at hd';cases hd'
          have hd2:H2 dx'=none:=by rw [upd_ne n1.symm]at hd';exact hd'
          walk_at "go"
          refine ⟨some dx',by rw [upd_ne n1,upd_same],noneH x hx,?_⟩
          refine qw y i (e0 _ (by rw [hbd])) _ x (fun b o e=>?_) (noneH x hx) ⟨dx',upd_same,by rw [upd_ne n1.symm,upd_same]⟩
          have e:=sm2 _ _ e
          rw [upd_ne (ne_of_none e hx),upd_ne (ne_of_none e hd2),upd_ne (ne_of_none e hx)]
          exact e
        · rename_i hwd
          rw [if_neg hwd]at hbd
          walk_at "go"
          exact hbd
      · rw [if_pos (by simpa using hin)]
        rw [if_neg hin]at hbd
        walk_at "go"
        intro x hx
        refine ⟨true,upd_same,fun dx' hd'=>?_⟩
        have n1:x≠dx':=fun e=>by rw [e,upd_same]at hd';cases hd'
        have hd2:H2 dx'=none:=by rw [upd_ne n1.symm]at hd';exact hd'
        walk_at "go"
        refine ⟨some dx',by rw [upd_ne n1,upd_same],noneH x hx,?_⟩
        refine qu y i (e0 _ (by rw [hbd])) _ x (fun b o e=>?_) (noneH x hx) ⟨dx',upd_same,by rw [upd_ne n1.symm,upd_same]⟩
        have e:=sm2 _ _ e
        rw [upd_ne (ne_of_none e hx),upd_ne (ne_of_none e hd2),upd_ne (ne_of_none e hx)]
        exact e
   · rintro σ H' ⟨v3,v4,rfl,sm,hbd⟩
     rw [List.length_map,List.drop_length]at hbd
     walk_at "go"
     exact q (e0 _ (by rw [hbd];rfl)) _ sm
theorem Z83{f:Addr}{fd:FuncData}(F:Fun K "cost_of" "Stock.cost_of" Z30 f fd)(T:Txt K mg Z6 Z3 Z5 Z9 Z8 Zb Za Z7 Zg Ze Z4 Z2 Zd Z0 Z1 Zf Zc)(Z05:DefM P w K mg base (CXF P w) 1 Z7 "thing_of" ["self","name"] (sp32_thing K Z7)):FnOk P w K mg base (CXF P w) 2 f fd ["self","name"] (sp41_cost K Z7):=by
 have sc:FnScope ["self","name"] ["self","name"] (defScope Z30):=by walk_at "sc"
 refine F.okF sc (fun vs H Q E h=>?_) (fun cdv A outer s H vs Q E hr h=>?_)
 · obtain ⟨_,_,_,rfl,_⟩:=h;rfl
 obtain ⟨p,ts,z,rfl,hs,nd,hz,q⟩:=h
 refine ⟨_,(@pss_one _ _ _ (@ps_ret _ _ _ _ (@pe_ix _ _ _ _ _ _ _ ix_tup (pe_methS Z05 T.Zv hr (passS pass_onF) (pv 0) (pa_cons (pv 1) pa_nil)) pe_int (fun _ _=>rfl)))),?_⟩
 walk_at "st"
 obtain ⟨dx,d,kvs,h1,h2,h3,h4,h5⟩:=StockAt.has hs
 walk_at "go"
 refine ⟨dx,flds d,h1,by rfl,?_⟩
 walk_at "go"
 refine ⟨ts,hs,nd,hz,fun i t ht e a ha=>?_⟩
 subst e
 refine ixT_of ha rfl ?_
 rw [cst_at nd ht]at q
 exact q
theorem Z96{f:Addr}{fd:FuncData}(F:Fun K "check_rooms" "check_rooms" Z41 f fd)(T:Txt K mg Z6 Z3 Z5 Z9 Z8 Zb Za Z7 Zg Ze Z4 Z2 Zd Z0 Z1 Zf Zc)(Zl:DefM P w K mg base (CXF P w) 2 Z7 "room_of" ["self","name"] (sp32_room K Z7)):FnOk P w K mg base (CXF P w) 5 f fd ["stock","asks"] (sp38_rooms K Z7 Za):=by
 have sc:FnScope ["stock","asks","name"] ["stock","asks"] (defScope Z41):=by walk_at "sc"
 refine F.okF sc (fun vs H Q E h=>?_) (fun cdv A outer s H vs Q E hr h=>?_)
 · obtain ⟨_,_,_,_,rfl,_⟩:=h;rfl
 obtain ⟨p,a,ts,ys,rfl,hs,nd,hS,hy,hl,hyl,q,qe⟩:=h
 refine ⟨_,(@pss_one _ _ _ (ps_for own_outF rfl (pi_list (pv 1)) (pg_name (i:=2) sc.nd rfl (Or.inl rfl))
  (@pss_one _ _ _ (ps_if (pt_cmpR op_ne (pe_methS Zl T.Zv hr (passS pass_onF) (pv 0) (pa_cons (pv 2) pa_nil)) pe_int (nomark _))
   (@pss_one _ _ _ (ps_raiseF T.Zdr rfl T.k_Unlike rfl rfl T.Z9s raisesF (pa_cons (pe_fstr (pj_cons (pe_fmt (pv 2)) (pj_cons pe_str pj_nil))) pa_nil)))
   pss_nil)))),?_⟩
 walk_at "st"
 have line:=line_val
 obtain ⟨dy,e,kvs,h1,h2,h3,h4,h5⟩:=StockAt.has hs
 have l0:=len_empty
 have l1:(Str.ofString " has another room than 1").length≤100:=by decide+kernel
 walk_at "go"
 refine ⟨⟨_,hS⟩,?_⟩
 refine forL_by (xs:=ys.map V.str) (fun i σ H'=>∃(v2:Option V),σ=[some (V.ref p),some (V.ref a),v2]∧H'=H∧∀j,j < i→∀y,ys[j]?=some y→rm ts y=1) ⟨none,rfl,rfl,fun j hj=>absurd hj (Nat.not_lt_zero _)⟩ (fun i σ H' _ h_=>by obtain ⟨v1,_,rfl,_⟩:=h_;exact hS) ?_ ?_
 · rintro i v σ H' hv ⟨v1,rfl,rfl,hall⟩
   rw [List.getElem?_map]at hv
   cases hyy:ys[i]? with
   | none=>rw [hyy]at hv;cases hv
   | some y=>
   rw [hyy]at hv
   cases hv
   have hym:=List.mem_of_getElem? hyy
   have hyl':=hyl y hym
   walk_at "go"
   refine ⟨dy,flds e,h1,by rfl,ts,hs,nd,hy y hym,?_⟩
   by_cases c:rm ts y=1
   · rw [if_neg (fun h=>h c)]
     intro j2 hj2 y2 hy2
     by_cases e2:j2=i
     · rw [e2,hyy]at hy2;cases hy2;exact c
     · exact hall j2 (by omega) y2 hy2
   · rw [if_pos c]
     have qe':=qe fun h=>c (h y hym)
     have a1:(Str.empty++y).length≤200:=by rw [len_app];omega
     have a2:(Str.empty++y++Str.ofString " has another room than 1").length≤400:=by rw [len_app];omega
     exact ⟨by omega,by omega,by omega,by omega,by omega,fun x hx=>⟨hx,qe' _ x (Same.new hx) hx upd_same⟩⟩
 · rintro σ H' ⟨v1,rfl,rfl,hall⟩
   walk_at "go"
   exact q fun y hy'=>by
    obtain ⟨j,hj⟩:=List.mem_iff_getElem?.mp hy'
    exact hall j (by rw [List.length_map];exact (List.getElem?_eq_some_iff.mp hj).1) y hj
theorem Z8r{f:Addr}{fd:FuncData}(F:Fun K "earlier_asks" "earlier_asks" Z3j f fd)(T:Txt K mg Z6 Z3 Z5 Z9 Z8 Zb Za Z7 Zg Ze Z4 Z2 Zd Z0 Z1 Zf Zc):FnOk P w K mg base (CXF P w) 1 f fd ["asks"] (sp32_early K):=by
 have sc:FnScope ["asks","last","told","number","name"] ["asks"] (defScope Z3j):=by walk_at "sc"
 refine F.okF sc (fun vs H Q E h=>?_) (fun cdv A outer s H vs Q E hr h=>?_)
 · obtain ⟨_,_,rfl,_⟩:=h;rfl
 obtain ⟨a,ys,rfl,hS,hl,q⟩:=h
 refine ⟨_,(@pss_cons _ _ _ _ _ (ps_set (i:=1) sc.nd rfl (Or.inl rfl) pe_dnewK)
  (@pss_cons _ _ _ _ _ (ps_set (i:=2) sc.nd rfl (Or.inl rfl) (@pe_lst _ _ _ _ pa_nil))
  (@pss_cons _ _ _ _ _ (ps_for own_outF rfl (pi_enum rfl T.Z0x (pa_cons (pv 0) pa_nil)) (pg_tup rfl (pgs_cons (pg_name (i:=3) sc.nd rfl (Or.inl rfl)) (pgs_cons (pg_name (i:=4) sc.nd rfl (Or.inl rfl)) pgs_nil)))
   (@pss_cons _ _ _ _ _ (ps_expr (pe_bm PySem.F.plainAttrs_list PySem.F.slot_list_append PySem.F.type_list_append mt_append (pv 2) (pa_cons (pe_dget1 (hu_of hr) (pv 1) (pv 4) ⟨rfl,rfl,rfl,rfl⟩) pa_nil)))
   (@pss_one _ _ _ (ps_dput (hu_of hr) (pv 1) (pv 4) (pv 3) rfl))))
  (@pss_one _ _ _ (@ps_ret _ _ _ _ (pv 2)))))),?_⟩
 walk_at "st"
 have line:=line_val
 walk_at "go"
 intro d hd
 walk_at "go"
 intro p hp
 walk_at "go"
 have ndp:d≠p:=ne_of_none upd_same hp
 have sm0:Same H (upd (upd H d (.dK [])) p (.lst [])):=(Same.new hd).trans (Same.new hp)
 have hd0:upd (upd H d (.dK [])) p (.lst []) d=some (.dK []):=by rw [upd_ne ndp];exact upd_same
 have hp0:upd (upd H d (.dK [])) p (.lst []) p=some (.lst []):=upd_same
 have hpH:=none_of (Same.new hd) hp
 generalize upd (upd H d (.dK [])) p (.lst [])=H1 at sm0 hd0 hp0 ⊢
 clear hp
 refine ⟨⟨_,sm0.seq hS⟩,?_⟩
 rename_i rest hrest
 refine forE_by (xs:=ys.map V.str) (fun i σ H'=>∃(kvs:List (Key×V)) (v3 v4:Option V),σ=[some (V.ref a),some (V.ref d),some (V.ref p),v3,v4]∧Same H H'∧H' d=some (.dK kvs)∧kvs.length≤i∧(∀z,valV kvs (Sum.inr z)=(lastIx ys z i).map fun j=>V.int (j:Int))∧H' p=some (.lst ((List.range i).map (earV ys))))
  ⟨[],none,none,rfl,sm0,hd0,Nat.le_refl _,fun z=>rfl,hp0⟩ (fun i σ H' _ ⟨kvs,v3,v4,_,sm,_⟩=>sm.seq hS) ?_ ?_
 · rintro i x σ H' t hx ⟨kvs,v3,v4,rfl,sm,g1,g2,g3,g4⟩ ht
   rw [List.getElem?_map]at hx
   cases hy:ys[i]? with
   | none=>rw [hy]at hx;cases hx
   | some y=>
    rw [hy]at hx
    cases hx
    have hyD:ys.getD i Str.empty=y:=by rw [List.getD_eq_getElem?_getD,hy];rfl
    have hil:i < ys.length:=(List.getElem?_eq_some_iff.mp hy).1
    walk_at "go"
    refine ⟨_,SqT.of upd_same,rfl,_,_,rfl,_,_,rfl,rfl,?_⟩
    have smt:Same H' (upd H' t (.tup [.int i,.str y])):=Same.new ht
    have sm2:=sm.trans smt
    have f1:=smt _ _ g1
    have f4:=smt _ _ g4
    generalize upd H' t (.tup [.int i,.str y])=H2 at sm2 f1 f4 ⊢
    clear smt ht g1 g4 sm
    walk_at "go"
    refine ⟨.inl ⟨rfl,_,SqL.of f4⟩,.inl ⟨kvs,.inl f1⟩,_,DGet.k (k:=Sum.inr y) f1,?_⟩
    refine ⟨p,_,_,rfl,rfl,f4,by rw [List.length_map,List.length_range];omega,?_⟩
    rw [g3 y,← hyD,ear_val]
    walk_at "go"
    have f1':upd H2 p (.lst ((List.range i).map (earV ys)++[earV ys i])) d=some (.dK kvs):=by rw [upd_ne ndp];exact f1
    refine ⟨_,DPut.k (k:=Sum.inr (ys.getD i Str.empty)) f1' (by omega),same_upd (same_upd sm2 hpH) hd,_,upd_same,?_,last_put g3,?_⟩
    · have:=length_putK kvs (Sum.inr (ys.getD i Str.empty):Key) (V.int (i:Int));omega
    · rw [upd_ne ndp.symm,upd_same,List.range_succ,List.map_append];rfl
 · rintro σ H' ⟨kvs,v3,v4,rfl,sm,g1,g2,g3,g4⟩
   rw [List.length_map]at g4
   walk_at "go"
   exact q p _ hpH sm g4
theorem Z9v{f:Addr}{fd:FuncData}(F:Fun K "__init__" "Sums.__init__" Z52 f fd)(T:Txt K mg Z6 Z3 Z5 Z9 Z8 Zb Za Z7 Zg Ze Z4 Z2 Zd Z0 Z1 Zf Zc)(Zh:Def P w K mg base (CXF P w) 2 "is_within" ["thing","least","most"] (N53.sp53_within K)):FnOk P w K mg base (CXF P w) 3 f fd ["self","many"] (sp32_init Zg):=by
 have sc:FnScope ["self","many"] ["self","many"] (defScope Z52):=by walk_at "sc"
 refine F.okF sc (fun vs H Q E h=>?_) (fun cdv A outer s H vs Q E hr h=>?_)
 · obtain ⟨_,_,_,rfl,_⟩:=h;rfl
 obtain ⟨p,dx,n,rfl,hp,hn,q⟩:=h
 replace Zh:=Zh.weaker fun _ _ _ _=>im_within
 refine ⟨_,(@pss_cons _ _ _ _ _ (ps_if (pt_not (pt_val (pe_callD Zh hr rfl pass_onF (pa_cons (pv 1) (pa_cons pe_int (pa_cons (pe_gint rfl T.Z2b) pa_nil))))))
  (@pss_one _ _ _ ps_never)
  pss_nil)
  (@pss_one _ _ _ (ps_fld (pv 0) (pe_comp1 "place" [] rfl rfl (pi_range1 rfl T.Z13 (pa_cons (pv 1) pa_nil)) (fun b=>pe_int)) rfl))),?_⟩
 walk_at "st"
 have line:=line_val
 walk_at "go"
 rw [if_neg (by rw [wIn_ok (by omega) (by omega)];decide)]
 refine ⟨rfl,?_⟩
 walk_at "go"
 refine compR_pure (fun _=>V.int 0) (by omega) (fun b i H' Q' hi sm q'=>?_) fun D hD=>?_
 · walk_at "go"
   exact q'
 · have npd:p≠D:=ne_of_none hp hD
   walk_at "go"
   refine ⟨Zg,dx,[],by rw [upd_ne npd];exact hp,T.Z1t,T.Zs,by decide,?_⟩
   refine q D _ hD (fun b o e nb=>?_) ⟨⟨dx,upd_same⟩,?_⟩
   · rw [upd_ne nb,upd_ne (ne_of_none e hD)];exact e
   · rw [upd_ne npd.symm,upd_same,List.map_const',List.length_range,List.map_replicate]
theorem Zaa{f:Addr}{fd:FuncData}(F:Fun K "add" "Sums.add" Z5r f fd)(T:Txt K mg Z6 Z3 Z5 Z9 Z8 Zb Za Z7 Zg Ze Z4 Z2 Zd Z0 Z1 Zf Zc)(Zh:Def P w K mg base (CXF P w) 2 "is_within" ["thing","least","most"] (N53.sp53_within K)):FnOk P w K mg base (CXF P w) 3 f fd ["self","at","by"] (sp32_add Zg):=by
 have sc:FnScope ["self","at","by"] ["self","at","by"] (defScope Z5r):=by walk_at "sc"
 refine F.okF sc (fun vs H Q E h=>?_) (fun cdv A outer s H vs Q E hr h=>?_)
 · obtain ⟨_,_,_,_,_,rfl,_⟩:=h;rfl
 obtain ⟨p,l,k,b,is,rfl,hs,hl,hk,q⟩:=h
 replace Zh:=Zh.weaker fun _ _ _ _=>im_within
 refine ⟨_,(@pss_cons _ _ _ _ _ (ps_if (pt_not (pt_val (pe_callD Zh hr rfl pass_onF (pa_cons (pv 1) (pa_cons pe_int (pa_cons (pe_op op_sub (pe_callB call_len_seq rfl T.Z06 PySem.boot_len (pa_cons (pe_fld (pv 0) rfl) pa_nil)) pe_int) pa_nil))))))
  (@pss_one _ _ _ ps_never)
  pss_nil)
  (@pss_one _ _ _ (ps_augS (pe_fld (pv 0) rfl) (pv 1) get_list (pv 2) ip_add set_list))),?_⟩
 walk_at "st"
 have line:=line_val
 obtain ⟨⟨dx,ho⟩,hL⟩:=hs
 walk_at "go"
 refine ⟨Zg,dx,_,ho,T.Z1t,T.Zs,_,fldN_is,?_⟩
 walk_at "go"
 refine ⟨_,.inl (SqL.of hL),rfl,?_⟩
 rw [List.length_map,if_neg (by rw [wIn_ok (by omega) (by omega)];decide)]
 walk_at "go"
 refine ⟨Zg,dx,_,ho,T.Z1t,T.Zs,_,fldN_is,?_⟩
 walk_at "go"
 refine ⟨_,k,rfl,SqL.of hL,_,getMap hk,_,rfl,_,hL,k,ixN_nat (by rw [List.length_map];exact hk),?_⟩
 rw [map_set]
 exact q
theorem Z9w{f:Addr}{fd:FuncData}(F:Fun K "upto" "Sums.upto" Z53 f fd)(T:Txt K mg Z6 Z3 Z5 Z9 Z8 Zb Za Z7 Zg Ze Z4 Z2 Zd Z0 Z1 Zf Zc)(Zh:Def P w K mg base (CXF P w) 2 "is_within" ["thing","least","most"] (N53.sp53_within K)):FnOk P w K mg base (CXF P w) 3 f fd ["self","at"] (sp32_upto Zg):=by
 have sc:FnScope ["self","at"] ["self","at"] (defScope Z53):=by walk_at "sc"
 refine F.okF sc (fun vs H Q E h=>?_) (fun cdv A outer s H vs Q E hr h=>?_)
 · obtain ⟨_,_,_,_,rfl,_⟩:=h;rfl
 obtain ⟨p,l,k,is,rfl,hs,hl,hk,q⟩:=h
 replace Zh:=Zh.weaker fun _ _ _ _=>im_within
 refine ⟨_,(@pss_cons _ _ _ _ _ (ps_if (pt_not (pt_val (pe_callD Zh hr rfl pass_onF (pa_cons (pv 1) (pa_cons pe_int (pa_cons (pe_callB call_len_seq rfl T.Z06 PySem.boot_len (pa_cons (pe_fld (pv 0) rfl) pa_nil)) pa_nil))))))
  (@pss_one _ _ _ ps_never)
  pss_nil)
  (@pss_one _ _ _ (@ps_ret _ _ _ _ (pe_callB (call_sumL rfl) rfl T.Z7g (by first | rfl | decide+kernel) (pa_cons (pe_slice sl_list (pe_fld (pv 0) rfl) po_none (po_some (pv 1))) pa_nil))))),?_⟩
 walk_at "st"
 have line:=line_val
 obtain ⟨⟨dx,ho⟩,hL⟩:=hs
 walk_at "go"
 refine ⟨Zg,dx,_,ho,T.Z1t,T.Zs,_,fldN_is,?_⟩
 walk_at "go"
 refine ⟨_,.inl (SqL.of hL),rfl,?_⟩
 rw [List.length_map,if_neg (by rw [wIn_ok (by omega) (by omega)];decide)]
 walk_at "go"
 refine ⟨Zg,dx,_,ho,T.Z1t,T.Zs,_,fldN_is,?_⟩
 walk_at "go"
 refine ⟨_,SqL.of hL,fun p' hp=>?_⟩
 rw [cut_ints is k hk]
 exact ⟨is.take k,SqL.of upd_same,q _ (Same.new hp)⟩
theorem Z9x{f:Addr}{fd:FuncData}(F:Fun K "depths_of" "depths_of" Z54 f fd)(T:Txt K mg Z6 Z3 Z5 Z9 Z8 Zb Za Z7 Zg Ze Z4 Z2 Zd Z0 Z1 Zf Zc)(Zr:Def P w K mg base (CXF P w) 5 "check_asks" ["stock","asks","places"] (sp13_asks K Z7 Z9 Z8 Z3 Z5))(Z3r:Def P w K mg base (CXF P w) 1 "earlier_asks" ["asks"] (sp32_early K))(Zl:DefM P w K mg base (CXF P w) 2 Z7 "room_of" ["self","name"] (sp32_room K Z7))(Z5a:DefI P w K mg base (CXF P w) 3 "Sums" Zg ["self","many"] (sp32_init Zg))(Z4a:DefM P w K mg base (CXF P w) 3 Zg "add" ["self","at","by"] (sp32_add Zg))(Z3x:DefM P w K mg base (CXF P w) 3 Zg "upto" ["self","at"] (sp32_upto Zg)):FnOk P w K mg base (CXF P w) 6 f fd ["stock","asks"] (sp38_depths (Ex8.mk Z8 Z3 Z5 Zb Za) K Z7):=by
 have sc:FnScope ["stock","asks","rooms","depths","number","earlier","room"] ["stock","asks"] (defScope Z54):=by walk_at "sc"
 refine F.okF sc (fun vs H Q E h=>?_) (fun cdv A outer s H vs Q E hr h=>?_)
 · obtain ⟨_,_,_,_,rfl,_⟩:=h;rfl
 obtain ⟨p,a,ts,ys,rfl,hs,nd,hS,hl,hw,hwz,q⟩:=h
 refine ⟨_,(@pss_cons _ _ _ _ _ (ps_expr (pe_callD Zr hr rfl pass_onF (pa_cons (pv 0) (pa_cons (pv 1) (pa_cons (pe_gint rfl T.Z0c) pa_nil)))))
  (@pss_cons _ _ _ _ _ (ps_set (i:=2) sc.nd rfl (Or.inl rfl) (pe_makeS Z5a hr rfl (passS pass_onF) (pa_cons (pe_callB call_len_seq rfl T.Z06 PySem.boot_len (pa_cons (pv 1) pa_nil)) pa_nil)))
  (@pss_cons _ _ _ _ _ (ps_set (i:=3) sc.nd rfl (Or.inl rfl) (@pe_lst _ _ _ _ pa_nil))
  (@pss_cons _ _ _ _ _ (ps_for own_outF rfl (pi_enum rfl T.Z0x (pa_cons (pe_callD Z3r hr rfl pass_onF (pa_cons (pv 1) pa_nil)) pa_nil)) (pg_tup rfl (pgs_cons (pg_name (i:=4) sc.nd rfl (Or.inl rfl)) (pgs_cons (pg_name (i:=5) sc.nd rfl (Or.inl rfl)) pgs_nil)))
   (@pss_cons _ _ _ _ _ (ps_set (i:=6) sc.nd rfl (Or.inl rfl) (pe_methS Zl T.Zv hr (passS pass_onF) (pv 0) (pa_cons (@pe_ix _ _ _ _ _ _ _ ix_list (pv 1) (pv 4) (fun _ _=>rfl)) pa_nil)))
   (@pss_cons _ _ _ _ _ (ps_if (pt_cmpR op_isN (pv 5) pe_non (nomark _))
    (@pss_one _ _ _ (ps_expr (pe_bm PySem.F.plainAttrs_list PySem.F.slot_list_append PySem.F.type_list_append mt_append (pv 3) (pa_cons pe_non pa_nil))))
    (@pss_cons _ _ _ _ _ (ps_expr (pe_bm PySem.F.plainAttrs_list PySem.F.slot_list_append PySem.F.type_list_append mt_append (pv 3) (pa_cons (pe_op op_sub (pe_methS Z3x T.Z1t hr (passS pass_onF) (pv 2) (pa_cons (pv 4) pa_nil)) (pe_methS Z3x T.Z1t hr (passS pass_onF) (pv 2) (pa_cons (pv 5) pa_nil))) pa_nil)))
    (@pss_one _ _ _ (ps_expr (pe_methS Z4a T.Z1t hr (passS pass_onF) (pv 2) (pa_cons (pv 5) (pa_cons (pe_op op_sub pe_int (pv 6)) pa_nil)))))))
   (@pss_one _ _ _ (ps_expr (pe_methS Z4a T.Z1t hr (passS pass_onF) (pv 2) (pa_cons (pv 4) (pa_cons (pv 6) pa_nil))))))))
  (@pss_one _ _ _ (@ps_ret _ _ _ _ (pv 3))))))),?_⟩
 walk_at "st"
 have line:=line_val
 walk_at "go"
 refine ⟨ts,hs,nd,ys,hS,hl,N53.NumV.flat rfl,fun e H1 sm1=>?_,fun e H' y sm hy er=>?_,fun e H' y sm hy er=>?_,fun z i e H' y sm hy er=>?_,fun z i e H' y sm hy er=>?_⟩
 rotate_left
 · exact absurd e (ask_nonum (by decide) (by decide))
 · rw [ask_inv (r:= .many) (by decide) (by decide) e rfl]at q;exact q H' y sm hy er
 · rw [ask_inv (r:= .unk z i) (by decide) (by decide) e rfl]at q;exact q H' y sm hy er
 · rw [ask_inv (r:= .wide z i) (by decide) (by decide) e rfl]at q;exact q H' y sm hy er
 have h0:ask8 ts 1000000 ys= .no:=ask_inv (r:= .no) (by decide) (by decide) e rfl
 rw [h0]at q
 obtain ⟨hl2,hin,hrm⟩:=fine_of (by decide) (by decide) h0
 replace q:=q H1 sm1
 replace hl:=hl2
 clear e h0 hrm hl2
 rename_i rest hrest
 subst hrest
 have hS1:=sm1.seq hS
 have hs1:=StockAt.same sm1 hs
 clear hS hs
 walk_at "go"
 intro s dx hsn hdx nds
 refine ⟨dx,ys.length,by rw [List.length_map],upd_same,hl,fun l H2 hln sb2 sa2=>?_⟩
 have sm2:Same H1 H2:=same_made hsn hdx sb2
 have hS2:=sm2.seq hS1
 have hs2:=StockAt.same sm2 hs1
 have hlH:H1 l=none:=made_none hsn hdx hln
 have offl:=off_of hS1 hlH
 have hlH0:=none_of sm1 hlH
 have sm02:=sm1.trans sm2
 clear sb2 hln hdx nds hsn sm2 hS1 hs1 sm1
 walk_at "go"
 intro D hD
 have smD:Same H2 (upd H2 D (.lst [])):=Same.new hD
 have sm03:=sm02.trans smD
 have hS3:=smD.seq hS2
 have hs3:=StockAt.same smD hs2
 have sa3:=sa2.same smD
 have hD3:upd H2 D (.lst []) D=some (.lst []):=upd_same
 have nlD:l≠D:=ne_of_none sa2.l hD
 have offD:=off_of hS2 hD
 have hDH:=none_of sm02 hD
 generalize upd H2 D (.lst [])=H3 at smD sm03 hS3 hs3 sa3 hD3 ⊢
 clear smD hS2 hs2 sa2 hD sm02
 walk_at "go"
 refine ⟨ys,hS3,hl,fun e H4 hen sm4 he4=>?_⟩
 have hS4:=sm4.seq hS3
 have hs4:=StockAt.same sm4 hs3
 have sa4:=sa3.same sm4
 have hD4:=sm4 _ _ hD3
 have nDe:D≠e:=ne_of_none hD3 hen
 have nle:l≠e:=ne_of_none sa3.l hen
 have sm04:=sm03.trans sm4
 clear sm4 sm03 hD3 sa3 hs3 hS3 hen
 rw [← nums_zero (R:=rm ts)]at sa4
 refine ⟨⟨_,SqL.of he4⟩,?_⟩
 rename_i rest hrest
 refine forE_by (xs:=(List.range ys.length).map (earV ys)) (fun i σ H'=>∃v4 v5 v6,σ=[some (V.ref p),some (V.ref a),some (V.ref s),some (V.ref D),v4,v5,v6]∧Same H H'∧SqL K H' a (ys.map V.str)∧StockAt K Z7 H' p ts∧SumsAt Zg H' s l (nums (rm ts) ys i)∧H' D=some (.lst ((List.range i).map fun j=>optV (N32.dep (rm ts) ys j)))∧H' e=some (.lst ((List.range ys.length).map (earV ys))))
  ⟨none,none,none,rfl,sm04,hS4,hs4,sa4,hD4,he4⟩ (fun i σ H' _ ⟨v4,v5,v6,_,_,_,_,_,_,h⟩=>SqL.of h) ?_ ?_
 · clear hS4 hs4 sa4 hD4 he4 sm04
   rintro i x σ H' t hx ⟨v4,v5,v6,rfl,sm,hS5,hs5,sa5,hD5,he5⟩ ht
   have hi:i < ys.length:=by
    have:=(List.getElem?_eq_some_iff.mp hx).1
    rw [List.length_map,List.length_range]at this;exact this
   rw [List.getElem?_map,List.getElem?_range hi]at hx
   cases hx
   have hyD:ys.getD i Str.empty∈ts.map (·.1):=hin _ (by rw [List.getD_eq_getElem?_getD,List.getElem?_eq_getElem hi];exact List.getElem_mem hi)
   have hg:atI (ys.map V.str) (i:Int)=some (V.str (ys.getD i Str.empty)):=by
    refine atI_nat ?_
    rw [List.getElem?_map,List.getD_eq_getElem?_getD,List.getElem?_eq_getElem hi];rfl
   walk_at "go"
   refine ⟨_,SqT.of upd_same,rfl,_,_,rfl,_,_,rfl,rfl,?_⟩
   have smt:Same H' (upd H' t (.tup [.int i,earV ys i])):=Same.new ht
   have sm2:=sm.trans smt
   have hS6:=smt.seq hS5
   have hs6:=StockAt.same smt hs5
   have sa6:=sa5.same smt
   have hD6:=smt _ _ hD5
   have he6:=smt _ _ he5
   generalize upd H' t (.tup [.int i,earV ys i])=H6 at sm2 hS6 hs6 sa6 hD6 he6 ⊢
   clear smt sm hS5 hs5 sa5 hD5 he5 ht
   obtain ⟨dx',d',kvs',g1,g2,_⟩:=StockAt.has hs6
   walk_at "go"
   refine ⟨dx',flds d',g1,by rfl,?_⟩
   refine ixL_of hS6 hg ⟨ts,_,rfl,hs6,nd,hyD,?_⟩
   obtain ⟨⟨dxs,hos⟩,hL⟩:=id sa6
   have hnl:=nums_len (R:=rm ts) (ys:=ys) (n:=i)
   cases he:ear ys i with
   | none=>
    have e1:earV ys i= .non:=by unfold earV;rw [he];rfl
    have e2:N32.dep (rm ts) ys i=none:=by unfold N32.dep;rw [he];rfl
    rw [e1]
    walk_at "go"
    refine ⟨.inl ⟨rfl,_,SqL.of hD6⟩,D,_,_,rfl,rfl,hD6,by rw [List.length_map,List.length_range];omega,?_⟩
    have sa7:=sa6.off (ys:=((List.range i).map fun j=>optV (N32.dep (rm ts) ys j))++[V.non]) hD6 nlD
    have hS7:=offD _ (.lst (((List.range i).map fun j=>optV (N32.dep (rm ts) ys j))++[V.non])) hS6
    have hs7:=StockAt.offL (o:= .lst (((List.range i).map fun j=>optV (N32.dep (rm ts) ys j))++[V.non])) hD6 hs6
    have sm7:=same_upd (o:= .lst (((List.range i).map fun j=>optV (N32.dep (rm ts) ys j))++[V.non])) sm2 hDH
    have hD7:upd H6 D (.lst (((List.range i).map fun j=>optV (N32.dep (rm ts) ys j))++[V.non])) D=some (.lst ((List.range (i+1)).map fun j=>optV (N32.dep (rm ts) ys j))):=by rw [upd_same,List.range_succ,List.map_append,List.map_cons,List.map_nil,e2];rfl
    have he7:upd H6 D (.lst (((List.range i).map fun j=>optV (N32.dep (rm ts) ys j))++[V.non])) e=some (.lst ((List.range ys.length).map (earV ys))):=by rw [upd_ne nDe.symm];exact he6
    generalize upd H6 D (.lst (((List.range i).map fun j=>optV (N32.dep (rm ts) ys j))++[V.non]))=H7 at sa7 hS7 hs7 sm7 hD7 he7 ⊢
    clear sa6 hS6 hs6 sm2 hD6 he6 hos hL g1 g2
    obtain ⟨⟨dx7,ho7⟩,hL7⟩:=id sa7
    walk_at "go"
    refine ⟨dx7,_,ho7,by rfl,l,i,rfl,_,sa7,by omega,by omega,?_⟩
    rw [nums_first hi he]
    exact ⟨same_upd sm7 hlH0,offl _ _ hS7,StockAt.offL hL7 hs7,sa7.put,by rw [upd_ne nlD.symm];exact hD7,by rw [upd_ne nle.symm];exact he7⟩
   | some b=>
    have e1:earV ys i= .int b:=by unfold earV;rw [he];rfl
    have hb:=(last_lt he).1
    obtain ⟨e3,e2⟩:=sums_dep (R:=rm ts) hi he
    rw [e1]
    walk_at "go"
    refine ⟨.inl ⟨rfl,_,SqL.of hD6⟩,dxs,_,hos,by rfl,l,i,rfl,_,sa6,by omega,by omega,fun H7 sm7=>?_⟩
    refine ⟨dxs,_,sm7 _ _ hos,by rfl,l,b,rfl,_,sa6.same sm7,by omega,by omega,fun H8 sm8=>?_⟩
    rw [e3]
    have sm78:=sm7.trans sm8
    have sa8:=sa6.same sm78
    have hS8:=sm78.seq hS6
    have hs8:=StockAt.same sm78 hs6
    have hD8:=sm78 _ _ hD6
    have he8:=sm78 _ _ he6
    have sH8:=sm2.trans sm78
    clear sa6 hS6 hs6 sm2 hD6 he6 hos hL g1 g2 sm7 sm8 sm78 e3
    refine ⟨D,_,_,rfl,rfl,hD8,by rw [List.length_map,List.length_range];omega,?_⟩
    have sa9:=sa8.off (ys:=((List.range i).map fun j=>optV (N32.dep (rm ts) ys j))++[V.int (tl (W (rm ts) ys i) b i)]) hD8 nlD
    have hS9:=offD _ (.lst (((List.range i).map fun j=>optV (N32.dep (rm ts) ys j))++[V.int (tl (W (rm ts) ys i) b i)])) hS8
    have hs9:=StockAt.offL (o:= .lst (((List.range i).map fun j=>optV (N32.dep (rm ts) ys j))++[V.int (tl (W (rm ts) ys i) b i)])) hD8 hs8
    have sm9:=same_upd (o:= .lst (((List.range i).map fun j=>optV (N32.dep (rm ts) ys j))++[V.int (tl (W (rm ts) ys i) b i)])) sH8 hDH
    have hD9:upd H8 D (.lst (((List.range i).map fun j=>optV (N32.dep (rm ts) ys j))++[V.int (tl (W (rm ts) ys i) b i)])) D=some (.lst ((List.range (i+1)).map fun j=>optV (N32.dep (rm ts) ys j))):=by rw [upd_same,List.range_succ,List.map_append,List.map_cons,List.map_nil,e2];rfl
    have he9:upd H8 D (.lst (((List.range i).map fun j=>optV (N32.dep (rm ts) ys j))++[V.int (tl (W (rm ts) ys i) b i)])) e=some (.lst ((List.range ys.length).map (earV ys))):=by rw [upd_ne nDe.symm];exact he8
    generalize upd H8 D (.lst (((List.range i).map fun j=>optV (N32.dep (rm ts) ys j))++[V.int (tl (W (rm ts) ys i) b i)]))=H9 at sa9 hS9 hs9 sm9 hD9 he9 ⊢
    clear sa8 hS8 hs8 sH8 hD8 he8 e2
    obtain ⟨⟨dx9,ho9⟩,hL9⟩:=id sa9
    walk_at "go"
    refine ⟨dx9,_,ho9,by rfl,l,b,rfl,_,sa9,by omega,by omega,?_⟩
    have sa10:SumsAt Zg (upd H9 l (.lst (((nums (rm ts) ys i).set b ((nums (rm ts) ys i).getD b 0+(0 - rm ts (ys.getD i Str.empty)))).map V.int))) s l ((nums (rm ts) ys i).set b ((nums (rm ts) ys i).getD b 0+(0 - rm ts (ys.getD i Str.empty)))):=sa9.put
    obtain ⟨⟨dx10,ho10⟩,hL10⟩:=id sa10
    walk_at "go"
    refine ⟨dx10,_,ho10,by rfl,l,i,rfl,_,sa10,by rw [List.length_set];omega,by rw [List.length_set];omega,?_⟩
    rw [nums_again hi he,upd_upd]
    exact ⟨same_upd sm9 hlH0,offl _ _ hS9,StockAt.offL hL9 hs9,sa9.put,by rw [upd_ne nlD.symm];exact hD9,by rw [upd_ne nle.symm];exact he9⟩
 · rintro σ H' ⟨v4,v5,v6,rfl,sm,hS5,hs5,sa5,hD5,he5⟩
   rw [List.length_map,List.length_range]at hD5
   walk_at "go"
   exact q D _ hDH sm hD5
theorem Zab{f:Addr}{fd:FuncData}(F:Fun K "is_there" "is_there" Z5s f fd)(T:Txt K mg Z6 Z3 Z5 Z9 Z8 Zb Za Z7 Zg Ze Z4 Z2 Zd Z0 Z1 Zf Zc):FnOk P w K mg base (CXF P w) 1 f fd ["depth","places"] (sp35_there):=by
 have sc:FnScope ["depth","places"] ["depth","places"] (defScope Z5s):=by walk_at "sc"
 refine F.okF sc (fun vs H Q E h=>?_) (fun cdv A outer s H vs Q E hr h=>?_)
 · obtain ⟨_,_,rfl,_⟩:=h;rfl
 obtain ⟨o,p,rfl,q⟩:=h
 refine ⟨_,(@pss_one _ _ _ (@ps_ret _ _ _ _ (pe_and (pe_cmpR op_notN (pv 0) pe_non (nomark _)) (pe_one (pe_cmpR op_le (pv 0) (pv 1) (nomark _)))))),?_⟩
 walk_at "st"
 have line:=line_val
 walk_at "go"
 cases o with
 | none=>rw [if_neg (fun h=>h rfl)];exact q
 | some d=>rw [if_pos (by intro h;cases h)];exact ⟨d,rfl,q⟩
theorem Z9y{f:Addr}{fd:FuncData}(F:Fun K "step_with" "step_with" Z55 f fd)(T:Txt K mg Z6 Z3 Z5 Z9 Z8 Zb Za Z7 Zg Ze Z4 Z2 Zd Z0 Z1 Zf Zc)(Z5w:Def P w K mg base (CXF P w) 1 "is_there" ["depth","places"] (sp35_there))(Z37:DefM P w K mg base (CXF P w) 2 Z7 "cost_of" ["self","name"] (sp41_cost K Z7)):FnOk P w K mg base (CXF P w) 4 f fd ["stock","asks","depths","places"] (sp35_step K Z7):=by
 have sc:FnScope ["stock","asks","depths","places","costs"] ["stock","asks","depths","places"] (defScope Z55):=by walk_at "sc"
 refine F.okF sc (fun vs H Q E h=>?_) (fun cdv A outer s H vs Q E hr h=>?_)
 · obtain ⟨_,_,_,_,_,_,rfl,_⟩:=h;rfl
 obtain ⟨st,a,d,P,ts,ys,rfl,hs,nd,hS,hl,hin,hD,q⟩:=h
 refine ⟨_,(@pss_cons _ _ _ _ _ (ps_comp2I (i:=4) "name" "depth" [0,3] sc.nd rfl rfl rfl rfl (pi_zip rfl T.Z8l (pa_cons (pv 1) (pa_cons (pv 2) pa_nil))) (fun b=>(pt_not (pt_val (pe_callD Z5w hr rfl pass_noF (pa_cons (pv 1) (pa_cons (pv 3) pa_nil)))))) (fun b=>(pe_methS Z37 T.Zv hr (passS pass_noF) (pv 2) (pa_cons (pv 0) pa_nil))))
  (@pss_one _ _ _ (@ps_ret _ _ _ _ (pe_tup (pa_cons (pv 3) (pa_cons (pe_callB call_len_seq rfl T.Z06 PySem.boot_len (pa_cons (pv 4) pa_nil)) (pa_cons (pe_callB (call_sumL rfl) rfl T.Z7g (by first | rfl | decide+kernel) (pa_cons (pv 4) pa_nil)) pa_nil))))))),?_⟩
 walk_at "st"
 have line:=line_val
 walk_at "go"
 refine ⟨⟨_,hS⟩,⟨_,hD⟩,?_⟩
 rename_i rest hrest
 refine compZ_2 (by rw [List.length_map];unfold depsV;rw [List.length_map,List.length_range]) (fun i=>!thr (dep (rm ts) ys i) P) (fun i=>V.int (cst ts (yat ys i))) hS hD (by rw [List.length_map];omega) ?_ ?_ ?_
 · rintro b i x z H' QT hx hz sm q'
   have hi:i < ys.length:=by have:=(List.getElem?_eq_some_iff.mp hx).1;rw [List.length_map]at this;exact this
   unfold depsV at hz
   rw [List.getElem?_map,List.getElem?_range hi]at hz
   cases hz
   walk_at "go"
   exact ⟨_,rfl,q' _ (Same.refl _)⟩
 · rintro b i x z H' Q' hx hz hp sm q'
   have hi:i < ys.length:=by have:=(List.getElem?_eq_some_iff.mp hx).1;rw [List.length_map]at this;exact this
   have ey:yat ys i=ys[i]:=by unfold yat;rw [List.getD_eq_getElem?_getD,List.getElem?_eq_getElem hi];rfl
   rw [List.getElem?_map,List.getElem?_eq_getElem hi]at hx
   cases hx
   have hs':=StockAt.same sm hs
   obtain ⟨dx,d',kvs,g1,g2,_⟩:=StockAt.has hs'
   walk_at "go"
   refine ⟨dx,flds d',g1,by rfl,ts,hs',nd,hin _ (List.getElem_mem hi),?_⟩
   have:=q' _ (Same.refl _)
   rw [ey]at this
   exact this
 · intro D H' hDn sm hD'
   subst hrest
   have eD:((List.range (ys.map V.str).length).filter fun i=>!thr (dep (rm ts) ys i) P).map (fun i=>V.int (cst ts (yat ys i)))=((mis (rm ts) ys P ys.length).map fun i=>cst ts (yat ys i)).map V.int:=by rw [List.length_map,List.map_map];rfl
   rw [eD]at hD'
   walk_at "go"
   refine ⟨_,.inl (SqL.of hD'),_,SqL.of hD',by rw [line];decide,fun t ht=>?_⟩
   refine q t _ (none_of sm ht) (sm.trans (Same.new ht)) ?_
   rw [upd_same,List.length_map,List.length_map]
   rfl
theorem Zac{f:Addr}{fd:FuncData}(F:Fun K "steps_of" "steps_of" Z5t f fd)(T:Txt K mg Z6 Z3 Z5 Z9 Z8 Zb Za Z7 Zg Ze Z4 Z2 Zd Z0 Z1 Zf Zc)(Z1h:Def P w K mg base (CXF P w) 6 "depths_of" ["stock","asks"] (sp38_depths (Ex8.mk Z8 Z3 Z5 Zb Za) K Z7))(Zl:DefM P w K mg base (CXF P w) 2 Z7 "room_of" ["self","name"] (sp32_room K Z7))(Z5b:Def P w K mg base (CXF P w) 4 "step_with" ["stock","asks","depths","places"] (sp35_step K Z7)):FnOk P w K mg base (CXF P w) 7 f fd ["stock","asks"] (sp38_steps (Ex8.mk Z8 Z3 Z5 Zb Za) K Z7):=by
 have sc:FnScope ["stock","asks","depths","widest","deeper"] ["stock","asks"] (defScope Z5t):=by walk_at "sc"
 refine F.okF sc (fun vs H Q E h=>?_) (fun cdv A outer s H vs Q E hr h=>?_)
 · obtain ⟨_,_,_,_,rfl,_⟩:=h;rfl
 obtain ⟨st,a,ts,ys,rfl,hs,nd,hS,hl,hl6,hw,hwz,q⟩:=h
 refine ⟨_,(@pss_cons _ _ _ _ _ (ps_set (i:=2) sc.nd rfl (Or.inr rfl) (pe_callD Z1h hr rfl pass_onF (pa_cons (pv 0) (pa_cons (pv 1) pa_nil))))
  (@pss_cons _ _ _ _ _ (ps_if (pt_cmpR (op_eqQ hr) (pv 2) (@pe_lst _ _ _ _ pa_nil) (nomark _))
   (@pss_one _ _ _ (@ps_ret _ _ _ _ (@pe_lst _ _ _ _ pa_nil)))
   pss_nil)
  (@pss_cons _ _ _ _ _ (ps_set (i:=3) sc.nd rfl (Or.inr rfl) (pe_callB (call_maxL rfl) rfl T.Z8m (by first | rfl | decide+kernel) (pa_cons (pe_comp1 "name" [0] rfl rfl (pi_list (pv 1)) (fun b=>(pe_methS Zl T.Zv hr (passS pass_noF) (pv 1) (pa_cons (pv 0) pa_nil)))) pa_nil)))
  (@pss_cons _ _ _ _ _ (ps_compI (i:=4) "depth" [3] sc.nd rfl rfl rfl rfl (pi_list (pv 2)) (fun b=>(PW.pt (pw_and (pt_cmpR op_notN (pv 0) pe_non (nomark _)) (pw_and1 (pt_cmpR op_gt (pv 0) (pv 1) (nomark _)))))) (fun b=>(pv 0)))
  (@pss_one _ _ _ (@ps_ret _ _ _ _ (pe_comp1 "places" [0,1,2] rfl rfl (pi_list (pe_sortset rfl rfl T.Z4f rfl T.Z8n (pa_cons (pe_op op_cat (@pe_lst _ _ _ _ (pa_cons (pv 3) pa_nil)) (pv 4)) pa_nil))) (fun b=>(pe_callD Z5b hr rfl pass_noF (pa_cons (pv 1) (pa_cons (pv 2) (pa_cons (pv 3) (pa_cons (pv 0) pa_nil))))))))))))),?_⟩
 walk_at "st"
 have line:=line_val
 walk_at "go"
 refine ⟨ts,hs,nd,ys,hS,hl,hw,hwz,?_⟩
 rcases ask_cases (ts:=ts) (n:=1000000) (ys:=ys) with h0 | ⟨z',i',h0⟩ | ⟨z',i',h0⟩ | h0
 · rw [h0]at q ⊢;exact q
 · rw [h0]at q ⊢;exact q
 · exact absurd h0 (ask_nowide hwz)
 rw [h0]at q ⊢
 obtain ⟨hl2,hin,_⟩:=fine_of (by decide) (by decide) h0
 replace q:∀(D:Addr) (H':Hp),Same H H'→Q (.ref D) H':=q H (Same.refl H)
 replace hl:ys.length≤60:=by omega
 clear h0 hl2
 intro G1 sG1 d H1 hd sm1 hD1
 clear sG1
 have hS1:=sm1.seq hS
 have hs1:=StockAt.same sm1 hs
 walk_at "go"
 intro p hp
 have smp:Same H1 (upd H1 p (.lst [])):=Same.new hp
 have hS2:=smp.seq hS1
 have hs2:=StockAt.same smp hs1
 have hD2:=smp _ _ hD1
 have sm2:=sm1.trans smp
 have hp2:upd H1 p (.lst []) p=some (.lst []):=upd_same
 generalize upd H1 p (.lst [])=H2 at smp hS2 hs2 hD2 sm2 hp2 ⊢
 clear hS1 hs1 smp sm1 hp hd hD1 hS hs
 refine ⟨_,eqQ_nil (SqL.of hD2) deps_flat (SqL.of hp2),?_⟩
 by_cases hy:ys=[]
 · subst hy
   rw [if_pos (by rfl)]
   exact ⟨Nat.zero_le _,fun r hr=>q r _ (sm2.trans (Same.new hr))⟩
 · rw [if_neg (by
    intro h
    have h:=of_decide_eq_true h
    have hl':=congrArg List.length h
    unfold depsV at hl'
    rw [List.length_map,List.length_range]at hl'
    exact hy (List.length_eq_zero_iff.mp hl'))]
   walk_at "go"
   refine ⟨⟨_,hS2⟩,?_⟩
   refine compL_ix (fun i=>V.int (rm ts (yat ys i))) hS2 (by rw [List.length_map];omega) ?_ ?_
   · rintro b i x H' Q' hx sm q'
     have hi:i < ys.length:=by have:=(List.getElem?_eq_some_iff.mp hx).1;rw [List.length_map]at this;exact this
     have ey:yat ys i=ys[i]:=by unfold yat;rw [List.getD_eq_getElem?_getD,List.getElem?_eq_getElem hi];rfl
     rw [List.getElem?_map,List.getElem?_eq_getElem hi]at hx
     cases hx
     have hs':=StockAt.same sm hs2
     obtain ⟨dx,d',kvs,g1,g2,_⟩:=StockAt.has hs'
     walk_at "go"
     refine ⟨dx,flds d',g1,by rfl,ts,hs',nd,hin _ (List.getElem_mem hi),?_⟩
     rw [ey]at q'
     exact q'
   · intro D hDn
     have smD:Same H2 (upd H2 D (.lst ((List.range (ys.map V.str).length).map fun i=>V.int (rm ts (yat ys i))))):=Same.new hDn
     have eD:(List.range (ys.map V.str).length).map (fun i=>V.int (rm ts (yat ys i)))=(ys.map (rm ts)).map V.int:=by
      rw [List.length_map]
      apply List.ext_getElem?
      intro i
      rw [List.getElem?_map,List.getElem?_map,List.getElem?_map]
      by_cases hi:i < ys.length
      · rw [List.getElem?_range hi,List.getElem?_eq_getElem hi]
        show some (V.int (rm ts (yat ys i)))=_
        unfold yat
        rw [List.getD_eq_getElem?_getD,List.getElem?_eq_getElem hi];rfl
      · rw [List.getElem?_eq_none (by rw [List.length_range];omega),List.getElem?_eq_none (by omega)];rfl
     rw [eD]at smD ⊢
     refine ⟨D,rfl,_,SqL.of upd_same,by intro h;exact hy (List.map_eq_nil_iff.mp h),fun w hwm hwx=>?_⟩
     have hS3:=smD.seq hS2
     have hs3:=StockAt.same smD hs2
     have hD3:=smD _ _ hD2
     have sm3:=sm2.trans smD
     generalize upd H2 D (.lst ((ys.map (rm ts)).map V.int))=H3 at smD hS3 hs3 hD3 sm3 ⊢
     clear hS2 hs2 hD2 sm2 smD hDn hp2 eD
     walk_at "go"
     refine ⟨⟨_,SqL.of hD3⟩,?_⟩
     have hdl:(depsV (rm ts) ys).length=ys.length:=by unfold depsV;rw [List.length_map,List.length_range]
     have hdx:∀(i:Nat) x,(depsV (rm ts) ys)[i]?=some x→i < ys.length∧x=optV (dep (rm ts) ys i):=fun i x hx=>by
      have hi:i < ys.length:=by have:=(List.getElem?_eq_some_iff.mp hx).1;omega
      unfold depsV at hx
      rw [List.getElem?_map,List.getElem?_range hi]at hx
      cases hx
      exact ⟨hi,rfl⟩
     refine compL_ifj (fun i=>match dep (rm ts) ys i with | none=>false | some v=>decide (w < v)) (SqL.of hD3) (by omega) ?_ ?_ ?_
     · rintro b i x H' QT hx sm q'
       obtain ⟨hi,rfl⟩:=hdx i x hx
       walk_at "go"
       cases e:dep (rm ts) ys i with
       | none=>
        rw [if_neg (fun h=>h rfl)]
        have:=q' _ (Same.refl _)
        rw [e]at this
        exact this
       | some v=>
        rw [if_pos (by intro h;cases h)]
        have:=q' _ (Same.refl _)
        rw [e]at this
        exact ⟨v,rfl,this⟩
     · rintro b i x H' Q' hx hp sm q'
       walk_at "go"
       exact q' _ (Same.refl _)
     · intro D2 H4 hDn sm4 hD4
       have eD:((List.range (depsV (rm ts) ys).length).filter fun i=>match dep (rm ts) ys i with | none=>false | some v=>decide (w < v)).map (fun i=>(depsV (rm ts) ys).getD i V.non)=(dps (rm ts) ys w).map V.int:=dps_eq
       rw [eD]at hD4
       have hS4:=sm4.seq hS3
       have hs4:=StockAt.same sm4 hs3
       have hd4:=sm4 _ _ hD3
       have sm5:=sm3.trans sm4
       have hle:=dps_len (R:=rm ts) (ys:=ys) (w:=w)
       walk_at "go"
       intro r hr
       have smr:Same H4 (upd H4 r (.lst [V.int w])):=Same.new hr
       refine ⟨_,upd_same,_,smr _ _ hD4,by rw [List.length_map];show 1+_≤_;omega,fun c hc=>?_⟩
       have smc:=smr.trans (Same.new (o:= .lst ([V.int w]++(dps (rm ts) ys w).map V.int)) hc)
       refine ⟨w::dps (rm ts) ys w,SqL.of upd_same,by rw [List.length_cons];omega,fun g zs hg hzp hzs=>?_⟩
       have smg:=smc.trans (Same.new (o:= .lst (zs.map V.int)) hg)
       have hg5:upd (upd (upd H4 r (.lst [V.int w])) c (.lst ([V.int w]++(dps (rm ts) ys w).map V.int))) g (.lst (zs.map V.int)) g=some (.lst (zs.map V.int)):=upd_same
       generalize upd (upd (upd H4 r (.lst [V.int w])) c (.lst ([V.int w]++(dps (rm ts) ys w).map V.int))) g (.lst (zs.map V.int))=H5 at smg hg5 ⊢
       have hS5:=smg.seq hS4
       have hs5:=StockAt.same smg hs4
       have hd5:=smg _ _ hd4
       have sm6:=sm5.trans smg
       have hzl:zs.length≤61:=by
        rw [hzp.length_eq]
        refine Nat.le_trans (len_ds _) ?_
        rw [List.length_cons];omega
       have hlt:zs.Pairwise (· < ·):=by
        have hn:zs.Nodup:=hzp.nodup_iff.mpr (ds_nodup _)
        exact (hzs.and hn).imp fun h=>by omega
       refine ⟨⟨_,SqL.of hg5⟩,?_⟩
       refine compL_mkT (fun j=>stT (cst ts) (rm ts) ys (zs.getD j 0)) (SqL.of hg5) (by rw [List.length_map];omega) ?_ ?_
       · rintro b j x H' Q' hx sm q'
         rw [List.getElem?_map]at hx
         cases hz:zs[j]? with
         | none=>rw [hz]at hx;cases hx
         | some z=>
          rw [hz]at hx
          cases hx
          have ez:zs.getD j 0=z:=by rw [List.getD_eq_getElem?_getD,hz];rfl
          rw [ez]at q'
          walk_at "go"
          exact ⟨ts,StockAt.same sm hs5,nd,ys,sm.seq hS5,by omega,hin,SqL.of (sm _ _ hd5),fun t H6 ht sm6 h6=>q' t H6 sm6 h6⟩
       · intro D3 as H6 hDn6 sm7 hD6 hal hat
         rw [List.length_map]at hal
         exact q D3 H6 (sm6.trans sm7)
theorem Z9z{f:Addr}{fd:FuncData}(F:Fun K "__init__" "Rule.__init__" Z1g f fd)(T:Txt K mg Z6 Z3 Z5 Z9 Z8 Zb Za Z7 Zg Ze Z4 Z2 Zd Z0 Z1 Zf Zc)(Zy:Def P w K mg base (CXF P w) 3 "check_places" ["places"] (sp13_check K Z9)):FnOk P w K mg base (CXF P w) 4 f fd ["self","stock","places"] (sp28_rinit K):=by
 have sc:FnScope ["self","stock","places"] ["self","stock","places"] (defScope Z1g):=by walk_at "sc"
 refine F.okF sc (fun vs H Q E h=>?_) (fun cdv A outer s H vs Q E hr h=>?_)
 · obtain ⟨_,_,_,_,_,rfl,_⟩:=h;rfl
 obtain ⟨X,q',dx,p,n,rfl,hq,hcl,hns,hnp,h1,h2,q⟩:=h
 replace Zy:=Zy.weaker fun _ _ _ _=>im_places
 refine ⟨_,(@pss_cons _ _ _ _ _ (ps_expr (pe_callD Zy hr rfl pass_onF (pa_cons (pv 2) pa_nil)))
  (@pss_cons _ _ _ _ _ (ps_fld (pv 0) (pv 1) rfl)
  (@pss_one _ _ _ (ps_fld (pv 0) (pv 2) rfl)))),?_⟩
 walk_at "st"
 walk_at "go"
 refine ⟨X,dx,[],hq,hcl,hns,by decide,?_⟩
 walk_at "go"
 refine ⟨X,dx,_,upd_same,hcl,hnp,by simp [putF],?_⟩
 walk_at "go"
 exact q _ (fun b o e nb=>by rw [upd_ne nb];exact e) upd_same
theorem Z97{f:Addr}{fd:FuncData}(F:Fun K "__init__" "Ranked.__init__" Z0v f fd)(T:Txt K mg Z6 Z3 Z5 Z9 Z8 Zb Za Z7 Zg Ze Z4 Z2 Zd Z0 Z1 Zf Zc)(Zm:DefB P w K mg base (CXF P w) 4 "Rule" Ze ["self","stock","places"] (sp28_rinit K)):FnOk P w K mg base (CXF P w) 5 f fd ["self","stock","places"] (sp28_kinit K):=by
 have sc:FnScope ["self","stock","places"] ["self","stock","places"] (defScope Z0v):=by walk_at "sc"
 refine F.okF sc (fun vs H Q E h=>?_) (fun cdv A outer s H vs Q E hr h=>?_)
 · obtain ⟨_,_,_,_,_,rfl,_⟩:=h;rfl
 obtain ⟨X,q',dx,p,n,rfl,hq,hcl,⟨hns,hnp⟩,hpr,hla5,h1,h2,q⟩:=h
 refine ⟨_,(@pss_cons _ _ _ _ _ (ps_expr (pe_initC Zm hr (passS pass_onF) (pe_glob (v:= .ref Ze) rfl T.Z8e rfl) (pa_cons (pv 0) (pa_cons (pv 1) (pa_cons (pv 2) pa_nil)))))
  (@pss_cons _ _ _ _ _ (ps_fld (pv 0) pe_int rfl)
  (@pss_one _ _ _ (ps_fld (pv 0) pe_dnewK rfl)))),?_⟩
 walk_at "st"
 have line:=line_val
 walk_at "go"
 refine ⟨X,dx,hq,hcl,hns,hnp,h1,h2,fun H1 sb1 hq1=>?_⟩
 rename_i rest hrest
 subst hrest
 walk_at "go"
 refine ⟨X,dx,_,hq1,hcl,hpr,by rw [show (rf0 p n).length=2 from rfl];decide,?_⟩
 have sb2:SameBut q' H1 (upd H1 q' (.ins X dx (putF "present" (V.int 0) (rf0 p n)))):=fun b o e nb=>by rw [upd_ne nb];exact e
 have hq2:upd H1 q' (.ins X dx (putF "present" (V.int 0) (rf0 p n))) q'=some (.ins X dx (putF "present" (V.int 0) (rf0 p n))):=upd_same
 generalize upd H1 q' (.ins X dx (putF "present" (V.int 0) (rf0 p n)))=H2 at sb2 hq2 ⊢
 rename_i rest hrest
 subst hrest
 walk_at "go"
 intro la hla
 have n1:la≠q':=fun e=>by rw [e,hq2]at hla;cases hla
 refine ⟨X,dx,_,by rw [upd_ne n1.symm];exact hq2,hcl,hla5,by rw [show (putF "present" (V.int 0) (rf0 p n)).length=3 from rfl];decide,?_⟩
 have sb12:=sb1.trans sb2
 have hla0:H la=none:=by
  cases e2:H la with
  | none=>rfl
  | some o=>rw [sb12 _ _ e2 n1]at hla;cases hla
 walk_at "go"
 exact q _ la (fun b o e nb=>by rw [upd_ne nb,upd_ne (fun e2=>by rw [e2,hla0]at e;cases e)];exact sb12 _ _ e nb) hla0 n1 upd_same (by rw [upd_ne n1,upd_same])
theorem Z98{f:Addr}{fd:FuncData}(F:Fun K "__init__" "Ranked.__init__" Z42 f fd)(T:Txt K mg Z6 Z3 Z5 Z9 Z8 Zb Za Z7 Zg Ze Z4 Z2 Zd Z0 Z1 Zf Zc)(Zm:DefB P w K mg base (CXF P w) 4 "Rule" Ze ["self","stock","places"] (sp28_rinit K)):FnOk P w K mg base (CXF P w) 5 f fd ["self","stock","places"] (sp28_kinit K):=by
 have sc:FnScope ["self","stock","places"] ["self","stock","places"] (defScope Z42):=by walk_at "sc"
 refine F.okF sc (fun vs H Q E h=>?_) (fun cdv A outer s H vs Q E hr h=>?_)
 · obtain ⟨_,_,_,_,_,rfl,_⟩:=h;rfl
 obtain ⟨X,q',dx,p,n,rfl,hq,hcl,⟨hns,hnp⟩,hpr,hla5,h1,h2,q⟩:=h
 refine ⟨_,(@pss_cons _ _ _ _ _ (ps_expr (pe_initC Zm hr (passS pass_onF) (pe_glob (v:= .ref Ze) rfl T.Z8e rfl) (pa_cons (pv 0) (pa_cons (pv 1) (pa_cons (pv 2) pa_nil)))))
  (@pss_cons _ _ _ _ _ (ps_fld (pv 0) pe_int rfl)
  (@pss_one _ _ _ (ps_fld (pv 0) pe_dnewK rfl)))),?_⟩
 walk_at "st"
 have line:=line_val
 walk_at "go"
 refine ⟨X,dx,hq,hcl,hns,hnp,h1,h2,fun H1 sb1 hq1=>?_⟩
 rename_i rest hrest
 subst hrest
 walk_at "go"
 refine ⟨X,dx,_,hq1,hcl,hpr,by rw [show (rf0 p n).length=2 from rfl];decide,?_⟩
 have sb2:SameBut q' H1 (upd H1 q' (.ins X dx (putF "present" (V.int 0) (rf0 p n)))):=fun b o e nb=>by rw [upd_ne nb];exact e
 have hq2:upd H1 q' (.ins X dx (putF "present" (V.int 0) (rf0 p n))) q'=some (.ins X dx (putF "present" (V.int 0) (rf0 p n))):=upd_same
 generalize upd H1 q' (.ins X dx (putF "present" (V.int 0) (rf0 p n)))=H2 at sb2 hq2 ⊢
 rename_i rest hrest
 subst hrest
 walk_at "go"
 intro la hla
 have n1:la≠q':=fun e=>by rw [e,hq2]at hla;cases hla
 refine ⟨X,dx,_,by rw [upd_ne n1.symm];exact hq2,hcl,hla5,by rw [show (putF "present" (V.int 0) (rf0 p n)).length=3 from rfl];decide,?_⟩
 have sb12:=sb1.trans sb2
 have hla0:H la=none:=by
  cases e2:H la with
  | none=>rfl
  | some o=>rw [sb12 _ _ e2 n1]at hla;cases hla
 walk_at "go"
 exact q _ la (fun b o e nb=>by rw [upd_ne nb,upd_ne (fun e2=>by rw [e2,hla0]at e;cases e)];exact sb12 _ _ e nb) hla0 n1 upd_same (by rw [upd_ne n1,upd_same])
theorem Z9j{f:Addr}{fd:FuncData}(F:Fun K "__init__" "First.__init__" Z4i f fd)(T:Txt K mg Z6 Z3 Z5 Z9 Z8 Zb Za Z7 Zg Ze Z4 Z2 Zd Z0 Z1 Zf Zc)(Zn:DefB P w K mg base (CXF P w) 5 "Ranked" Z4 ["self","stock","places"] (sp28_kinit K)):FnOk P w K mg base (CXF P w) 6 f fd ["self","stock","places"] (sp22_init Zd):=by
 have sc:FnScope ["self","stock","places"] ["self","stock","places"] (defScope Z4i):=by walk_at "sc"
 refine F.okF sc (fun vs H Q E h=>?_) (fun cdv A outer s H vs Q E hr h=>?_)
 · obtain ⟨_,_,_,_,rfl,_⟩:=h;rfl
 obtain ⟨q',dx,p,n,rfl,hq,h1,h2,q⟩:=h
 refine ⟨_,(@pss_cons _ _ _ _ _ (ps_expr (pe_initC Zn hr (passS pass_onF) (pe_glob (v:= .ref Z4) rfl T.Z7t rfl) (pa_cons (pv 0) (pa_cons (pv 1) (pa_cons (pv 2) pa_nil)))))
  (@pss_one _ _ _ (ps_fld (pv 0) pe_dnewK rfl))),?_⟩
 walk_at "st"
 have line:=line_val
 walk_at "go"
 refine ⟨Zd,dx,hq,T.Z5p,T.Z0s,T.Z0i,T.Z0w,T.Z1l,h1,h2,fun H1 la sb1 hla n1 hq1' hl1=>?_⟩
 have hq1:H1 q'=some (.ins Zd dx (putF "last" (V.ref la) (putF "present" (V.int 0) (rf0 p n)))):=hq1'
 clear hq1'
 rename_i rest hrest
 subst hrest
 walk_at "go"
 intro pa hpa
 have n2:pa≠q':=fun e=>by rw [e,hq1]at hpa;cases hpa
 have n3:la≠pa:=fun e=>by rw [← e,hl1]at hpa;cases hpa
 refine ⟨Zd,dx,_,by rw [upd_ne n2.symm];exact hq1,T.Z5p,T.Z0z,by rw [show (putF "last" (V.ref la) (putF "present" (V.int 0) (rf0 p n))).length=4 from rfl];decide,?_⟩
 have hpa0:H pa=none:=by
  cases e2:H pa with
  | none=>rfl
  | some o=>rw [sb1 _ _ e2 n2]at hpa;cases hpa
 walk_at "go"
 exact q _ la pa (fun b o e nb=>by rw [upd_ne nb,upd_ne (fun e2=>by rw [e2,hpa0]at e;cases e)];exact sb1 _ _ e nb) hla hpa0 ⟨la,pa,rfl,n3,⟨dx,upd_same⟩,by rw [upd_ne n1,upd_ne n3];exact hl1,by rw [upd_ne n2,upd_same]⟩
theorem Z8s{dtk:Tok}{f:Addr}{fd:FuncData}(F:FunD K "__init__" "Halving.__init__" Z0n f fd [.int 8 dtk])(T:Txt K mg Z6 Z3 Z5 Z9 Z8 Zb Za Z7 Zg Ze Z4 Z2 Zd Z0 Z1 Zf Zc)(Zh:Def P w K mg base (CXF P w) 2 "is_within" ["thing","least","most"] (N53.sp53_within K))(Zn:DefB P w K mg base (CXF P w) 5 "Ranked" Z4 ["self","stock","places"] (sp28_kinit K)):FnOk P w K mg base (CXF P w) 6 f fd ["self","stock","places","turn"] (sp23_init Z0):=by
 have sc:FnScope ["self","stock","places","turn"] ["self","stock","places","turn"] (defScope Z0n):=by walk_at "sc"
 refine F.okF sc (fun vs H Q E h=>?_) (fun cdv A outer s H vs Q E hr h=>?_)
 · obtain ⟨_,_,_,_,_,rfl,_⟩:=h;rfl
 obtain ⟨q',dx,p,n,e,rfl,hq,h1,h2,h3,h4,q⟩:=h
 replace Zh:=Zh.weaker fun _ _ _ _=>im_within
 refine ⟨_,(@pss_cons _ _ _ _ _ (ps_expr (pe_initC Zn hr (passS pass_onF) (pe_glob (v:= .ref Z4) rfl T.Z7t rfl) (pa_cons (pv 0) (pa_cons (pv 1) (pa_cons (pv 2) pa_nil)))))
  (@pss_cons _ _ _ _ _ (ps_if (pt_not (pt_val (pe_callD Zh hr rfl pass_onF (pa_cons (pv 3) (pa_cons pe_int (pa_cons (pe_gint rfl T.Z2c) pa_nil))))))
   (@pss_one _ _ _ ps_never)
   pss_nil)
  (@pss_cons _ _ _ _ _ (ps_fld (pv 0) (pv 3) rfl)
  (@pss_one _ _ _ (ps_fld (pv 0) pe_dnewK rfl))))),?_⟩
 walk_at "st"
 have line:=line_val
 walk_at "go"
 refine ⟨Z0,dx,hq,T.Zi,T.Z09,T.Z02,T.Zq,T.Z03,h1,h2,fun H1 la sb1 hla n1 hq1 hl1=>?_⟩
 have hq1':H1 q'=some (.ins Z0 dx (rf2 p n 0 la)):=hq1
 clear hq1
 rename_i rest hrest
 subst hrest
 walk_at "go"
 rw [if_neg (by rw [wIn_ok h3 h4];decide)]
 refine ⟨rfl,?_⟩
 walk_at "go"
 refine ⟨Z0,dx,_,hq1',T.Zi,T.Z0j,by rw [rf2_len];decide,?_⟩
 have sb2:SameBut q' H1 (upd H1 q' (.ins Z0 dx (putF "turn" (V.int e) (rf2 p n 0 la)))):=fun b o e nb=>by rw [upd_ne nb];exact e
 have hq2:upd H1 q' (.ins Z0 dx (putF "turn" (V.int e) (rf2 p n 0 la))) q'=some (.ins Z0 dx (putF "turn" (V.int e) (rf2 p n 0 la))):=upd_same
 have hl2:upd H1 q' (.ins Z0 dx (putF "turn" (V.int e) (rf2 p n 0 la))) la=some (.dK []):=by rw [upd_ne n1];exact hl1
 generalize upd H1 q' (.ins Z0 dx (putF "turn" (V.int e) (rf2 p n 0 la)))=H2 at sb2 hq2 hl2 ⊢
 rename_i rest hrest
 subst hrest
 walk_at "go"
 intro ta hta
 have n2:ta≠q':=fun e=>by rw [e,hq2]at hta;cases hta
 have n3:la≠ta:=fun e=>by rw [← e,hl2]at hta;cases hta
 refine ⟨Z0,dx,_,by rw [upd_ne n2.symm];exact hq2,T.Zi,T.Zk,by rw [show (putF "turn" (V.int e) (rf2 p n 0 la)).length=5 from rfl];decide,?_⟩
 have sb12:=sb1.trans sb2
 have hta0:H ta=none:=by
  cases e2:H ta with
  | none=>rfl
  | some o=>rw [sb12 _ _ e2 n2]at hta;cases hta
 walk_at "go"
 exact q _ la ta (fun b o e nb=>by rw [upd_ne nb,upd_ne (fun e2=>by rw [e2,hta0]at e;cases e)];exact sb12 _ _ e nb) hla hta0 ⟨la,ta,rfl,⟨dx,upd_same⟩,by rw [upd_ne n1,upd_ne n3];exact hl2,by rw [upd_ne n2,upd_same];rfl,n3⟩
theorem Z84{f:Addr}{fd:FuncData}(F:Fun K "__init__" "Farthest.__init__" Z31 f fd)(T:Txt K mg Z6 Z3 Z5 Z9 Z8 Zb Za Z7 Zg Ze Z4 Z2 Zd Z0 Z1 Zf Zc)(Zr:Def P w K mg base (CXF P w) 5 "check_asks" ["stock","asks","places"] (sp13_asks K Z7 Z9 Z8 Z3 Z5))(Zn:DefB P w K mg base (CXF P w) 5 "Ranked" Z4 ["self","stock","places"] (sp28_kinit K)):FnOk P w K mg base (CXF P w) 6 f fd ["self","stock","places","asks"] (sp24_init K Z7 Z1):=by
 have sc:FnScope ["self","stock","places","asks"] ["self","stock","places","asks"] (defScope Z31):=by walk_at "sc"
 refine F.okF sc (fun vs H Q E h=>?_) (fun cdv A outer s H vs Q E hr h=>?_)
 · obtain ⟨_,_,_,_,_,_,_,rfl,_⟩:=h;rfl
 obtain ⟨q',dx,p,a,n,ts,ys,rfl,hq,hsto,nd,ha,hlen,hin,hrm,h1,h2,naq,q⟩:=h
 replace Zr:=Zr.weaker fun _ _ _ _=>im_asks
 refine ⟨_,(@pss_cons _ _ _ _ _ (ps_expr (pe_callD Zr hr rfl pass_onF (pa_cons (pv 1) (pa_cons (pv 3) (pa_cons (pv 2) pa_nil)))))
  (@pss_cons _ _ _ _ _ (ps_expr (pe_initC Zn hr (passS pass_onF) (pe_glob (v:= .ref Z4) rfl T.Z7t rfl) (pa_cons (pv 0) (pa_cons (pv 1) (pa_cons (pv 2) pa_nil)))))
  (@pss_one _ _ _ (ps_fld (pv 0) (pe_callTy call_list_of rfl T.Z4e (by first | rfl | decide+kernel) (pa_cons (pv 3) pa_nil)) rfl)))),?_⟩
 walk_at "st"
 have line:=line_val
 walk_at "go"
 refine ⟨ts,hsto,nd,ys,ha,hlen,hin,hrm,h1,h2,fun H0 sm0=>?_⟩
 have hq0:=sm0 _ _ hq
 have ha0:=sm0.seq ha
 rename_i rest hrest
 subst hrest
 walk_at "go"
 refine ⟨Z1,dx,hq0,T.Zj,T.Z04,T.Z00,T.Zp,T.Zz,h1,h2,fun H1 la sb1 hla n1 hq1' hl1=>?_⟩
 have hq1:H1 q'=some (.ins Z1 dx (putF "last" (V.ref la) (putF "present" (V.int 0) (rf0 p n)))):=hq1'
 clear hq1'
 have ha1:SqL K H1 a (ys.map V.str):=by
  rcases ha0 with (h | ⟨o,h⟩) | h
  · exact .inl (.inl (sb1 _ _ h naq))
  · exact .inl (.inr ⟨o,sb1 _ _ h naq⟩)
  · exact .inr h
 rename_i rest hrest
 subst hrest
 walk_at "go"
 intro ak hak
 have n2:ak≠q':=fun e=>by rw [e,hq1]at hak;cases hak
 have n3:la≠ak:=fun e=>by rw [← e,hl1]at hak;cases hak
 refine ⟨Z1,dx,_,by rw [upd_ne n2.symm];exact hq1,T.Zj,T.Zt,by rw [show (putF "last" (V.ref la) (putF "present" (V.int 0) (rf0 p n))).length=4 from rfl];decide,?_⟩
 have hak0:H ak=none:=by
  cases e2:H ak with
  | none=>rfl
  | some o=>rw [sb1 _ _ (sm0 _ _ e2) n2]at hak;cases hak
 exact q _ la ak (fun b o e nb=>by rw [upd_ne nb,upd_ne (fun e2=>by rw [e2,hak0]at e;cases e)];exact sb1 _ _ (sm0 _ _ e) nb) (same_none sm0 hla) hak0 ⟨la,ak,rfl,⟨dx,upd_same⟩,by rw [upd_ne n1,upd_ne n3];exact hl1,by rw [upd_ne n2,upd_same]⟩
theorem Za0{f:Addr}{fd:FuncData}(F:Fun K "__init__" "Hand.__init__" Z56 f fd)(T:Txt K mg Z6 Z3 Z5 Z9 Z8 Zb Za Z7 Zg Ze Z4 Z2 Zd Z0 Z1 Zf Zc)(Zm:DefB P w K mg base (CXF P w) 4 "Rule" Ze ["self","stock","places"] (sp28_rinit K)):FnOk P w K mg base (CXF P w) 6 f fd ["self","stock","places"] (sp28_hinit Zf):=by
 have sc:FnScope ["self","stock","places"] ["self","stock","places"] (defScope Z56):=by walk_at "sc"
 refine F.okF sc (fun vs H Q E h=>?_) (fun cdv A outer s H vs Q E hr h=>?_)
 · obtain ⟨_,_,_,_,rfl,_⟩:=h;rfl
 obtain ⟨q',dx,p,n,rfl,hq,h1,h2,q⟩:=h
 refine ⟨_,(@pss_cons _ _ _ _ _ (ps_expr (pe_initC Zm hr (passS pass_onF) (pe_glob (v:= .ref Ze) rfl T.Z8e rfl) (pa_cons (pv 0) (pa_cons (pv 1) (pa_cons (pv 2) pa_nil)))))
  (@pss_cons _ _ _ _ _ (ps_fld (pv 0) (@pe_lst _ _ _ _ pa_nil) rfl)
  (@pss_one _ _ _ (ps_fld (pv 0) pe_dnewK rfl)))),?_⟩
 walk_at "st"
 have line:=line_val
 walk_at "go"
 refine ⟨Zf,dx,hq,T.Z5m,T.Z10,T.Z0t,h1,h2,fun H1 sb1 hq1'=>?_⟩
 have hq1:H1 q'=some (.ins Zf dx (putF "places" (V.int n) (putF "stock" (V.ref p) []))):=hq1'
 clear hq1'
 have back:∀b,b≠q'→H1 b=none→H b=none:=fun b nb e=>by
  cases e2:H b with
  | none=>rfl
  | some o=>rw [sb1 _ _ e2 nb]at e;cases e
 rename_i rest hrest
 subst hrest
 walk_at "go"
 intro od hod
 have n1:od≠q':=fun e=>by rw [e,hq1]at hod;cases hod
 have fl1:(putF "places" (V.int n) (putF "stock" (V.ref p) [])).length≤2:=by
  have e1:=length_putF "places" (V.int n) (putF "stock" (V.ref p) [])
  have e2:=length_putF "stock" (V.ref p) []
  simp at *;omega
 refine ⟨Zf,dx,_,by rw [upd_ne n1.symm];exact hq1,T.Z5m,T.Z1m,by omega,?_⟩
 rename_i rest hrest
 subst hrest
 walk_at "go"
 intro md hmd
 have n2:md≠q':=fun e=>by rw [e,upd_same]at hmd;cases hmd
 have n3:md≠od:=fun e=>by rw [upd_ne n2,e,upd_same]at hmd;cases hmd
 have hmd1:H1 md=none:=by rw [upd_ne n2,upd_ne n3]at hmd;exact hmd
 have fl2:(putF "order" (V.ref od) (putF "places" (V.int n) (putF "stock" (V.ref p) []))).length≤3:=by
  have e1:=length_putF "order" (V.ref od) (putF "places" (V.int n) (putF "stock" (V.ref p) []))
  omega
 refine ⟨Zf,dx,_,by rw [upd_ne n2.symm,upd_same],T.Z5m,T.Z1d,by omega,?_⟩
 walk_at "go"
 refine q _ od md (fun b o e nb=>?_) (back od n1 hod) (back md n2 hmd1) ⟨od,md,rfl,⟨dx,upd_same⟩,?_,?_⟩
 · have e1:=sb1 _ _ e nb
   rw [upd_ne nb,upd_ne (ne_of_none e1 hmd1),upd_ne nb,upd_ne (ne_of_none e1 hod)]
   exact e1
 · rw [upd_ne n1,upd_ne n3.symm,upd_ne n1,upd_same];rfl
 · rw [upd_ne n2,upd_same];rfl
theorem Za1{f:Addr}{fd:FuncData}(F:Fun K "__init__" "Rows.__init__" Z57 f fd)(T:Txt K mg Z6 Z3 Z5 Z9 Z8 Zb Za Z7 Zg Ze Z4 Z2 Zd Z0 Z1 Zf Zc)(Zm:DefB P w K mg base (CXF P w) 4 "Rule" Ze ["self","stock","places"] (sp28_rinit K)):FnOk P w K mg base (CXF P w) 6 f fd ["self","stock","places"] (sp26_init Zc):=by
 have sc:FnScope ["self","stock","places"] ["self","stock","places"] (defScope Z57):=by walk_at "sc"
 refine F.okF sc (fun vs H Q E h=>?_) (fun cdv A outer s H vs Q E hr h=>?_)
 · obtain ⟨_,_,_,_,rfl,_⟩:=h;rfl
 obtain ⟨q',dx,p,n,rfl,hq,h1,h2,q⟩:=h
 refine ⟨_,(@pss_cons _ _ _ _ _ (ps_expr (pe_initC Zm hr (passS pass_onF) (pe_glob (v:= .ref Ze) rfl T.Z8e rfl) (pa_cons (pv 0) (pa_cons (pv 1) (pa_cons (pv 2) pa_nil)))))
  (@pss_cons _ _ _ _ _ (ps_fld (pv 0) (@pe_lst _ _ _ _ pa_nil) rfl)
  (@pss_cons _ _ _ _ _ (ps_fld (pv 0) (@pe_lst _ _ _ _ pa_nil) rfl)
  (@pss_cons _ _ _ _ _ (ps_fld (pv 0) (@pe_lst _ _ _ _ pa_nil) rfl)
  (@pss_cons _ _ _ _ _ (ps_fld (pv 0) (@pe_lst _ _ _ _ pa_nil) rfl)
  (@pss_cons _ _ _ _ _ (ps_fld (pv 0) pe_int rfl)
  (@pss_one _ _ _ (ps_fld (pv 0) pe_bl rfl)))))))),?_⟩
 walk_at "st"
 have line:=line_val
 walk_at "go"
 refine ⟨Zc,dx,hq,T.Z1u,T.Z11,T.Z0u,h1,h2,fun H1 sb1 hq1'=>?_⟩
 have hq1:H1 q'=some (.ins Zc dx (putF "places" (V.int n) (putF "stock" (V.ref p) []))):=hq1'
 clear hq1'
 have back:∀b,b≠q'→H1 b=none→H b=none:=fun b nb e=>by
  cases e2:H b with
  | none=>rfl
  | some o=>rw [sb1 _ _ e2 nb]at e;cases e
 rename_i rest hrest
 subst hrest
 walk_at "go"
 intro m1 hm1
 have n1:m1≠q':=fun e=>by rw [e,hq1]at hm1;cases hm1
 refine ⟨Zc,dx,_,by rw [upd_ne n1.symm];exact hq1,T.Z1u,T.Z29,by rw [show (putF "places" (V.int n) (putF "stock" (V.ref p) [])).length=2 from rfl];decide,?_⟩
 have sb2:SameBut q' H1 (upd (upd H1 m1 (.lst [])) q' (.ins Zc dx (putF "once" (V.ref m1) (putF "places" (V.int n) (putF "stock" (V.ref p) []))))):=fun b o e nb=>by
  rw [upd_ne nb,upd_ne (ne_of_none e hm1)];exact e
 have hq2:(upd (upd H1 m1 (.lst [])) q' (.ins Zc dx (putF "once" (V.ref m1) (putF "places" (V.int n) (putF "stock" (V.ref p) []))))) q'=some (.ins Zc dx (putF "once" (V.ref m1) (putF "places" (V.int n) (putF "stock" (V.ref p) [])))):=upd_same
 have k1_2:(upd (upd H1 m1 (.lst [])) q' (.ins Zc dx (putF "once" (V.ref m1) (putF "places" (V.int n) (putF "stock" (V.ref p) []))))) m1=some (.lst []):=by rw [upd_ne n1,upd_same]
 generalize upd (upd H1 m1 (.lst [])) q' (.ins Zc dx (putF "once" (V.ref m1) (putF "places" (V.int n) (putF "stock" (V.ref p) []))))=H2 at sb2 hq2 k1_2 ⊢
 rename_i rest hrest
 subst hrest
 walk_at "go"
 intro m2 hm2
 have n2:m2≠q':=fun e=>by rw [e,hq2]at hm2;cases hm2
 refine ⟨Zc,dx,_,by rw [upd_ne n2.symm];exact hq2,T.Z1u,T.Z1n,by rw [show (putF "once" (V.ref m1) (putF "places" (V.int n) (putF "stock" (V.ref p) []))).length=3 from rfl];decide,?_⟩
 have sb3:SameBut q' H2 (upd (upd H2 m2 (.lst [])) q' (.ins Zc dx (putF "again" (V.ref m2) (putF "once" (V.ref m1) (putF "places" (V.int n) (putF "stock" (V.ref p) [])))))):=fun b o e nb=>by
  rw [upd_ne nb,upd_ne (ne_of_none e hm2)];exact e
 have hq3:(upd (upd H2 m2 (.lst [])) q' (.ins Zc dx (putF "again" (V.ref m2) (putF "once" (V.ref m1) (putF "places" (V.int n) (putF "stock" (V.ref p) [])))))) q'=some (.ins Zc dx (putF "again" (V.ref m2) (putF "once" (V.ref m1) (putF "places" (V.int n) (putF "stock" (V.ref p) []))))):=upd_same
 have k2_3:(upd (upd H2 m2 (.lst [])) q' (.ins Zc dx (putF "again" (V.ref m2) (putF "once" (V.ref m1) (putF "places" (V.int n) (putF "stock" (V.ref p) [])))))) m2=some (.lst []):=by rw [upd_ne n2,upd_same]
 generalize upd (upd H2 m2 (.lst [])) q' (.ins Zc dx (putF "again" (V.ref m2) (putF "once" (V.ref m1) (putF "places" (V.int n) (putF "stock" (V.ref p) [])))))=H3 at sb3 hq3 k2_3 ⊢
 have k1_3:=sb3 _ _ k1_2 n1
 have z2:H1 m2=none:=by
  cases e2:H1 m2 with
  | none=>rfl
  | some o=>rw [sb2 _ _ e2 n2]at hm2;cases hm2
 rename_i rest hrest
 subst hrest
 walk_at "go"
 intro m3 hm3
 have n3:m3≠q':=fun e=>by rw [e,hq3]at hm3;cases hm3
 refine ⟨Zc,dx,_,by rw [upd_ne n3.symm];exact hq3,T.Z1u,T.Z0p,by rw [show (putF "again" (V.ref m2) (putF "once" (V.ref m1) (putF "places" (V.int n) (putF "stock" (V.ref p) [])))).length=4 from rfl];decide,?_⟩
 have sb4:SameBut q' H3 (upd (upd H3 m3 (.lst [])) q' (.ins Zc dx (putF "past_once" (V.ref m3) (putF "again" (V.ref m2) (putF "once" (V.ref m1) (putF "places" (V.int n) (putF "stock" (V.ref p) []))))))):=fun b o e nb=>by
  rw [upd_ne nb,upd_ne (ne_of_none e hm3)];exact e
 have hq4:(upd (upd H3 m3 (.lst [])) q' (.ins Zc dx (putF "past_once" (V.ref m3) (putF "again" (V.ref m2) (putF "once" (V.ref m1) (putF "places" (V.int n) (putF "stock" (V.ref p) []))))))) q'=some (.ins Zc dx (putF "past_once" (V.ref m3) (putF "again" (V.ref m2) (putF "once" (V.ref m1) (putF "places" (V.int n) (putF "stock" (V.ref p) [])))))):=upd_same
 have k3_4:(upd (upd H3 m3 (.lst [])) q' (.ins Zc dx (putF "past_once" (V.ref m3) (putF "again" (V.ref m2) (putF "once" (V.ref m1) (putF "places" (V.int n) (putF "stock" (V.ref p) []))))))) m3=some (.lst []):=by rw [upd_ne n3,upd_same]
 generalize upd (upd H3 m3 (.lst [])) q' (.ins Zc dx (putF "past_once" (V.ref m3) (putF "again" (V.ref m2) (putF "once" (V.ref m1) (putF "places" (V.int n) (putF "stock" (V.ref p) []))))))=H4 at sb4 hq4 k3_4 ⊢
 have k1_4:=sb4 _ _ k1_3 n1
 have k2_4:=sb4 _ _ k2_3 n2
 have z3:H1 m3=none:=by
  cases e2:H1 m3 with
  | none=>rfl
  | some o=>rw [(sb2.trans sb3) _ _ e2 n3]at hm3;cases hm3
 rename_i rest hrest
 subst hrest
 walk_at "go"
 intro m4 hm4
 have n4:m4≠q':=fun e=>by rw [e,hq4]at hm4;cases hm4
 refine ⟨Zc,dx,_,by rw [upd_ne n4.symm];exact hq4,T.Z1u,T.Z0e,by rw [show (putF "past_once" (V.ref m3) (putF "again" (V.ref m2) (putF "once" (V.ref m1) (putF "places" (V.int n) (putF "stock" (V.ref p) []))))).length=5 from rfl];decide,?_⟩
 have sb5:SameBut q' H4 (upd (upd H4 m4 (.lst [])) q' (.ins Zc dx (putF "past_again" (V.ref m4) (putF "past_once" (V.ref m3) (putF "again" (V.ref m2) (putF "once" (V.ref m1) (putF "places" (V.int n) (putF "stock" (V.ref p) [])))))))):=fun b o e nb=>by
  rw [upd_ne nb,upd_ne (ne_of_none e hm4)];exact e
 have hq5:(upd (upd H4 m4 (.lst [])) q' (.ins Zc dx (putF "past_again" (V.ref m4) (putF "past_once" (V.ref m3) (putF "again" (V.ref m2) (putF "once" (V.ref m1) (putF "places" (V.int n) (putF "stock" (V.ref p) [])))))))) q'=some (.ins Zc dx (putF "past_again" (V.ref m4) (putF "past_once" (V.ref m3) (putF "again" (V.ref m2) (putF "once" (V.ref m1) (putF "places" (V.int n) (putF "stock" (V.ref p) []))))))):=upd_same
 have k4_5:(upd (upd H4 m4 (.lst [])) q' (.ins Zc dx (putF "past_again" (V.ref m4) (putF "past_once" (V.ref m3) (putF "again" (V.ref m2) (putF "once" (V.ref m1) (putF "places" (V.int n) (putF "stock" (V.ref p) [])))))))) m4=some (.lst []):=by rw [upd_ne n4,upd_same]
 generalize upd (upd H4 m4 (.lst [])) q' (.ins Zc dx (putF "past_again" (V.ref m4) (putF "past_once" (V.ref m3) (putF "again" (V.ref m2) (putF "once" (V.ref m1) (putF "places" (V.int n) (putF "stock" (V.ref p) [])))))))=H5 at sb5 hq5 k4_5 ⊢
 have k1_5:=sb5 _ _ k1_4 n1
 have k2_5:=sb5 _ _ k2_4 n2
 have k3_5:=sb5 _ _ k3_4 n3
 have z4:H1 m4=none:=by
  cases e2:H1 m4 with
  | none=>rfl
  | some o=>rw [((sb2.trans sb3).trans sb4) _ _ e2 n4]at hm4;cases hm4
 rename_i rest hrest
 subst hrest
 walk_at "go"
 refine ⟨Zc,dx,_,hq5,T.Z1u,T.Z1o,by rw [show (putF "past_again" (V.ref m4) (putF "past_once" (V.ref m3) (putF "again" (V.ref m2) (putF "once" (V.ref m1) (putF "places" (V.int n) (putF "stock" (V.ref p) [])))))).length=6 from rfl];decide,?_⟩
 rename_i rest hrest
 subst hrest
 walk_at "go"
 refine ⟨Zc,dx,_,upd_same,T.Z1u,T.Z12,by rw [show (putF "bound" (V.int 0) (putF "past_again" (V.ref m4) (putF "past_once" (V.ref m3) (putF "again" (V.ref m2) (putF "once" (V.ref m1) (putF "places" (V.int n) (putF "stock" (V.ref p) []))))))).length=7 from rfl];decide,?_⟩
 have e12:m1≠m2:=fun e=>by rw [← e]at hm2;rw [k1_2]at hm2;cases hm2
 have e13:m1≠m3:=fun e=>by rw [← e]at hm3;rw [k1_3]at hm3;cases hm3
 have e14:m1≠m4:=fun e=>by rw [← e]at hm4;rw [k1_4]at hm4;cases hm4
 have e23:m2≠m3:=fun e=>by rw [← e]at hm3;rw [k2_3]at hm3;cases hm3
 have e24:m2≠m4:=fun e=>by rw [← e]at hm4;rw [k2_4]at hm4;cases hm4
 have e34:m3≠m4:=fun e=>by rw [← e]at hm4;rw [k3_4]at hm4;cases hm4
 have sball:=(((sb1.trans sb2).trans sb3).trans sb4).trans sb5
 walk_at "go"
 refine q _ m1 m2 m3 m4 (fun b o e nb=>?_) (back _ n1 hm1) (back _ n2 z2) (back _ n3 z3) (back _ n4 z4) ⟨⟨dx,upd_same⟩,?_,?_,?_,?_,e12,e13,e14,e23,e24,e34⟩
 · rw [upd_ne nb]
   try rw [upd_ne nb]
   exact sball _ _ e nb
 · rw [upd_ne n1]
   try rw [upd_ne n1]
   exact k1_5
 · rw [upd_ne n2]
   try rw [upd_ne n2]
   exact k2_5
 · rw [upd_ne n3]
   try rw [upd_ne n3]
   exact k3_5
 · rw [upd_ne n4]
   try rw [upd_ne n4]
   exact k4_5
theorem Z5x{f:Addr}{fd:FuncData}(F:Fun K "number_ask" "Ranked.number_ask" Z1i f fd)(T:Txt K mg Z6 Z3 Z5 Z9 Z8 Zb Za Z7 Zg Ze Z4 Z2 Zd Z0 Z1 Zf Zc):FnOk P w K mg base (CXF P w) 1 f fd ["self","name"] (sp21_number Z2):=by
 have sc:FnScope ["self","name"] ["self","name"] (defScope Z1i):=by walk_at "sc"
 refine F.okF sc (fun vs H Q E h=>?_) (fun cdv A outer s H vs Q E hr h=>?_)
 · obtain ⟨_,_,_,_,_,_,rfl,_⟩:=h;rfl
 obtain ⟨q',p,n,M,s,z,rfl,hh,hl,q⟩:=h
 refine ⟨_,(@pss_cons _ _ _ _ _ (ps_fldaug (pv 0) pe_int in_add)
  (@pss_one _ _ _ (ps_dput (hu_of hr) (pe_fld (pv 0) rfl) (pv 1) (pe_fld (pv 0) rfl) rfl))),?_⟩
 walk_at "st"
 have line:=line_val
 obtain ⟨la,hM,⟨dx,ho⟩,hla⟩:=hh
 have hM2:M=[q',la]∧True:=⟨hM,trivial⟩
 clear hM
 have nq1:q'≠la:=fun e=>by rw [e,hla]at ho;cases ho
 walk_at "go"
 refine ⟨Z2,dx,_,ho,T.Z01,T.Zw,_,rf2_present,s.k,rfl,dx,_,ho,by rw [rf2_len];decide,?_⟩
 have ho1:upd H q' (.ins Z2 dx (rf2 p n (s.k+1) la)) q'=some (.ins Z2 dx (rf2 p n (s.k+1) la)):=upd_same
 have hla1:upd H q' (.ins Z2 dx (rf2 p n (s.k+1) la)) la=some (.dK s.la):=by rw [upd_ne nq1.symm];exact hla
 have kp1:Kp M H (upd H q' (.ins Z2 dx (rf2 p n (s.k+1) la))):=(Kp.of (Same.refl H)).upd (by rw [hM2.1];simp)
 rename_i rest hrest
 show rest _ (upd H q' (.ins Z2 dx (rf2 p n (s.k+1) la)))
 generalize upd H q' (.ins Z2 dx (rf2 p n (s.k+1) la))=H1 at ho1 hla1 kp1 ⊢
 have hlp:=length_putK s.la (Sum.inr z:Key) (V.int (s.k+1))
 subst hrest
 walk_at "go"
 exact ⟨Z2,dx,_,ho1,T.Z01,T.Zw,_,rf2_present,Z2,dx,_,ho1,T.Z01,T.Z0b,_,rf2_last,la,rfl,_,DPut.k (k:=Sum.inr z) hla1 (by omega),q _ (kp1.upd (by rw [hM2.1];simp)) ⟨la,hM2.1,⟨dx,by rw [upd_ne nq1];exact ho1⟩,upd_same⟩⟩
theorem Z8t{f:Addr}{fd:FuncData}(F:Fun K "asked" "Ranked.asked" Z3k f fd)(T:Txt K mg Z6 Z3 Z5 Z9 Z8 Zb Za Z7 Zg Ze Z4 Z2 Zd Z0 Z1 Zf Zc)(Z1j:DefM P w K mg base (CXF P w) 1 Z2 "number_ask" ["self","name"] (sp21_number Z2)):FnOk P w K mg base (CXF P w) 2 f fd ["self","name"] (sp29_asked (C5.mk Z4 Z2 Z2 Z0 Z1) .ol):=by
 have sc:FnScope ["self","name"] ["self","name"] (defScope Z3k):=by walk_at "sc"
 refine F.okF sc (fun vs H Q E h=>?_) (fun cdv A outer s H vs Q E hr h=>?_)
 · obtain ⟨_,_,_,_,_,_,_,_,_,_,rfl,_⟩:=h;rfl
 obtain ⟨ys,hyl,q',p,n,M,s,l,ns,z,rfl,hh,hi,hz,hns,q⟩:=h
 refine ⟨_,(@pss_one _ _ _ (ps_expr (pe_methS Z1j T.Z01 hr (passS pass_onF) (pv 0) (pa_cons (pv 1) pa_nil)))),?_⟩
 walk_at "st"
 have line:=line_val
 have hh':OAt Z2 H M q' p n s:=hh
 obtain ⟨la,hM,⟨dx,ho⟩,hla⟩:=id hh'
 have hi':LI ns s l:=hi
 have hlen:=hi'.a.len
 walk_at "go"
 exact ⟨dx,_,ho,by rfl,p,n,M,s,hh',by omega,fun H1 kp1 h1=>q H1 kp1 h1⟩
theorem Z7o{f:Addr}{fd:FuncData}(F:Fun K "last_of" "Ranked.last_of" Z2g f fd)(T:Txt K mg Z6 Z3 Z5 Z9 Z8 Zb Za Z7 Zg Ze Z4 Z2 Zd Z0 Z1 Zf Zc):FnOk P w K mg base (CXF P w) 1 f fd ["self","name"] (sp29_last2 Z2):=by
 have sc:FnScope ["self","name"] ["self","name"] (defScope Z2g):=by walk_at "sc"
 refine F.okF sc (fun vs H Q E h=>?_) (fun cdv A outer s H vs Q E hr h=>?_)
 · obtain ⟨_,_,_,_,_,_,_,rfl,_⟩:=h;rfl
 obtain ⟨q',p,n,M,s,z,ns,rfl,hh,ht,q⟩:=h
 refine ⟨_,(@pss_one _ _ _ (@ps_ret _ _ _ _ (pe_dget2 (hu_of hr) (pe_fld (pv 0) rfl) (pv 1) pe_int ⟨rfl,rfl,rfl,rfl⟩))),?_⟩
 walk_at "st"
 have line:=line_val
 obtain ⟨la,hM,⟨dx,ho⟩,hla⟩:=hh
 clear hM
 walk_at "go"
 exact ⟨Z2,dx,_,ho,T.Z01,T.Z0b,_,rf2_last,la,rfl,.inl ⟨_,.inl hla⟩,_,DGet.k (k:=Sum.inr z) hla,by rw [lv_get ht];exact q⟩
theorem Z99{f:Addr}{fd:FuncData}(F:Fun K "rank" "Ranked.rank" Z43 f fd)(T:Txt K mg Z6 Z3 Z5 Z9 Z8 Zb Za Z7 Zg Ze Z4 Z2 Zd Z0 Z1 Zf Zc)(Z2l:DefM P w K mg base (CXF P w) 1 Z2 "last_of" ["self","name"] (sp29_last2 Z2)):FnOk P w K mg base (CXF P w) 2 f fd ["self","name"] (sp29_rank (C5.mk Z4 Z2 Z2 Z0 Z1) .ol):=by
 have sc:FnScope ["self","name"] ["self","name"] (defScope Z43):=by walk_at "sc"
 refine F.okF sc (fun vs H Q E h=>?_) (fun cdv A outer s H vs Q E hr h=>?_)
 · obtain ⟨_,_,_,_,_,_,_,_,_,rfl,_⟩:=h;rfl
 obtain ⟨ys,q',p,n,M,s,z,ns,hyl,rfl,hh,ht,q⟩:=h
 refine ⟨_,(@pss_one _ _ _ (@ps_ret _ _ _ _ (pe_tup (pa_cons (pe_methS Z2l T.Z01 hr (passS pass_onF) (pv 0) (pa_cons (pv 1) pa_nil)) pa_nil)))),?_⟩
 walk_at "st"
 have line:=line_val
 have hh':OAt Z2 H M q' p n s:=hh
 obtain ⟨la,hM,⟨dx,ho⟩,hla⟩:=id hh'
 clear hM
 walk_at "go"
 exact ⟨dx,_,ho,by rfl,p,n,M,s,hh',ns,ht,by omega,fun t ht=>q t ht⟩
theorem Z85{f:Addr}{fd:FuncData}(F:Fun K "halve" "Halving.halve" Z32 f fd)(T:Txt K mg Z6 Z3 Z5 Z9 Z8 Zb Za Z7 Zg Ze Z4 Z2 Zd Z0 Z1 Zf Zc):FnOk P w K mg base (CXF P w) 1 f fd ["self"] (sp23_halve Z0):=by
 have sc:FnScope ["self","name"] ["self"] (defScope Z32):=by walk_at "sc"
 refine F.okF sc (fun vs H Q E h=>?_) (fun cdv A outer s H vs Q E hr h=>?_)
 · obtain ⟨_,_,_,_,_,_,rfl,_⟩:=h;rfl
 obtain ⟨q',p,n,M,s,ns,rfl,hh,ht,hns,q⟩:=h
 refine ⟨_,(@pss_one _ _ _ (ps_for own_outF rfl (pi_list (pe_callTy (call_listD rfl) rfl T.Z4e (by first | rfl | decide+kernel) (pa_cons (pe_fld (pv 0) rfl) pa_nil))) (pg_name (i:=1) sc.nd rfl (Or.inl rfl))
  (@pss_one _ _ _ (ps_dput (hu_of hr) (pe_fld (pv 0) rfl) (pv 1) (pe_op op_fdiv (pe_dget (hu_of hr) (pe_fld (pv 0) rfl) (pv 1) (fun _ _=>rfl)) pe_int) rfl)))),?_⟩
 walk_at "st"
 have line:=line_val
 obtain ⟨la,ta,hM,⟨dx,ho⟩,hla,hta,hne⟩:=hh
 have hM2:M=[q',la,ta]∧True:=⟨hM,trivial⟩
 clear hM
 have nq1:q'≠la:=fun e=>by rw [e,hla]at ho;cases ho
 have nq2:q'≠ta:=fun e=>by rw [e,hta]at ho;cases ho
 obtain ⟨ks,hks,hin⟩:=ht.keys
 have hkl:s.ta.length=ks.length∧True:=⟨by have:=congrArg List.length hks;simpa using this,trivial⟩
 have hlen:=ht.k.len
 walk_at "go"
 refine ⟨Z0,dx,_,ho,T.Zi,T.Zk,_,rf4_tally,ta,rfl,_,hta,fun l hl=>?_⟩
 rw [keys_str hks]
 have sml:Same H (upd H l (.lst (ks.map V.str))):=Same.new hl
 have hll:upd H l (.lst (ks.map V.str)) l=some (.lst (ks.map V.str)):=upd_same
 have ho1:=sml _ _ ho
 have hla1:=sml _ _ hla
 have hta1:=sml _ _ hta
 have nlt:l≠ta:=fun e=>by rw [e,hta]at hl;cases hl
 generalize upd H l (.lst (ks.map V.str))=H1 at sml hll ho1 hla1 hta1 ⊢
 refine ⟨⟨_,SqL.of hll⟩,?_⟩
 refine forL_by (xs:=ks.map V.str) (fun i σ H'=>∃(v1:Option V),σ=[some (V.ref q'),v1]∧Kp M H H'∧H' l=some (.lst (ks.map V.str))∧H' q'=some (.ins Z0 dx (rf4 p n s.b.k la s.e ta))∧H' la=some (.dK s.b.la)∧H' ta=some (.dK (hvi s.ta i))) ⟨none,rfl,Kp.of sml,hll,ho1,hla1,hta1⟩ (fun i σ H' _ ⟨_,_,_,h,_⟩=>SqL.of h) ?_ ?_
 · rintro i v σ H' hu ⟨v1,rfl,kp,hL,hO,hLa,hTa⟩
   rw [List.getElem?_map]at hu
   cases hz:ks[i]? with
   | none=>rw [hz]at hu;cases hu
   | some z=>
   rw [hz]at hu
   cases hu
   have hkz:(s.ta.map (·.1))[i]?=some (Sum.inr z):=by rw [hks,List.getElem?_map,hz];rfl
   have hval:=ht.at_ (List.mem_of_getElem? hkz) i
   have hsu:hvi s.ta (i+1)=putK (hvi s.ta i) (Sum.inr z) (.int (tvK (hvi s.ta i) (Sum.inr z) / 2))∧True:=⟨hvi_succ hkz,trivial⟩
   have hln:=(hvi_ok ht i).1.k.len
   clear hkz
   have nqt:q'≠ta:=nq2
   walk_at "go"
   refine ⟨Z0,dx,_,hO,T.Zi,T.Zk,_,rf4_tally,ta,rfl,_,by rw [← hval];exact DGet.k (k:=Sum.inr z) hTa,_,rfl,cdiv_of (by decide) (by decide),Z0,dx,_,hO,T.Zi,T.Zk,_,rf4_tally,ta,rfl,_,DPut.k (k:=Sum.inr z) hTa (by omega),kp.upd (by rw [hM2.1];simp),by rw [upd_ne nlt];exact hL,by rw [upd_ne nqt];exact hO,by rw [upd_ne hne];exact hLa,by rw [upd_same,hsu.1]⟩
 · rintro σ H' ⟨v1,rfl,kp,hL,hO,hLa,hTa⟩
   rw [List.length_map,← hkl.1]at hTa
   walk_at "go"
   exact q H' kp ⟨la,ta,hM2.1,⟨dx,hO⟩,hLa,hTa,hne⟩
theorem Z5n{f:Addr}{fd:FuncData}(F:Fun K "number_ask" "Ranked.number_ask" Z16 f fd)(T:Txt K mg Z6 Z3 Z5 Z9 Z8 Zb Za Z7 Zg Ze Z4 Z2 Zd Z0 Z1 Zf Zc):FnOk P w K mg base (CXF P w) 1 f fd ["self","name"] (sp23_number Z0):=by
 have sc:FnScope ["self","name"] ["self","name"] (defScope Z16):=by walk_at "sc"
 refine F.okF sc (fun vs H Q E h=>?_) (fun cdv A outer s H vs Q E hr h=>?_)
 · obtain ⟨_,_,_,_,_,_,rfl,_⟩:=h;rfl
 obtain ⟨q',p,n,M,s,z,rfl,hh,hl,q⟩:=h
 refine ⟨_,(@pss_cons _ _ _ _ _ (ps_fldaug (pv 0) pe_int in_add)
  (@pss_one _ _ _ (ps_dput (hu_of hr) (pe_fld (pv 0) rfl) (pv 1) (pe_fld (pv 0) rfl) rfl))),?_⟩
 walk_at "st"
 have line:=line_val
 obtain ⟨la,ta,hM,⟨dx,ho⟩,hla,hta,hne⟩:=hh
 have hM2:M=[q',la,ta]∧True:=⟨hM,trivial⟩
 clear hM
 have nq1:q'≠la:=fun e=>by rw [e,hla]at ho;cases ho
 have nq2:q'≠ta:=fun e=>by rw [e,hta]at ho;cases ho
 walk_at "go"
 refine ⟨Z0,dx,_,ho,T.Zi,T.Zq,_,rf4_present,s.b.k,rfl,dx,_,ho,by rw [rf4_len];decide,?_⟩
 have ho1:upd H q' (.ins Z0 dx (rf4 p n (s.b.k+1) la s.e ta)) q'=some (.ins Z0 dx (rf4 p n (s.b.k+1) la s.e ta)):=upd_same
 have hla1:upd H q' (.ins Z0 dx (rf4 p n (s.b.k+1) la s.e ta)) la=some (.dK s.b.la):=by rw [upd_ne nq1.symm];exact hla
 have hta1:upd H q' (.ins Z0 dx (rf4 p n (s.b.k+1) la s.e ta)) ta=some (.dK s.ta):=by rw [upd_ne nq2.symm];exact hta
 have kp1:Kp M H (upd H q' (.ins Z0 dx (rf4 p n (s.b.k+1) la s.e ta))):=(Kp.of (Same.refl H)).upd (by rw [hM2.1];simp)
 rename_i rest hrest
 show rest _ (upd H q' (.ins Z0 dx (rf4 p n (s.b.k+1) la s.e ta)))
 generalize upd H q' (.ins Z0 dx (rf4 p n (s.b.k+1) la s.e ta))=H1 at ho1 hla1 hta1 kp1 ⊢
 have hlp:=length_putK s.b.la (Sum.inr z:Key) (V.int (s.b.k+1))
 subst hrest
 walk_at "go"
 exact ⟨Z0,dx,_,ho1,T.Zi,T.Zq,_,rf4_present,Z0,dx,_,ho1,T.Zi,T.Z03,_,rf4_last,la,rfl,_,DPut.k (k:=Sum.inr z) hla1 (by omega),q _ (kp1.upd (by rw [hM2.1];simp)) ⟨la,ta,hM2.1,⟨dx,by rw [upd_ne nq1];exact ho1⟩,upd_same,by rw [upd_ne hne.symm];exact hta1,hne⟩⟩
theorem Z7p{f:Addr}{fd:FuncData}(F:Fun K "counts" "Halving.counts" Z2h f fd)(T:Txt K mg Z6 Z3 Z5 Z9 Z8 Zb Za Z7 Zg Ze Z4 Z2 Zd Z0 Z1 Zf Zc):FnOk P w K mg base (CXF P w) 1 f fd ["self"] (sp23_counts Z0):=by
 have sc:FnScope ["self"] ["self"] (defScope Z2h):=by walk_at "sc"
 refine F.okF sc (fun vs H Q E h=>?_) (fun cdv A outer s H vs Q E hr h=>?_)
 · obtain ⟨_,_,_,_,_,rfl,_⟩:=h;rfl
 obtain ⟨q',p,n,M,s,rfl,hh,q⟩:=h
 refine ⟨_,(@pss_one _ _ _ (@ps_ret _ _ _ _ (pe_callTy call_dictOf rfl T.Z6s (by first | rfl | decide+kernel) (pa_cons (pe_fld (pv 0) rfl) pa_nil)))),?_⟩
 walk_at "st"
 have line:=line_val
 obtain ⟨la,ta,hM,⟨dx,ho⟩,hla,hta,hne⟩:=hh
 clear hM
 walk_at "go"
 exact ⟨Z0,dx,_,ho,T.Zi,T.Zk,_,rf4_tally,ta,rfl,_,hta,q⟩
theorem Z86{f:Addr}{fd:FuncData}(F:Fun K "asked" "Halving.asked" Z33 f fd)(T:Txt K mg Z6 Z3 Z5 Z9 Z8 Zb Za Z7 Zg Ze Z4 Z2 Zd Z0 Z1 Zf Zc)(Z38:DefM P w K mg base (CXF P w) 1 Z0 "halve" ["self"] (sp23_halve Z0))(Z18:DefM P w K mg base (CXF P w) 1 Z0 "number_ask" ["self","name"] (sp23_number Z0)):FnOk P w K mg base (CXF P w) 2 f fd ["self","name"] (sp29_asked (C5.mk Z4 Z2 Z2 Z0 Z1) .ha):=by
 have sc:FnScope ["self","name"] ["self","name"] (defScope Z33):=by walk_at "sc"
 refine F.okF sc (fun vs H Q E h=>?_) (fun cdv A outer s H vs Q E hr h=>?_)
 · obtain ⟨_,_,_,_,_,_,_,_,_,_,rfl,_⟩:=h;rfl
 obtain ⟨ys,hyl,q',p,n,M,s,l,ns,z,rfl,hh,hi,hz,hns,q⟩:=h
 refine ⟨_,(@pss_cons _ _ _ _ _ (ps_if (pt_cmpR op_eq (pe_op op_mod (pe_fld (pv 0) rfl) (pe_fld (pv 0) rfl)) pe_int (nomark _))
  (@pss_one _ _ _ (ps_expr (pe_methS0 Z38 T.Zi hr (passS pass_onF) (pv 0))))
  pss_nil)
  (@pss_cons _ _ _ _ _ (ps_expr (pe_methS Z18 T.Zi hr (passS pass_onF) (pv 0) (pa_cons (pv 1) pa_nil)))
  (@pss_one _ _ _ (ps_dput (hu_of hr) (pe_fld (pv 0) rfl) (pv 1) (pe_op op_add (pe_dget2 (hu_of hr) (pe_fld (pv 0) rfl) (pv 1) pe_int ⟨rfl,rfl,rfl,rfl⟩) pe_int) rfl)))),?_⟩
 walk_at "st"
 have line:=line_val
 obtain ⟨s,rfl⟩:∃s':S4,s=s':=⟨s,rfl⟩
 have hh':GAt Z0 H M q' p n s:=hh
 have hi':LI ns s.b l∧CI ns s l:=hi
 obtain ⟨la,ta,hM,⟨dx,ho⟩,hla,hta,hne⟩:=id hh'
 have hM2:M=[q',la,ta]∧True:=⟨hM,trivial⟩
 clear hM
 have hlen:=hi'.1.a.len
 have hci:CI ns s l:=hi'.2
 have he1:=hci.e1
 walk_at "go"
 refine ⟨Z0,dx,_,ho,T.Zi,T.Zq,_,rf4_present,Z0,dx,_,ho,T.Zi,T.Z0j,_,rf4_turn,s.b.k,rfl,s.e,rfl,by omega,?_⟩
 rename_i rest hrest
 have key:∀H1,Kp M H H1→GAt Z0 H1 M q' p n ⟨s.b,tbl s.e s.b.k s.ta,s.e⟩→rest [some (V.ref q'),some (V.str z)] H1:=by
  intro H1 kp1 h1
  have hti:=(tbl_ok (e:=s.e) (k:=s.b.k) hci.t).1
  have htl:=hti.k.len
  obtain ⟨la1,ta1,hM1,⟨dx1,ho1⟩,hla1,hta1,hne1⟩:=id h1
  clear hM1 hla1 hta1 hne1
  subst hrest
  walk_at "go"
  refine ⟨dx1,_,ho1,by rfl,p,n,M,_,h1,by show s.b.la.length≤1000;omega,fun H2 kp2 h2=>?_⟩
  obtain ⟨la2,ta2,hM3,⟨dx2,ho2⟩,hla2,hta2,hne2⟩:=id h2
  have hM4:M=[q',la2,ta2]∧True:=⟨hM3,trivial⟩
  clear hM3
  rename_i rest hrest
  subst hrest
  have nq2':q'≠ta2:=fun e=>by rw [e,hta2]at ho2;cases ho2
  have hlp:=length_putK (tbl s.e s.b.k s.ta) (Sum.inr z:Key) (V.int (tvK (tbl s.e s.b.k s.ta) (Sum.inr z)+1))
  walk_at "go"
  exact ⟨Z0,dx2,_,ho2,T.Zi,T.Zk,_,rf4_tally,ta2,rfl,.inl ⟨_,.inl hta2⟩,_,DGet.k (k:=Sum.inr z) hta2,_,hti.get,Z0,dx2,_,ho2,T.Zi,T.Zk,_,rf4_tally,ta2,rfl,_,DPut.k (k:=Sum.inr z) hta2 (by show (tbl s.e s.b.k s.ta).length < _;omega),q _ ((kp1.trans kp2).upd (by rw [hM4.1];simp)) ⟨la2,ta2,hM4.1,⟨dx2,by rw [upd_ne nq2'];exact ho2⟩,by rw [upd_ne hne2];exact hla2,upd_same,hne2⟩⟩
 clear hrest
 by_cases hk:s.b.k % s.e=0
 · rw [if_pos hk]
   refine ⟨dx,_,ho,by rfl,p,n,M,s,hh',ns,hci.t,by omega,fun H1 kp1 h1=>key H1 kp1 ?_⟩
   unfold tbl
   rw [if_pos hk];exact h1
 · rw [if_neg hk]
   refine key H (Kp.of (Same.refl H)) ?_
   unfold tbl
   rw [if_neg hk];exact hh'
theorem Z6y{f:Addr}{fd:FuncData}(F:Fun K "last_of" "Ranked.last_of" Z21 f fd)(T:Txt K mg Z6 Z3 Z5 Z9 Z8 Zb Za Z7 Zg Ze Z4 Z2 Zd Z0 Z1 Zf Zc):FnOk P w K mg base (CXF P w) 1 f fd ["self","name"] (sp29_last4 Z0):=by
 have sc:FnScope ["self","name"] ["self","name"] (defScope Z21):=by walk_at "sc"
 refine F.okF sc (fun vs H Q E h=>?_) (fun cdv A outer s H vs Q E hr h=>?_)
 · obtain ⟨_,_,_,_,_,_,_,rfl,_⟩:=h;rfl
 obtain ⟨q',p,n,M,s,z,ns,rfl,hh,ht,q⟩:=h
 refine ⟨_,(@pss_one _ _ _ (@ps_ret _ _ _ _ (pe_dget2 (hu_of hr) (pe_fld (pv 0) rfl) (pv 1) pe_int ⟨rfl,rfl,rfl,rfl⟩))),?_⟩
 walk_at "st"
 have line:=line_val
 obtain ⟨la,ta,hM,⟨dx,ho⟩,hla,hta,hne⟩:=hh
 clear hM
 walk_at "go"
 exact ⟨Z0,dx,_,ho,T.Zi,T.Z03,_,rf4_last,la,rfl,.inl ⟨_,.inl hla⟩,_,DGet.k (k:=Sum.inr z) hla,by rw [lv_get ht];exact q⟩
theorem Z8u{f:Addr}{fd:FuncData}(F:Fun K "rank" "Halving.rank" Z3l f fd)(T:Txt K mg Z6 Z3 Z5 Z9 Z8 Zb Za Z7 Zg Ze Z4 Z2 Zd Z0 Z1 Zf Zc)(Z22:DefM P w K mg base (CXF P w) 1 Z0 "last_of" ["self","name"] (sp29_last4 Z0)):FnOk P w K mg base (CXF P w) 2 f fd ["self","name"] (sp29_rank (C5.mk Z4 Z2 Z2 Z0 Z1) .ha):=by
 have sc:FnScope ["self","name"] ["self","name"] (defScope Z3l):=by walk_at "sc"
 refine F.okF sc (fun vs H Q E h=>?_) (fun cdv A outer s H vs Q E hr h=>?_)
 · obtain ⟨_,_,_,_,_,_,_,_,_,rfl,_⟩:=h;rfl
 obtain ⟨ys,q',p,n,M,s,z,ns,hyl,rfl,hh,ht,q⟩:=h
 refine ⟨_,(@pss_one _ _ _ (@ps_ret _ _ _ _ (pe_tup (pa_cons (pe_dget2 (hu_of hr) (pe_fld (pv 0) rfl) (pv 1) pe_int ⟨rfl,rfl,rfl,rfl⟩) (pa_cons (pe_methS Z22 T.Zi hr (passS pass_onF) (pv 0) (pa_cons (pv 1) pa_nil)) pa_nil))))),?_⟩
 walk_at "st"
 have line:=line_val
 have hh':GAt Z0 H M q' p n s:=hh
 have ht':TI ns (S4.b s).la∧TI ns (S4.ta s):=ht
 obtain ⟨la,ta,hM,⟨dx,ho⟩,hla,hta,hne⟩:=id hh'
 clear hM
 walk_at "go"
 exact ⟨Z0,dx,_,ho,T.Zi,T.Zk,_,rf4_tally,ta,rfl,.inl ⟨_,.inl hta⟩,_,DGet.k (k:=Sum.inr z) hta,dx,_,ho,by rfl,p,n,M,s,hh',ns,ht'.1,by omega,fun t htt=>by rw [ht'.2.get];exact q t htt⟩
theorem Z5c{f:Addr}{fd:FuncData}(F:Fun K "number_ask" "Ranked.number_ask" Z14 f fd)(T:Txt K mg Z6 Z3 Z5 Z9 Z8 Zb Za Z7 Zg Ze Z4 Z2 Zd Z0 Z1 Zf Zc):FnOk P w K mg base (CXF P w) 1 f fd ["self","name"] (sp24_number Z1):=by
 have sc:FnScope ["self","name"] ["self","name"] (defScope Z14):=by walk_at "sc"
 refine F.okF sc (fun vs H Q E h=>?_) (fun cdv A outer s H vs Q E hr h=>?_)
 · obtain ⟨_,_,_,_,_,_,_,rfl,_⟩:=h;rfl
 obtain ⟨q',p,n,M,s,z,ys,rfl,hh,hl,q⟩:=h
 refine ⟨_,(@pss_cons _ _ _ _ _ (ps_fldaug (pv 0) pe_int in_add)
  (@pss_one _ _ _ (ps_dput (hu_of hr) (pe_fld (pv 0) rfl) (pv 1) (pe_fld (pv 0) rfl) rfl))),?_⟩
 walk_at "st"
 have line:=line_val
 obtain ⟨la,ak,hM,⟨dx,ho⟩,hla,hak⟩:=hh
 have hM2:M=[q',la,ak]∧True:=⟨hM,trivial⟩
 clear hM
 have nq1:q'≠la:=fun e=>by rw [e,hla]at ho;cases ho
 have nq2:q'≠ak:=fun e=>by rw [e,hak]at ho;cases ho
 have nla:la≠ak:=fun e=>by rw [e,hak]at hla;cases hla
 walk_at "go"
 refine ⟨Z1,dx,_,ho,T.Zj,T.Zp,_,rf3_present,s.k,rfl,dx,_,ho,by rw [rf3_len];decide,?_⟩
 have ho1:upd H q' (.ins Z1 dx (rf3 p n (s.k+1) la ak)) q'=some (.ins Z1 dx (rf3 p n (s.k+1) la ak)):=upd_same
 have hla1:upd H q' (.ins Z1 dx (rf3 p n (s.k+1) la ak)) la=some (.dK s.la):=by rw [upd_ne nq1.symm];exact hla
 have hak1:upd H q' (.ins Z1 dx (rf3 p n (s.k+1) la ak)) ak=some (.lst (ys.map V.str)):=by rw [upd_ne nq2.symm];exact hak
 have kp1:Kp M H (upd H q' (.ins Z1 dx (rf3 p n (s.k+1) la ak))):=(Kp.of (Same.refl H)).upd (by rw [hM2.1];simp)
 rename_i rest hrest
 show rest _ (upd H q' (.ins Z1 dx (rf3 p n (s.k+1) la ak)))
 generalize upd H q' (.ins Z1 dx (rf3 p n (s.k+1) la ak))=H1 at ho1 hla1 hak1 kp1 ⊢
 have hlp:=length_putK s.la (Sum.inr z:Key) (V.int (s.k+1))
 subst hrest
 walk_at "go"
 exact ⟨Z1,dx,_,ho1,T.Zj,T.Zp,_,rf3_present,Z1,dx,_,ho1,T.Zj,T.Zz,_,rf3_last,la,rfl,_,DPut.k (k:=Sum.inr z) hla1 (by omega),q _ (kp1.upd (by rw [hM2.1];simp)) ⟨la,ak,hM2.1,⟨dx,by rw [upd_ne nq1];exact ho1⟩,upd_same,by rw [upd_ne nla.symm];exact hak1⟩⟩
theorem Z6o{f:Addr}{fd:FuncData}(F:Fun K "last_of" "Ranked.last_of" Z1q f fd)(T:Txt K mg Z6 Z3 Z5 Z9 Z8 Zb Za Z7 Zg Ze Z4 Z2 Zd Z0 Z1 Zf Zc):FnOk P w K mg base (CXF P w) 1 f fd ["self","name"] (sp29_last3 Z1):=by
 have sc:FnScope ["self","name"] ["self","name"] (defScope Z1q):=by walk_at "sc"
 refine F.okF sc (fun vs H Q E h=>?_) (fun cdv A outer s H vs Q E hr h=>?_)
 · obtain ⟨_,_,_,_,_,_,_,_,rfl,_⟩:=h;rfl
 obtain ⟨ys,q',p,n,M,s,z,ns,rfl,hh,ht,q⟩:=h
 refine ⟨_,(@pss_one _ _ _ (@ps_ret _ _ _ _ (pe_dget2 (hu_of hr) (pe_fld (pv 0) rfl) (pv 1) pe_int ⟨rfl,rfl,rfl,rfl⟩))),?_⟩
 walk_at "st"
 have line:=line_val
 obtain ⟨la,ak,hM,⟨dx,ho⟩,hla,hak⟩:=hh
 clear hM
 walk_at "go"
 exact ⟨Z1,dx,_,ho,T.Zj,T.Zz,_,rf3_last,la,rfl,.inl ⟨_,.inl hla⟩,_,DGet.k (k:=Sum.inr z) hla,by rw [lv_get ht];exact q⟩
theorem Z5o{f:Addr}{fd:FuncData}(F:Fun K "coming_of" "Farthest.coming_of" Z17 f fd)(T:Txt K mg Z6 Z3 Z5 Z9 Z8 Zb Za Z7 Zg Ze Z4 Z2 Zd Z0 Z1 Zf Zc):FnOk P w K mg base (CXF P w) 1 f fd ["self","name"] (sp24_coming Z1):=by
 have sc:FnScope ["self","name","before"] ["self","name"] (defScope Z17):=by walk_at "sc"
 refine F.okF sc (fun vs H Q E h=>?_) (fun cdv A outer s H vs Q E hr h=>?_)
 · obtain ⟨_,_,_,_,_,_,_,rfl,_⟩:=h;rfl
 obtain ⟨q',p,n,M,s,z,ys,rfl,hh,hk0,hk1,hlen,q⟩:=h
 refine ⟨_,(@pss_cons _ _ _ _ _ (ps_for own_outF rfl (pi_range2 rfl T.Z13 (pa_cons (pe_fld (pv 0) rfl) (pa_cons (pe_callB call_len_seq rfl T.Z06 PySem.boot_len (pa_cons (pe_fld (pv 0) rfl) pa_nil)) pa_nil))) (pg_name (i:=2) sc.nd rfl (Or.inl rfl))
  (@pss_one _ _ _ (ps_if (pt_cmpR op_eq (@pe_ix _ _ _ _ _ _ _ ix_list (pe_fld (pv 0) rfl) (pv 2) (fun _ _=>rfl)) (pv 1) (nomark _))
   (@pss_one _ _ _ (@ps_ret _ _ _ _ (pe_op op_add (pv 2) pe_int)))
   pss_nil)))
  (@pss_one _ _ _ (@ps_ret _ _ _ _ (pe_op op_add (pe_callB call_len_seq rfl T.Z06 PySem.boot_len (pa_cons (pe_fld (pv 0) rfl) pa_nil)) pe_int)))),?_⟩
 walk_at "st"
 have line:=line_val
 obtain ⟨la,ak,hM,⟨dx,ho⟩,hla,hak⟩:=hh
 clear hM
 walk_at "go"
 refine ⟨Z1,dx,_,ho,T.Zj,T.Zp,_,rf3_present,Z1,dx,_,ho,T.Zj,T.Zt,_,rf3_asks,?_⟩
 refine ⟨ak,rfl,_,.inl (SqL.of hak),s.k,rfl,by omega,by omega,by rw [List.length_map];omega,by rw [List.length_map];omega,?_⟩
 rw [List.length_map]
 have hkn:s.k=((s.k.toNat:Nat):Int)∧True:=⟨by omega,trivial⟩
 rename_i rest hrest
 refine forR_by (fun i σ H'=>∃v2:Option V,σ=[some (V.ref q'),some (V.str z),v2]∧H'=H∧∀u,u < i→ys[s.k.toNat+u]?≠some z) ⟨none,rfl,rfl,fun u hu=>absurd hu (Nat.not_lt_zero _)⟩ ?_ ?_
 · clear hrest
   rintro i σ H' hi ⟨v2,rfl,rfl,hno⟩
   have hil:s.k.toNat+i < ys.length:=by omega
   have hy:=List.getElem?_eq_getElem hil
   generalize ys[s.k.toNat+i]=y at hy
   walk_at "go"
   refine ⟨Z1,dx,_,ho,T.Zj,T.Zt,_,rf3_asks,ixL_of (SqL.of hak) (v:=V.str y) (by rw [show s.k+(i:Int)=((s.k.toNat+i:Nat):Int) by omega];exact atI_nat (by rw [List.getElem?_map,hy];rfl)) ?_⟩
   refine ⟨rfl,?_⟩
   by_cases e:y=z
   · rw [if_pos (by rw [e])]
     rw [e]at hy
     rw [nx_at hy hno]at q
     rw [show s.k+(i:Int)+1=((s.k.toNat+i:Nat):Int)+1 by omega]
     exact q
   · rw [if_neg (fun h=>e (by injection h))]
     refine ⟨rfl,fun u hu=>?_⟩
     by_cases eu:u=i
     · rw [eu,hy];exact fun h=>e (Option.some.inj h)
     · exact hno u (by omega)
 · rintro σ H' ⟨v2,rfl,rfl,hno⟩
   rw [nx_end (fun u hu=>hno u (by omega))]at q
   subst hrest
   walk_at "go"
   refine ⟨Z1,dx,_,ho,T.Zj,T.Zt,_,rf3_asks,ak,rfl,_,.inl (SqL.of hak),?_⟩
   rw [List.length_map]
   exact q
theorem Z87{f:Addr}{fd:FuncData}(F:Fun K "rank" "Farthest.rank" Z34 f fd)(T:Txt K mg Z6 Z3 Z5 Z9 Z8 Zb Za Z7 Zg Ze Z4 Z2 Zd Z0 Z1 Zf Zc)(Z19:DefM P w K mg base (CXF P w) 1 Z1 "coming_of" ["self","name"] (sp24_coming Z1))(Z1r:DefM P w K mg base (CXF P w) 1 Z1 "last_of" ["self","name"] (sp29_last3 Z1)):FnOk P w K mg base (CXF P w) 2 f fd ["self","name"] (sp29_rank (C5.mk Z4 Z2 Z2 Z0 Z1) .fa):=by
 have sc:FnScope ["self","name"] ["self","name"] (defScope Z34):=by walk_at "sc"
 refine F.okF sc (fun vs H Q E h=>?_) (fun cdv A outer s H vs Q E hr h=>?_)
 · obtain ⟨_,_,_,_,_,_,_,_,_,rfl,_⟩:=h;rfl
 obtain ⟨ys,q',p,n,M,s,z,ns,hyl,rfl,hh,ht,q⟩:=h
 refine ⟨_,(@pss_one _ _ _ (@ps_ret _ _ _ _ (pe_tup (pa_cons (pe_op op_sub pe_int (pe_methS Z19 T.Zj hr (passS pass_onF) (pv 0) (pa_cons (pv 1) pa_nil))) (pa_cons (pe_methS Z1r T.Zj hr (passS pass_onF) (pv 0) (pa_cons (pv 1) pa_nil)) pa_nil))))),?_⟩
 walk_at "st"
 have line:=line_val
 have hh':QAt Z1 ys H M q' p n s:=hh
 have ht':TI ns (S2.la s)∧0≤S2.k s∧S2.k s≤1000:=ht
 obtain ⟨la,ak,hM,⟨dx,ho⟩,hla,hak⟩:=id hh'
 clear hM
 walk_at "go"
 exact ⟨dx,_,ho,by rfl,p,n,M,s,ys,hh',ht'.2.1,by omega,hyl,dx,_,ho,by rfl,ys,p,n,M,s,hh',ns,ht'.1,by omega,fun t htt=>q t htt⟩
theorem Z7q{f:Addr}{fd:FuncData}(F:Fun K "asked" "Ranked.asked" Z2i f fd)(T:Txt K mg Z6 Z3 Z5 Z9 Z8 Zb Za Z7 Zg Ze Z4 Z2 Zd Z0 Z1 Zf Zc)(Z15:DefM P w K mg base (CXF P w) 1 Z1 "number_ask" ["self","name"] (sp24_number Z1)):FnOk P w K mg base (CXF P w) 2 f fd ["self","name"] (sp29_asked (C5.mk Z4 Z2 Z2 Z0 Z1) .fa):=by
 have sc:FnScope ["self","name"] ["self","name"] (defScope Z2i):=by walk_at "sc"
 refine F.okF sc (fun vs H Q E h=>?_) (fun cdv A outer s H vs Q E hr h=>?_)
 · obtain ⟨_,_,_,_,_,_,_,_,_,_,rfl,_⟩:=h;rfl
 obtain ⟨ys,hyl,q',p,n,M,s,l,ns,z,rfl,hh,hi,hz,hns,q⟩:=h
 refine ⟨_,(@pss_one _ _ _ (ps_expr (pe_methS Z15 T.Zj hr (passS pass_onF) (pv 0) (pa_cons (pv 1) pa_nil)))),?_⟩
 walk_at "st"
 have line:=line_val
 have hh':QAt Z1 ys H M q' p n s:=hh
 obtain ⟨la,ak,hM,⟨dx,ho⟩,hla,hak⟩:=id hh'
 have hi':LI ns s l∧0≤S2.k s:=hi
 have hlen:=hi'.1.a.len
 walk_at "go"
 exact ⟨dx,_,ho,by rfl,p,n,M,s,ys,hh',by omega,fun H1 kp1 h1=>q H1 kp1 h1⟩
theorem Z9k{f:Addr}{fd:FuncData}(F:Fun K "nests" "Rule.nests" Z4j f fd)(T:Txt K mg Z6 Z3 Z5 Z9 Z8 Zb Za Z7 Zg Ze Z4 Z2 Zd Z0 Z1 Zf Zc):FnOk P w K mg base (CXF P w) 1 f fd ["self"] (sp38_nests false):=by
 have sc:FnScope ["self"] ["self"] (defScope Z4j):=by walk_at "sc"
 refine F.okF sc (fun vs H Q E h=>?_) (fun cdv A outer s H vs Q E hr h=>?_)
 · obtain ⟨_,rfl,_⟩:=h;rfl
 obtain ⟨q',rfl,q⟩:=h
 refine ⟨_,(@pss_one _ _ _ (@ps_ret _ _ _ _ pe_bl)),?_⟩
 walk_at "st"
 walk_at "go"
 exact q
theorem Z8v{f:Addr}{fd:FuncData}(F:Fun K "nests" "Rule.nests" Z3m f fd)(T:Txt K mg Z6 Z3 Z5 Z9 Z8 Zb Za Z7 Zg Ze Z4 Z2 Zd Z0 Z1 Zf Zc):FnOk P w K mg base (CXF P w) 1 f fd ["self"] (sp38_nests false):=by
 have sc:FnScope ["self"] ["self"] (defScope Z3m):=by walk_at "sc"
 refine F.okF sc (fun vs H Q E h=>?_) (fun cdv A outer s H vs Q E hr h=>?_)
 · obtain ⟨_,rfl,_⟩:=h;rfl
 obtain ⟨q',rfl,q⟩:=h
 refine ⟨_,(@pss_one _ _ _ (@ps_ret _ _ _ _ pe_bl)),?_⟩
 walk_at "st"
 walk_at "go"
 exact q
theorem Z8w{f:Addr}{fd:FuncData}(F:Fun K "nests" "Oldest.nests" Z3n f fd)(T:Txt K mg Z6 Z3 Z5 Z9 Z8 Zb Za Z7 Zg Ze Z4 Z2 Zd Z0 Z1 Zf Zc):FnOk P w K mg base (CXF P w) 1 f fd ["self"] (sp38_nests true):=by
 have sc:FnScope ["self"] ["self"] (defScope Z3n):=by walk_at "sc"
 refine F.okF sc (fun vs H Q E h=>?_) (fun cdv A outer s H vs Q E hr h=>?_)
 · obtain ⟨_,rfl,_⟩:=h;rfl
 obtain ⟨q',rfl,q⟩:=h
 refine ⟨_,(@pss_one _ _ _ (@ps_ret _ _ _ _ pe_bl)),?_⟩
 walk_at "st"
 walk_at "go"
 exact q
theorem Z9a{f:Addr}{fd:FuncData}(F:Fun K "nests" "Rule.nests" Z44 f fd)(T:Txt K mg Z6 Z3 Z5 Z9 Z8 Zb Za Z7 Zg Ze Z4 Z2 Zd Z0 Z1 Zf Zc):FnOk P w K mg base (CXF P w) 1 f fd ["self"] (sp38_nests false):=by
 have sc:FnScope ["self"] ["self"] (defScope Z44):=by walk_at "sc"
 refine F.okF sc (fun vs H Q E h=>?_) (fun cdv A outer s H vs Q E hr h=>?_)
 · obtain ⟨_,rfl,_⟩:=h;rfl
 obtain ⟨q',rfl,q⟩:=h
 refine ⟨_,(@pss_one _ _ _ (@ps_ret _ _ _ _ pe_bl)),?_⟩
 walk_at "st"
 walk_at "go"
 exact q
theorem Z88{f:Addr}{fd:FuncData}(F:Fun K "nests" "Halving.nests" Z35 f fd)(T:Txt K mg Z6 Z3 Z5 Z9 Z8 Zb Za Z7 Zg Ze Z4 Z2 Zd Z0 Z1 Zf Zc):FnOk P w K mg base (CXF P w) 1 f fd ["self"] (sp38_nests true):=by
 have sc:FnScope ["self"] ["self"] (defScope Z35):=by walk_at "sc"
 refine F.okF sc (fun vs H Q E h=>?_) (fun cdv A outer s H vs Q E hr h=>?_)
 · obtain ⟨_,rfl,_⟩:=h;rfl
 obtain ⟨q',rfl,q⟩:=h
 refine ⟨_,(@pss_one _ _ _ (@ps_ret _ _ _ _ pe_bl)),?_⟩
 walk_at "st"
 walk_at "go"
 exact q
theorem Z7r{f:Addr}{fd:FuncData}(F:Fun K "nests" "Farthest.nests" Z2j f fd)(T:Txt K mg Z6 Z3 Z5 Z9 Z8 Zb Za Z7 Zg Ze Z4 Z2 Zd Z0 Z1 Zf Zc):FnOk P w K mg base (CXF P w) 1 f fd ["self"] (sp38_nests true):=by
 have sc:FnScope ["self"] ["self"] (defScope Z2j):=by walk_at "sc"
 refine F.okF sc (fun vs H Q E h=>?_) (fun cdv A outer s H vs Q E hr h=>?_)
 · obtain ⟨_,rfl,_⟩:=h;rfl
 obtain ⟨q',rfl,q⟩:=h
 refine ⟨_,(@pss_one _ _ _ (@ps_ret _ _ _ _ pe_bl)),?_⟩
 walk_at "st"
 walk_at "go"
 exact q
theorem Z9l{f:Addr}{fd:FuncData}(F:Fun K "nests" "Rule.nests" Z4k f fd)(T:Txt K mg Z6 Z3 Z5 Z9 Z8 Zb Za Z7 Zg Ze Z4 Z2 Zd Z0 Z1 Zf Zc):FnOk P w K mg base (CXF P w) 1 f fd ["self"] (sp38_nests false):=by
 have sc:FnScope ["self"] ["self"] (defScope Z4k):=by walk_at "sc"
 refine F.okF sc (fun vs H Q E h=>?_) (fun cdv A outer s H vs Q E hr h=>?_)
 · obtain ⟨_,rfl,_⟩:=h;rfl
 obtain ⟨q',rfl,q⟩:=h
 refine ⟨_,(@pss_one _ _ _ (@ps_ret _ _ _ _ pe_bl)),?_⟩
 walk_at "st"
 walk_at "go"
 exact q
theorem Z9m{f:Addr}{fd:FuncData}(F:Fun K "nests" "Rule.nests" Z4l f fd)(T:Txt K mg Z6 Z3 Z5 Z9 Z8 Zb Za Z7 Zg Ze Z4 Z2 Zd Z0 Z1 Zf Zc):FnOk P w K mg base (CXF P w) 1 f fd ["self"] (sp38_nests false):=by
 have sc:FnScope ["self"] ["self"] (defScope Z4l):=by walk_at "sc"
 refine F.okF sc (fun vs H Q E h=>?_) (fun cdv A outer s H vs Q E hr h=>?_)
 · obtain ⟨_,rfl,_⟩:=h;rfl
 obtain ⟨q',rfl,q⟩:=h
 refine ⟨_,(@pss_one _ _ _ (@ps_ret _ _ _ _ pe_bl)),?_⟩
 walk_at "st"
 walk_at "go"
 exact q
theorem Z9n{f:Addr}{fd:FuncData}(F:Fun K "check_walk" "check_walk" Z4m f fd)(T:Txt K mg Z6 Z3 Z5 Z9 Z8 Zb Za Z7 Zg Ze Z4 Z2 Zd Z0 Z1 Zf Zc)(Zr:Def P w K mg base (CXF P w) 5 "check_asks" ["stock","asks","places"] (sp13_asks K Z7 Z9 Z8 Z3 Z5))(Z46:Def P w K mg base (CXF P w) 5 "check_rooms" ["stock","asks"] (sp38_rooms K Z7 Za))(Z4o:DefM P w K mg base (CXF P w) 1 Ze "nests" ["self"] (sp38_nests false))(Z3s:DefM P w K mg base (CXF P w) 1 Z4 "nests" ["self"] (sp38_nests false))(Z3t:DefM P w K mg base (CXF P w) 1 Z2 "nests" ["self"] (sp38_nests true))(Z47:DefM P w K mg base (CXF P w) 1 Zd "nests" ["self"] (sp38_nests false))(Z39:DefM P w K mg base (CXF P w) 1 Z0 "nests" ["self"] (sp38_nests true))(Z2m:DefM P w K mg base (CXF P w) 1 Z1 "nests" ["self"] (sp38_nests true))(Z4p:DefM P w K mg base (CXF P w) 1 Zf "nests" ["self"] (sp38_nests false))(Z4q:DefM P w K mg base (CXF P w) 1 Zc "nests" ["self"] (sp38_nests false)):FnOk P w K mg base (CXF P w) 7 f fd ["rule","asks"] (sp38_walk (C8.mk Ze Z4 Z2 Zd Z0 Z1 Zf Zc) (Ex8.mk Z8 Z3 Z5 Zb Za) K Z7):=by
 have sc:FnScope ["rule","asks"] ["rule","asks"] (defScope Z4m):=by walk_at "sc"
 refine F.okF sc (fun vs H Q E h=>?_) (fun cdv A outer s H vs Q E hr h=>?_)
 · obtain ⟨_,_,_,_,_,_,_,_,_,rfl,_⟩:=h;rfl
 obtain ⟨w8,q',p,a,n,M,s,ts,ys,rfl,hh,hst,nd,ha,hyl,hyn,h1,h2,q⟩:=h
 refine ⟨_,(@pss_cons _ _ _ _ _ (ps_expr (pe_callD Zr hr rfl pass_onF (pa_cons (pe_fld (pv 0) rfl) (pa_cons (pv 1) (pa_cons (pe_fld (pv 0) rfl) pa_nil)))))
  (@pss_cons _ _ _ _ _ (ps_if (pt_not (pt_val (pe_methI0 (C:=fun w:W8=>(T8 (C8.mk Ze Z4 Z2 Zd Z0 Z1 Zf Zc) w).C) (sp:=fun w:W8=>sp38_nests (nB w)) (fun w=>by cases w;exact Z4o;exact Z3s;exact Z3t;exact Z47;exact Z39;exact Z2m;exact Z4p;exact Z4q) (fun w=>by cases w;exact T.Z93;exact T.Z6p;exact T.Z01;exact T.Z5p;exact T.Zi;exact T.Zj;exact T.Z5m;exact T.Z1u) hr (passS pass_onF) (pv 0))))
   (@pss_one _ _ _ (ps_raiseF T.Zdq rfl T.k_NoRule rfl rfl T.Z9r raisesF (pa_cons pe_str pa_nil)))
   pss_nil)
  (@pss_one _ _ _ (ps_expr (pe_callD Z46 hr rfl pass_onF (pa_cons (pe_fld (pv 0) rfl) (pa_cons (pv 1) pa_nil))))))),?_⟩
 walk_at "st"
 have line:=line_val
 have hcl:∀w,Cls K (T8 (C8.mk Ze Z4 Z2 Zd Z0 Z1 Zf Zc) w).C:=fun w=>by cases w;exact T.Z93;exact T.Z6p;exact T.Z01;exact T.Z5p;exact T.Zi;exact T.Zj;exact T.Z5m;exact T.Z1u
 have hns:∀w,NoAttr K (T8 (C8.mk Ze Z4 Z2 Zd Z0 Z1 Zf Zc) w).C "stock":=fun w=>by cases w;exact T.Z0y;exact T.Z0g;exact T.Z0h;exact T.Z0s;exact T.Z09;exact T.Z04;exact T.Z10;exact T.Z11
 have hnp:∀w,NoAttr K (T8 (C8.mk Ze Z4 Z2 Zd Z0 Z1 Zf Zc) w).C "places":=fun w=>by cases w;exact T.Z0r;exact T.Z07;exact T.Z08;exact T.Z0i;exact T.Z02;exact T.Z00;exact T.Z0t;exact T.Z0u
 obtain ⟨dx,fs,ho,f1,f2,_,_,_,_,f3⟩:=RuleT.obj _ hh
 walk_at "go"
 refine ⟨_,dx,fs,ho,hcl w8,hns w8,_,f1,_,dx,fs,ho,hcl w8,hnp w8,_,f2,p,rfl,ts,hst,nd,ys,ha,hyl,N53.NumV.flat rfl,fun e H1 sm1=>?_,fun e H' y sm hy er=>?_,fun e H' y sm hy er=>?_,fun z i e H' y sm hy er=>?_,fun z i e H' y sm hy er=>?_⟩
 rotate_left
 · exact absurd e (ask_nonum h1 h2)
 · have h0:=ask_inv (r:= .many) h1 h2 e rfl
   unfold due8 at q;rw [h0]at q;exact q H' y sm hy er
 · have h0:=ask_inv (r:= .unk z i) h1 h2 e rfl
   unfold due8 at q;rw [h0]at q;exact q H' y sm hy er
 · have h0:=ask_inv (r:= .wide z i) h1 h2 e rfl
   unfold due8 at q;rw [h0]at q;exact q H' y sm hy er
 have h0:ask8 ts n ys= .no:=ask_inv (r:= .no) h1 h2 e rfl
 obtain ⟨hl2,hin,hrm⟩:=fine_of h1 h2 h0
 unfold due8 at q
 rw [h0]at q
 simp only at q
 clear e h0
 have ho1:=sm1 _ _ ho
 rename_i rest hrest
 subst hrest
 walk_at "go"
 refine ⟨w8,dx,fs,ho1,f3,?_⟩
 cases hb:nB w8 with
 | false=>
  rw [if_pos rfl]
  rw [hb]at q
  refine ⟨by omega,fun x hx=>⟨same_none sm1 hx,q _ x (sm1.trans (Same.new hx)) (same_none sm1 hx) upd_same⟩⟩
 | true=>
 rw [if_neg (by decide)]
 rw [hb,if_pos rfl]at q
 rename_i rest hrest
 subst hrest
 walk_at "go"
 refine ⟨_,dx,fs,ho1,hcl w8,hns w8,_,f1,p,rfl,ts,hst.same sm1,nd,ys,sm1.seq ha,hin,hl2,hyn,fun h=>?_,fun h H' e sm he er=>?_⟩
 · rw [if_pos h]at q
   exact q H1 sm1
 · rw [if_neg h]at q
   exact q H' e (sm1.trans sm) (same_none sm1 he) er
theorem Zad{f:Addr}{fd:FuncData}(F:Fun K "depth_in" "depth_in" Z5u f fd)(T:Txt K mg Z6 Z3 Z5 Z9 Z8 Zb Za Z7 Zg Ze Z4 Z2 Zd Z0 Z1 Zf Zc):FnOk P w K mg base (CXF P w) 1 f fd ["row","name"] (sp36_depth K):=by
 have sc:FnScope ["row","name"] ["row","name"] (defScope Z5u):=by walk_at "sc"
 refine F.okF sc (fun vs H Q E h=>?_) (fun cdv A outer s H vs Q E hr h=>?_)
 · obtain ⟨_,_,_,rfl,_⟩:=h;rfl
 obtain ⟨r,z,row,rfl,hr',hl,q⟩:=h
 refine ⟨_,(@pss_cons _ _ _ _ _ (ps_if (pt_cmpR op_notIn_seq (pv 1) (pv 0) (by with_unfolding_all rfl))
  (@pss_one _ _ _ (@ps_ret _ _ _ _ pe_non))
  pss_nil)
  (@pss_one _ _ _ (@ps_ret _ _ _ _ (pe_op op_add (pe_bm PySem.F.plainAttrs_list PySem.F.slot_list_index PySem.F.type_list_index mt_index (pv 0) (pa_cons (pv 1) pa_nil)) pe_int)))),?_⟩
 walk_at "st"
 have line:=line_val
 walk_at "go"
 rename_i rest hrest
 refine notin_go (SqL.of hr') ⟨_,rfl,?_⟩
 unfold N36.dep at q
 by_cases hz:z∈row
 · rw [if_pos hz]at q
   rw [if_neg (by simp [hz])]
   subst hrest
   walk_at "go"
   exact ⟨.inl ⟨rfl,_,SqL.of hr'⟩,row,hr',hz,q⟩
 · rw [if_neg hz]at q
   rw [if_pos (by simp [hz])]
   exact q
theorem Z89{f:Addr}{fd:FuncData}(F:Fun K "carried_along" "carried_along" Z36 f fd)(T:Txt K mg Z6 Z3 Z5 Z9 Z8 Zb Za Z7 Zg Ze Z4 Z2 Zd Z0 Z1 Zf Zc)(Z2e:DefM P w K mg base (CXF P w) 2 Z2 "rank" ["self","name"] (sp29_rank (C5.mk Z4 Z2 Z2 Z0 Z1) .ol))(Z1v:DefM P w K mg base (CXF P w) 2 Z0 "rank" ["self","name"] (sp29_rank (C5.mk Z4 Z2 Z2 Z0 Z1) .ha))(Z1k:DefM P w K mg base (CXF P w) 2 Z1 "rank" ["self","name"] (sp29_rank (C5.mk Z4 Z2 Z2 Z0 Z1) .fa)):FnOk P w K mg base (CXF P w) 4 f fd ["rule","row"] (sp36_carried (C5.mk Z4 Z2 Z2 Z0 Z1)):=by
 have sc:FnScope ["rule","row","carried","kept","name"] ["rule","row"] (defScope Z36):=by walk_at "sc"
 refine F.okF sc (fun vs H Q E h=>?_) (fun cdv A outer s H vs Q E hr h=>?_)
 · obtain ⟨_,_,_,_,_,_,_,_,_,_,rfl,_⟩:=h;rfl
 obtain ⟨w3,q',p,r,n,M,L,ys,ns,row,rfl,hyl,hh,hL,hk,hr',hne,hl,q⟩:=h
 refine ⟨_,(@pss_cons _ _ _ _ _ (ps_set (i:=2) sc.nd rfl (Or.inl rfl) (@pe_ix _ _ _ _ _ _ _ ix_list (pv 1) pe_int (fun _ _=>rfl)))
  (@pss_cons _ _ _ _ _ (ps_set (i:=3) sc.nd rfl (Or.inl rfl) (@pe_lst _ _ _ _ pa_nil))
  (@pss_cons _ _ _ _ _ (ps_for own_outF rfl (pi_list (pe_slice sl_list (pv 1) (po_some pe_int) po_none)) (pg_name (i:=4) sc.nd rfl (Or.inl rfl))
   (@pss_one _ _ _ (ps_if (pt_cmpR (op_gtTr hr) (pe_methI (C:=fun w:W3=>w.w.C (C5.mk Z4 Z2 Z2 Z0 Z1)) (sp:=fun w:W3=>sp29_rank (C5.mk Z4 Z2 Z2 Z0 Z1) w.w) (fun w=>by cases w;exact Z2e;exact Z1v;exact Z1k) (fun w=>by cases w;exact T.Z01;exact T.Zi;exact T.Zj) hr (passS pass_onF) (pv 0) (pa_cons (pv 2) pa_nil)) (pe_methI (C:=fun w:W3=>w.w.C (C5.mk Z4 Z2 Z2 Z0 Z1)) (sp:=fun w:W3=>sp29_rank (C5.mk Z4 Z2 Z2 Z0 Z1) w.w) (fun w=>by cases w;exact Z2e;exact Z1v;exact Z1k) (fun w=>by cases w;exact T.Z01;exact T.Zi;exact T.Zj) hr (passS pass_onF) (pv 0) (pa_cons (pv 4) pa_nil)) (nomark _))
    (@pss_cons _ _ _ _ _ (ps_expr (pe_bm PySem.F.plainAttrs_list PySem.F.slot_list_append PySem.F.type_list_append mt_append (pv 3) (pa_cons (pv 2) pa_nil)))
    (@pss_one _ _ _ (ps_set (i:=2) sc.nd rfl (Or.inl rfl) (pv 4))))
    (@pss_one _ _ _ (ps_expr (pe_bm PySem.F.plainAttrs_list PySem.F.slot_list_append PySem.F.type_list_append mt_append (pv 3) (pa_cons (pv 4) pa_nil)))))))
  (@pss_one _ _ _ (@ps_ret _ _ _ _ (pe_op op_cat (pv 3) (@pe_lst _ _ _ _ (pa_cons (pv 2) pa_nil)))))))),?_⟩
 walk_at "st"
 have line:=line_val
 obtain ⟨c0,us,rfl⟩:=List.exists_cons_of_ne_nil hne
 walk_at "go"
 refine ixL_of (SqL.of hr') (v:=V.str c0) (atI_nat (j:=0) rfl) ?_
 rename_i rest hrest
 subst hrest
 walk_at "go"
 intro kp hkp
 have s0:Same H (upd H kp (.lst [])):=Same.new hkp
 have hk0:upd H kp (.lst []) kp=some (.lst []):=upd_same
 have hr0:=s0 _ _ hr'
 generalize upd H kp (.lst [])=H0 at s0 hk0 hr0 ⊢
 rename_i rest hrest
 subst hrest
 walk_at "go"
 rename_i rest hrest
 refine ⟨_,SqL.of hr0,fun pl hpl=>?_⟩
 have ec:cutV ((c0::us).map V.str) (some 1) none=us.map V.str:=N32.cut_tail (c0::us)
 rw [ec]
 have s1:Same H0 (upd H0 pl (.lst (us.map V.str))):=Same.new hpl
 have hp1:upd H0 pl (.lst (us.map V.str)) pl=some (.lst (us.map V.str)):=upd_same
 have hk1:=s1 _ _ hk0
 have npk:pl≠kp:=fun e=>by rw [e,hk0]at hpl;cases hpl
 have s01:=s0.trans s1
 generalize upd H0 pl (.lst (us.map V.str))=H1 at s1 hp1 hk1 s01 ⊢
 have hul:us.length≤300:=by have:=hl;simp only [List.length_cons]at this;omega
 refine ⟨⟨_,SqL.of hp1⟩,forL_by (xs:=us.map V.str) (fun i σ H'=>∃v4:Option V,σ=[some (V.ref q'),some (V.ref r),some (V.str (cst (ltw w3 ys L) c0 (us.take i)).2),some (V.ref kp),v4]∧Same H H'∧H' kp=some (.lst ((cst (ltw w3 ys L) c0 (us.take i)).1.map V.str))∧H' pl=some (.lst (us.map V.str))) ⟨none,rfl,s01,hk1,hp1⟩ (fun i σ H' _ h_=>by obtain ⟨_,_,_,_,h⟩:=h_;exact SqL.of h) ?_ ?_⟩
 · clear hrest
   rintro i v σ H5 hv ⟨v4,rfl,sm,hk5,hp5⟩
   rw [List.getElem?_map]at hv
   cases hz:us[i]? with
   | none=>rw [hz]at hv;cases hv
   | some y=>
   rw [hz]at hv
   cases hv
   have hil:=(List.getElem?_eq_some_iff.mp hz).1
   have est:cst (ltw w3 ys L) c0 (us.take (i+1))=cstep (ltw w3 ys L) (cst (ltw w3 ys L) c0 (us.take i)) y:=by rw [List.take_add_one,hz];exact cst_snoc
   have hln:((cst (ltw w3 ys L) c0 (us.take i)).1.map V.str).length=i:=by rw [List.length_map,cst_len,List.length_take];omega
   have hh5:=(T5 _ ys w3.w).dep (fun m _ o z=>sm m o z) hh
   obtain ⟨dx,fs,ho,hlk⟩:=obj5 hh5
   walk_at "go"
   have tj:=hL.tj (c:=C5.mk Z4 Z2 Z2 Z0 Z1) (ys:=ys) (w:=w3.w) hk
   refine ⟨w3,dx,fs,ho,hlk _ (by simp),ys,hyl,p,n,M,_,hh5,ns,tj,fun t1 ht1=>?_⟩
   rw [← due_rk]
   have sa:Same H5 (upd H5 t1 (.tup ((dueR ys L (cst (ltw w3 ys L) c0 (us.take i)).2 w3.w).map V.int))):=Same.new ht1
   have ea:upd H5 t1 (.tup ((dueR ys L (cst (ltw w3 ys L) c0 (us.take i)).2 w3.w).map V.int)) t1=some (.tup ((dueR ys L (cst (ltw w3 ys L) c0 (us.take i)).2 w3.w).map V.int)):=upd_same
   generalize upd H5 t1 (.tup ((dueR ys L (cst (ltw w3 ys L) c0 (us.take i)).2 w3.w).map V.int))=H6 at sa ea ⊢
   have hh6:=(T5 _ ys w3.w).dep (fun m _ o z=>sa m o z) hh5
   refine ⟨w3,dx,fs,sa _ _ ho,hlk _ (by simp),ys,hyl,p,n,M,_,hh6,ns,tj,fun t2 ht2=>?_⟩
   rw [← due_rk]
   have sb:Same H6 (upd H6 t2 (.tup ((dueR ys L y w3.w).map V.int))):=Same.new ht2
   have eb:upd H6 t2 (.tup ((dueR ys L y w3.w).map V.int)) t2=some (.tup ((dueR ys L y w3.w).map V.int)):=upd_same
   have ea2:=sb _ _ ea
   generalize upd H6 t2 (.tup ((dueR ys L y w3.w).map V.int))=H7 at sb eb ea2 ⊢
   have s57:=sa.trans sb
   have hk7:=s57 _ _ hk5
   have hp7:=s57 _ _ hp5
   have sm7:=sm.trans s57
   clear sa ea sb hh6 hh5 ho hlk
   refine ⟨_,SqT.of ea2,_,SqT.of eb,?_⟩
   rw [lex_due]
   rw [est]
   unfold cstep
   by_cases hlt:ltw w3 ys L y (cst (ltw w3 ys L) c0 (us.take i)).2=true
   · rw [if_pos hlt,if_pos hlt]
     walk_at "go"
     refine ⟨.inl ⟨rfl,_,SqL.of hk7⟩,kp,_,_,rfl,rfl,hk7,by omega,?_⟩
     walk_at "go"
     exact ⟨same_put sm7 hkp,by rw [upd_same,List.map_append];rfl,by rw [upd_ne npk];exact hp7⟩
   · rw [if_neg hlt,if_neg hlt]
     refine ⟨.inl ⟨rfl,_,SqL.of hk7⟩,kp,_,_,rfl,rfl,hk7,by omega,?_⟩
     exact ⟨rfl,same_put sm7 hkp,by rw [upd_same,List.map_append];rfl,by rw [upd_ne npk];exact hp7⟩
 · rintro σ H5 ⟨v4,rfl,sm,hk5,hp5⟩
   subst hrest
   walk_at "go"
   rw [List.length_map,List.take_of_length_le (Nat.le_refl _)]at hk5 ⊢
   generalize hsE:cst (ltw w3 ys L) c0 us=sE at hk5 ⊢
   have hln:sE.1.length≤300:=by rw [← hsE,cst_len];exact hul
   intro p1 hp1'
   have n1:kp≠p1:=ne_of_none hk5 hp1'
   refine ⟨_,by rw [upd_ne n1];exact hk5,_,upd_same,by rw [List.length_map];simp only [List.length_cons,List.length_nil];omega,fun p2 hp2=>?_⟩
   have s2:Same H (upd (upd H5 p1 (.lst [V.str sE.2])) p2 (.lst (sE.1.map V.str++[V.str sE.2]))):=(sm.trans (Same.new hp1')).trans (Same.new hp2)
   refine q p2 _ s2 (same_none (sm.trans (Same.new hp1')) hp2) ?_
   rw [upd_same]
   unfold carrA
   show _=some (HO.lst (((cst (ltw w3 ys L) c0 us).1++[(cst (ltw w3 ys L) c0 us).2]).map V.str))
   rw [hsE,List.map_append];rfl
theorem Z9o{f:Addr}{fd:FuncData}(F:Fun K "row_behind" "row_behind" Z4n f fd)(T:Txt K mg Z6 Z3 Z5 Z9 Z8 Zb Za Z7 Zg Ze Z4 Z2 Zd Z0 Z1 Zf Zc)(Z3a:Def P w K mg base (CXF P w) 4 "carried_along" ["rule","row"] (sp36_carried (C5.mk Z4 Z2 Z2 Z0 Z1))):FnOk P w K mg base (CXF P w) 5 f fd ["rule","row","name"] (sp36_behind (C5.mk Z4 Z2 Z2 Z0 Z1)):=by
 have sc:FnScope ["rule","row","name","place"] ["rule","row","name"] (defScope Z4n):=by walk_at "sc"
 refine F.okF sc (fun vs H Q E h=>?_) (fun cdv A outer s H vs Q E hr h=>?_)
 · obtain ⟨_,_,_,_,_,_,_,_,_,_,_,rfl,_⟩:=h;rfl
 obtain ⟨w3,q',p,r,z,n,M,L,ys,ns,row,rfl,hyl,hh,hL,hk,hr',hl,q⟩:=h
 refine ⟨_,(@pss_cons _ _ _ _ _ (ps_if (PW.pt (pw_or (pt_cmpR (op_eqQ hr) (pv 1) (@pe_lst _ _ _ _ pa_nil) (nomark _)) (pw_or1 (pt_cmpR op_eq (@pe_ix _ _ _ _ _ _ _ ix_list (pv 1) pe_int (fun _ _=>rfl)) (pv 2) (nomark _)))))
  (@pss_one _ _ _ (@ps_ret _ _ _ _ (pe_op op_cat (@pe_lst _ _ _ _ (pa_cons (pv 2) pa_nil)) (pe_slice sl_list (pv 1) (po_some pe_int) po_none))))
  pss_nil)
  (@pss_cons _ _ _ _ _ (ps_set (i:=3) sc.nd rfl (Or.inl rfl) (pe_ifExp (pt_cmpR op_in_seq (pv 2) (pv 1) (by with_unfolding_all rfl)) (pe_bm PySem.F.plainAttrs_list PySem.F.slot_list_index PySem.F.type_list_index mt_index (pv 1) (pa_cons (pv 2) pa_nil)) (pe_callB call_len_seq rfl T.Z06 PySem.boot_len (pa_cons (pv 1) pa_nil))))
  (@pss_one _ _ _ (@ps_ret _ _ _ _ (pe_op op_cat (pe_op op_cat (@pe_lst _ _ _ _ (pa_cons (pv 2) pa_nil)) (pe_callD Z3a hr rfl pass_onF (pa_cons (pv 0) (pa_cons (pe_slice sl_list (pv 1) po_none (po_some (pv 3))) pa_nil)))) (pe_slice sl_list (pv 1) (po_some (pe_op op_add (pv 3) pe_int)) po_none)))))),?_⟩
 walk_at "st"
 have line:=line_val
 walk_at "go"
 intro p0 hp0
 have s0:Same H (upd H p0 (.lst [])):=Same.new hp0
 refine ⟨_,eqQ_strs (xs:=row) (ys:=[]) (SqL.of (s0 _ _ hr')) (SqL.of upd_same),?_⟩
 have hr0:=s0 _ _ hr'
 have hh0:=(T5 _ ys w3.w).dep (fun m _ o z=>s0 m o z) hh
 generalize upd H p0 (.lst [])=H0 at s0 hr0 hh0 ⊢
 rename_i rest hrest
 have short:(row=[]∨row.head?=some z)→∀(p1:Addr),H0 p1=none→∃x,SqL K (upd H0 p1 (.lst [V.str z])) r x∧∀(p2:Addr),upd H0 p1 (.lst [V.str z]) p2=none→∃x1,upd (upd H0 p1 (.lst [V.str z])) p2 (.lst (cutV x (some 1) none)) p1=some (.lst x1)∧∃x2,upd (upd H0 p1 (.lst [V.str z])) p2 (.lst (cutV x (some 1) none)) p2=some (.lst x2)∧x1.length+x2.length≤sizeLine∧∀(p3:Addr),upd (upd H0 p1 (.lst [V.str z])) p2 (.lst (cutV x (some 1) none)) p3=none→Q (V.ref p3) (upd (upd (upd H0 p1 (.lst [V.str z])) p2 (.lst (cutV x (some 1) none))) p3 (.lst (x1++x2))):=by
  intro hc p1 hp1
  have s1:Same H0 (upd H0 p1 (.lst [V.str z])):=Same.new hp1
  have e1:upd H0 p1 (.lst [V.str z]) p1=some (.lst [V.str z]):=upd_same
  have hr1:=s1 _ _ hr0
  generalize upd H0 p1 (.lst [V.str z])=H1 at s1 e1 hr1 ⊢
  refine ⟨_,SqL.of hr1,fun p2 hp2=>?_⟩
  rw [N32.cut_tail row]
  have s2:Same H1 (upd H1 p2 (.lst ((row.drop 1).map V.str))):=Same.new hp2
  have e2:upd H1 p2 (.lst ((row.drop 1).map V.str)) p2=some (.lst ((row.drop 1).map V.str)):=upd_same
  have e12:=s2 _ _ e1
  generalize upd H1 p2 (.lst ((row.drop 1).map V.str))=H2 at s2 e2 e12 ⊢
  refine ⟨_,e12,_,e2,by rw [List.length_map,List.length_drop];simp only [List.length_cons,List.length_nil];omega,fun p3 hp3=>?_⟩
  refine q p3 _ (((s0.trans s1).trans s2).trans (Same.new hp3)) (same_none ((s0.trans s1).trans s2) hp3) ?_
  rw [upd_same]
  unfold behd
  rw [if_pos hc,List.map_cons,List.drop_one];rfl
 cases row with
 | nil=>
  rw [if_pos (by simp)]
  clear hrest
  walk_at "go"
  exact short (.inl rfl)
 | cons c0 r0=>
  rw [if_neg (by simp)]
  refine ixL_of (SqL.of hr0) (v:=V.str c0) (atI_nat (j:=0) rfl) ⟨rfl,?_⟩
  by_cases hc:c0=z
  · rw [if_pos (by rw [hc])]
    clear hrest
    walk_at "go"
    exact short (.inr (by rw [hc];rfl))
  · rw [if_neg (fun h=>hc (by injection h))]
    clear short
    subst hrest
    walk_at "go"
    rename_i rest hrest
    refine inT_go (SqL.of hr0) ⟨_,rfl,?_⟩
    suffices key:∀P:Nat,P=pos (c0::r0) z→rest [some (V.ref q'),some (V.ref r),some (V.str z),some (V.int P)] H0 by
     by_cases hz:z∈c0::r0
     · rw [if_pos (decide_eq_true hz)]
       exact ⟨.inl ⟨rfl,_,SqL.of hr0⟩,_,hr0,hz,key _ (pos_hit hz).symm⟩
     · rw [if_neg (by simpa using hz)]
       refine ⟨_,.inl (SqL.of hr0),?_⟩
       rw [List.length_map]
       exact key _ (pos_miss hz).symm
    intro P hP
    subst hrest
    walk_at "go"
    intro p1 hp1
    have hPl:1≤P∧P≤(c0::r0).length:=by
     rw [hP]
     by_cases hz:z∈c0::r0
     · rw [pos_hit hz]
       have h9:=List.idxOf_lt_length_iff.mpr hz
       refine ⟨?_,by omega⟩
       rw [List.idxOf_cons]
       have e9:(c0==z)=false:=by simpa using hc
       rw [e9]
       exact Nat.succ_le_succ (Nat.zero_le _)
     · rw [pos_miss hz];simp
    have s1:Same H0 (upd H0 p1 (.lst [V.str z])):=Same.new hp1
    have e1:upd H0 p1 (.lst [V.str z]) p1=some (.lst [V.str z]):=upd_same
    have hr1:=s1 _ _ hr0
    generalize upd H0 p1 (.lst [V.str z])=H1 at s1 e1 hr1 ⊢
    refine ⟨_,SqL.of hr1,fun p2 hp2=>?_⟩
    rw [cut_to (c0::r0) P hPl.2]
    have s2:Same H1 (upd H1 p2 (.lst (((c0::r0).take P).map V.str))):=Same.new hp2
    have e2:upd H1 p2 (.lst (((c0::r0).take P).map V.str)) p2=some (.lst (((c0::r0).take P).map V.str)):=upd_same
    have e12:=s2 _ _ e1
    have hr2:=s2 _ _ hr1
    generalize upd H1 p2 (.lst (((c0::r0).take P).map V.str))=H2 at s2 e2 e12 hr2 ⊢
    have hh2:=(T5 _ ys w3.w).dep (fun m _ o z=>(s1.trans s2) m o z) hh0
    refine ⟨w3,p,n,M,L,ys,hyl,hh2,ns,hL,hk,_,e2,fun e=>?_,by rw [List.length_take];omega,fun b H3 s3 hb eb=>?_⟩
    · have:=congrArg List.length e
      rw [List.length_take]at this
      simp only [List.length_cons,List.length_nil]at this hPl
      omega
    have cl:(carrA (ltw w3 ys L) ((c0::r0).take P)).length≤300:=by
     unfold carrA
     rw [List.length_append,cst_len]
     simp only [List.length_tail,List.length_take,List.length_cons,List.length_nil]at hl ⊢
     omega
    generalize hCA:carrA (ltw w3 ys L) ((c0::r0).take P)=CA at eb cl
    refine ⟨_,s3 _ _ e12,_,eb,by rw [List.length_map];simp only [List.length_cons,List.length_nil];omega,fun p4 hp4=>?_⟩
    have s4:Same H3 (upd H3 p4 (.lst ([V.str z]++CA.map V.str))):=Same.new hp4
    have e4:upd H3 p4 (.lst ([V.str z]++CA.map V.str)) p4=some (.lst ([V.str z]++CA.map V.str)):=upd_same
    have hr4:=s4 _ _ (s3 _ _ hr2)
    generalize upd H3 p4 (.lst ([V.str z]++CA.map V.str))=H4 at s4 e4 hr4 ⊢
    refine ⟨_,SqL.of hr4,fun p5 hp5=>?_⟩
    rw [show (P:Int)+1=((P+1:Nat):Int) by omega,cut_fromS]
    have s5:Same H4 (upd H4 p5 (.lst (((c0::r0).drop (P+1)).map V.str))):=Same.new hp5
    have e5:upd H4 p5 (.lst (((c0::r0).drop (P+1)).map V.str)) p5=some (.lst (((c0::r0).drop (P+1)).map V.str)):=upd_same
    have e45:=s5 _ _ e4
    generalize upd H4 p5 (.lst (((c0::r0).drop (P+1)).map V.str))=H5 at s5 e5 e45 ⊢
    have s05:Same H H5:=((((s0.trans s1).trans s2).trans s3).trans s4).trans s5
    refine ⟨_,e45,_,e5,by rw [List.length_map,List.length_append,List.length_map,List.length_drop];simp only [List.length_cons,List.length_nil]at hl ⊢;omega,fun p6 hp6=>?_⟩
    refine q p6 _ (s05.trans (Same.new hp6)) (same_none s05 hp6) ?_
    rw [upd_same]
    unfold behd
    rw [if_neg (by rintro (h | h);cases h;exact hc (by injection h)),← hP,hCA,List.map_cons,List.map_append]
    rfl
theorem Z8x{f:Addr}{fd:FuncData}(F:Fun K "stack_depths" "stack_depths" Z3o f fd)(T:Txt K mg Z6 Z3 Z5 Z9 Z8 Zb Za Z7 Zg Ze Z4 Z2 Zd Z0 Z1 Zf Zc)(Z4r:Def P w K mg base (CXF P w) 7 "check_walk" ["rule","asks"] (sp38_walk (C8.mk Ze Z4 Z2 Zd Z0 Z1 Zf Zc) (Ex8.mk Z8 Z3 Z5 Zb Za) K Z7))(Z5y:Def P w K mg base (CXF P w) 1 "depth_in" ["row","name"] (sp36_depth K))(Z4s:Def P w K mg base (CXF P w) 5 "row_behind" ["rule","row","name"] (sp36_behind (C5.mk Z4 Z2 Z2 Z0 Z1)))(Z3u:DefM P w K mg base (CXF P w) 2 Z2 "asked" ["self","name"] (sp29_asked (C5.mk Z4 Z2 Z2 Z0 Z1) .ol))(Z3b:DefM P w K mg base (CXF P w) 2 Z0 "asked" ["self","name"] (sp29_asked (C5.mk Z4 Z2 Z2 Z0 Z1) .ha))(Z2n:DefM P w K mg base (CXF P w) 2 Z1 "asked" ["self","name"] (sp29_asked (C5.mk Z4 Z2 Z2 Z0 Z1) .fa)):FnOk P w K mg base (CXF P w) 8 f fd ["rule","asks"] (sp38_stack (C8.mk Ze Z4 Z2 Zd Z0 Z1 Zf Zc) (Ex8.mk Z8 Z3 Z5 Zb Za) K Z7):=by
 have sc:FnScope ["rule","asks","row","depths","name"] ["rule","asks"] (defScope Z3o):=by walk_at "sc"
 refine F.okF sc (fun vs H Q E h=>?_) (fun cdv A outer s H vs Q E hr h=>?_)
 · obtain ⟨_,_,_,_,_,_,_,_,rfl,_⟩:=h;rfl
 obtain ⟨w8,q',p,a,n,M,ts,ys,rfl,hh,hfa,hst,nd,htl,ha,ham,hyl,hyl6,hyn,h1,h2,q⟩:=h
 refine ⟨_,(@pss_cons _ _ _ _ _ (ps_expr (pe_callD Z4r hr rfl pass_onF (pa_cons (pv 0) (pa_cons (pv 1) pa_nil))))
  (@pss_cons _ _ _ _ _ (ps_set (i:=2) sc.nd rfl (Or.inl rfl) (@pe_lst _ _ _ _ pa_nil))
  (@pss_cons _ _ _ _ _ (ps_set (i:=3) sc.nd rfl (Or.inl rfl) (@pe_lst _ _ _ _ pa_nil))
  (@pss_cons _ _ _ _ _ (ps_for own_outF rfl (pi_list (pv 1)) (pg_name (i:=4) sc.nd rfl (Or.inl rfl))
   (@pss_cons _ _ _ _ _ (ps_expr (pe_methI (C:=fun w:W3=>w.w.C (C5.mk Z4 Z2 Z2 Z0 Z1)) (sp:=fun w:W3=>sp29_asked (C5.mk Z4 Z2 Z2 Z0 Z1) w.w) (fun w=>by cases w;exact Z3u;exact Z3b;exact Z2n) (fun w=>by cases w;exact T.Z01;exact T.Zi;exact T.Zj) hr (passS pass_onF) (pv 0) (pa_cons (pv 4) pa_nil)))
   (@pss_cons _ _ _ _ _ (ps_expr (pe_bm PySem.F.plainAttrs_list PySem.F.slot_list_append PySem.F.type_list_append mt_append (pv 3) (pa_cons (pe_callD Z5y hr rfl pass_onF (pa_cons (pv 2) (pa_cons (pv 4) pa_nil))) pa_nil)))
   (@pss_one _ _ _ (ps_set (i:=2) sc.nd rfl (Or.inl rfl) (pe_callD Z4s hr rfl pass_onF (pa_cons (pv 0) (pa_cons (pv 2) (pa_cons (pv 4) pa_nil)))))))))
  (@pss_one _ _ _ (@ps_ret _ _ _ _ (pv 3))))))),?_⟩
 walk_at "st"
 have line:=line_val
 walk_at "go"
 refine ⟨w8,p,n,M,_,hh,ts,hst,nd,ys,SqL.of ha,hyl,hyn,h1,h2,?_⟩
 cases h0:due8 ts n ys (nB w8) with
 | many=>rw [h0]at q;exact q
 | unk z i=>rw [h0]at q;exact q
 | wide z i=>rw [h0]at q;exact q
 | nor=>rw [h0]at q;exact q
 | unl=>rw [h0]at q;exact q
 | no=>
 rw [h0]at q
 replace q:∀(D:Addr) (H':Hp),Kp M H H'→Q (.ref D) H':=q H (Same.refl H)
 obtain ⟨hn0,hnB,h1r⟩:=due_no.mp h0
 obtain ⟨hl2,hin,hrm0⟩:=fine_of h1 h2 hn0
 obtain ⟨w3,hh3⟩:=as3 (ys:=ys) hnB hfa hh
 have hh:(T5 (C5.mk Z4 Z2 Z2 Z0 Z1) ys w3.w).At H M q' p n (proj (C5.mk Z4 Z2 Z2 Z0 Z1) ys w3.w (l50 8)):=hh3
 clear hh3 h0 hn0 hnB hrm0
 have he1:(1:Int)≤8:=by decide
 have he2:(8:Int)≤200:=by decide
 replace hyl:ys.length≤60:=by omega
 intro H1 sm1
 rename_i rest hrest
 subst hrest
 walk_at "go"
 intro r0 hr0
 have s2:Same H1 (upd H1 r0 (.lst [])):=Same.new hr0
 have er2:upd H1 r0 (.lst []) r0=some (.lst []):=upd_same
 have s02:=sm1.trans s2
 generalize upd H1 r0 (.lst [])=H2 at s2 er2 s02 ⊢
 rename_i rest hrest
 subst hrest
 walk_at "go"
 intro b hb
 have s3:Same H2 (upd H2 b (.lst [])):=Same.new hb
 have eb3:upd H2 b (.lst []) b=some (.lst []):=upd_same
 have er3:=s3 _ _ er2
 have nrb:r0≠b:=ne_of_none er2 hb
 have hb0:=same_none s02 hb
 have s03:=s02.trans s3
 generalize upd H2 b (.lst [])=H3 at s3 eb3 er3 s03 ⊢
 rename_i rest hrest
 subst hrest
 walk_at "go"
 rename_i rest hrest
 have ha3:=s03 _ _ ha
 have hbM:b∉M:=fun hm=>(T5 _ ys w3.w).live hh b hm hb0
 refine ⟨⟨_,SqL.of ha3⟩,forL_by (xs:=ys.map V.str) (fun i σ H'=>∃(v4:Option V) (r:Addr),σ=[some (V.ref q'),some (V.ref a),some (V.ref r),some (V.ref b),v4]∧Kp M H H'∧H' a=some (.lst (ys.map V.str))∧H' r=some (.lst ((rwS w3 ys 8 i).map V.str))∧r≠b∧r∉M∧H' b=some (.lst ((List.range i).map fun i=>dpV6 (depS w3 ys 8 i)))∧(T5 (C5.mk Z4 Z2 Z2 Z0 Z1) ys w3.w).At H' M q' p n (proj (C5.mk Z4 Z2 Z2 Z0 Z1) ys w3.w (Lst 8 ys i))) ⟨none,r0,rfl,Kp.of s03,ha3,er3,nrb,fun hm=>(T5 _ ys w3.w).live hh r0 hm (same_none sm1 hr0),eb3,(T5 _ ys w3.w).dep (fun m _ o z=>s03 m o z) hh⟩ (fun i σ H' _ h_=>by obtain ⟨_,_,_,_,h,_⟩:=h_;exact SqL.of h) ?_ ?_⟩
 · clear hrest
   rintro i v σ H5 hu ⟨v4,r,rfl,kp5,ha5,er5,nr5,nrM,eb5,hh5⟩
   rw [List.getElem?_map]at hu
   cases hz':ys[i]? with
   | none=>rw [hz']at hu;cases hu
   | some z=>
   rw [hz']at hu
   cases hu
   have hil:=(List.getElem?_eq_some_iff.mp hz').1
   have hzn:z∈ts.map (·.1):=hin z (List.mem_of_getElem? hz')
   have ri:=ri_all (c:=C5.mk Z4 Z2 Z2 Z0 Z1) (w:=w3) (n:=n) he1 he2 hin i (by omega)
   obtain ⟨ri',_⟩:=ri.succ hz' hzn
   obtain ⟨dx,fs,ho,hlk⟩:=obj5 hh5
   walk_at "go"
   refine ⟨w3,dx,fs,ho,hlk _ (by simp),ys,by omega,p,n,M,_,hh5,_,_,ri.j,hzn,by rw [List.length_map];exact htl,fun H6 kp6 hh6=>?_⟩
   rw [p_ask,← Lst_succ hz']at hh6
   have ha6:=kp6 _ _ ham ha5
   have er6:=kp6 _ _ nrM er5
   have eb6:=kp6 _ _ hbM eb5
   have kp06:=kp5.trans kp6
   clear ho hlk hh5
   have hrl:=rwS_len (w:=w3) he1 he2 (show i≤ys.length by omega)
   rename_i rest hrest
   subst hrest
   walk_at "go"
   refine ⟨.inl ⟨rfl,_,SqL.of eb6⟩,_,er6,by omega,b,_,_,rfl,rfl,eb6,by rw [List.length_map,List.length_range];omega,?_⟩
   have eDep:dpV6 (N36.dep (rwS w3 ys 8 i) z)=dpV6 (depS w3 ys 8 i):=by unfold depS;rw [getD_at hz']
   rw [eDep]
   have kp7:Kp M H (upd H6 b (.lst (((List.range i).map fun i=>dpV6 (depS w3 ys 8 i))++[dpV6 (depS w3 ys 8 i)]))):=fun x o hx h=>by rw [upd_ne (ne_of_none h hb0)];exact kp06 x o hx h
   have eb7:upd H6 b (.lst (((List.range i).map fun i=>dpV6 (depS w3 ys 8 i))++[dpV6 (depS w3 ys 8 i)])) b=some (.lst ((List.range (i+1)).map fun i=>dpV6 (depS w3 ys 8 i))):=by rw [upd_same,List.range_succ,List.map_append];rfl
   have er7:upd H6 b (.lst (((List.range i).map fun i=>dpV6 (depS w3 ys 8 i))++[dpV6 (depS w3 ys 8 i)])) r=some (.lst ((rwS w3 ys 8 i).map V.str)):=by rw [upd_ne nr5];exact er6
   have ha7:upd H6 b (.lst (((List.range i).map fun i=>dpV6 (depS w3 ys 8 i))++[dpV6 (depS w3 ys 8 i)])) a=some (.lst (ys.map V.str)):=by rw [upd_ne (ne_of_none ha hb0)];exact ha6
   have hh7:=(T5 _ ys w3.w).dep (H':=upd H6 b (.lst (((List.range i).map fun i=>dpV6 (depS w3 ys 8 i))++[dpV6 (depS w3 ys 8 i)]))) (fun m hm o h=>by rw [upd_ne (show m≠b from fun e2=>hbM (by rw [← e2];exact hm))];exact h) hh6
   generalize upd H6 b (.lst (((List.range i).map fun i=>dpV6 (depS w3 ys 8 i))++[dpV6 (depS w3 ys 8 i)]))=H7 at kp7 eb7 er7 ha7 hh7 ⊢
   rename_i rest hrest
   subst hrest
   walk_at "go"
   refine ⟨w3,p,n,M,_,ys,by omega,hh7,_,ri'.lj,by rw [ri'.k];omega,_,er7,by omega,fun r8 H8 s8 hr8 er8=>?_⟩
   have nr8:r8≠b:=fun e2=>by rw [e2,eb7]at hr8;cases hr8
   have ern:rwS w3 ys 8 (i+1)=behd (ltw w3 ys (Lst 8 ys (i+1))) (rwS w3 ys 8 i) z:=by show behd _ _ (ys.getD i Str.empty)=_;rw [getD_at hz']
   have kp8:=kp7.trans (Kp.of s8)
   exact ⟨kp8,s8 _ _ ha7,by rw [ern];exact er8,nr8,fun hm=>(T5 _ ys w3.w).live hh7 r8 hm hr8,s8 _ _ eb7,(T5 _ ys w3.w).dep (fun m _ o z=>s8 m o z) hh7⟩
 · rintro σ H5 ⟨v4,r,rfl,kp5,ha5,er5,nr5,nrM,eb5,hh5⟩
   subst hrest
   walk_at "go"
   rw [List.length_map]at eb5 hh5
   exact q b H5 kp5
theorem Zcm{f:Addr}{fd:FuncData}(F:Fun K "_law_cell" "_law_cell" Z80 f fd)(T:Txt K mg Z6 Z3 Z5 Z9 Z8 Zb Za Z7 Zg Ze Z4 Z2 Zd Z0 Z1 Zf Zc):FnOk P w K mg base (CXF P w) 1 f fd ["_law_script","_law_k"] (sp_cell K):=by
 have sc:FnScope ["_law_script","_law_k"] ["_law_script","_law_k"] (defScope Z80):=by walk_at "sc"
 refine F.okF sc (fun vs H Q E h=>?_) (fun cdv A outer s H vs Q E hr h=>?_)
 · obtain ⟨_,_,_,rfl,_⟩:=h;rfl
 obtain ⟨a,ns,k,rfl,hS,h0,hl,q⟩:=h
 refine ⟨_,(@pss_cons _ _ _ _ _ (ps_if (pt_cmpR op_lt (pv 1) (pe_callB call_len_seq rfl T.Z06 PySem.boot_len (pa_cons (pv 0) pa_nil)) (nomark _))
  (@pss_one _ _ _ (@ps_ret _ _ _ _ (@pe_ix _ _ _ _ _ _ _ ix_list (pv 0) (pv 1) (fun _ _=>rfl))))
  pss_nil)
  (@pss_one _ _ _ (@ps_ret _ _ _ _ pe_int))),?_⟩
 walk_at "st"
 walk_at "go"
 rw [List.length_map]
 split
 · rename_i hk
   exact ixL_of hS (atI_of h0 (getMap (by omega))) q
 · rename_i hk
   rw [List.getD_eq_getElem?_getD,List.getElem?_eq_none (by omega)]at q
   walk_at "go"
   exact q
theorem Zaz{f:Addr}{fd:FuncData}(F:Fun K "_law_names" "_law_names" Z6v f fd)(T:Txt K mg Z6 Z3 Z5 Z9 Z8 Zb Za Z7 Zg Ze Z4 Z2 Zd Z0 Z1 Zf Zc):FnOk P w K mg base (CXF P w) 1 f fd ["_law_cell_here","_law_many"] (sp35_names):=by
 have sc:FnScope ["_law_cell_here","_law_many","_law_signs","_law_long","_law_at","_law_names_here","_law_k","_law_name","_law_j","_law_by"] ["_law_cell_here","_law_many"] (defScope Z6v):=by walk_at "sc"
 refine F.okF sc (fun vs H Q E h=>?_) (fun cdv A outer s H vs Q E hr h=>?_)
 · obtain ⟨_,_,rfl,_⟩:=h;rfl
 obtain ⟨i,m,rfl,hm,q⟩:=h
 refine ⟨_,(@pss_cons _ _ _ _ _ (ps_set (i:=2) sc.nd rfl (Or.inl rfl) pe_str)
  (@pss_cons _ _ _ _ _ (ps_set (i:=3) sc.nd rfl (Or.inl rfl) (pe_op op_add pe_int (pe_op op_mod (pv 0) pe_int)))
  (@pss_cons _ _ _ _ _ (ps_set (i:=4) sc.nd rfl (Or.inl rfl) (pe_op op_mod (pe_op op_fdiv (pv 0) pe_int) (pv 3)))
  (@pss_cons _ _ _ _ _ (ps_set (i:=5) sc.nd rfl (Or.inl rfl) (@pe_lst _ _ _ _ pa_nil))
  (@pss_cons _ _ _ _ _ (ps_for own_outF rfl (pi_range1 rfl T.Z13 (pa_cons (pv 1) pa_nil)) (pg_name (i:=6) sc.nd rfl (Or.inl rfl))
   (@pss_cons _ _ _ _ _ (ps_set (i:=7) sc.nd rfl (Or.inl rfl) pe_str)
   (@pss_cons _ _ _ _ _ (ps_for own_outF rfl (pi_range1 rfl T.Z13 (pa_cons (pv 3) pa_nil)) (pg_name (i:=8) sc.nd rfl (Or.inl rfl))
    (@pss_cons _ _ _ _ _ (ps_set (i:=9) sc.nd rfl (Or.inl rfl) (pe_op op_add (pe_op op_fdivB (pe_op op_fdiv (pv 0) pe_int) (pe_op op_add (pv 8) pe_int)) (pe_op op_mul pe_int (pv 8))))
    (@pss_cons _ _ _ _ _ (ps_if (pt_cmpR op_eq (pv 8) (pv 4) (nomark _))
     (@pss_one _ _ _ (ps_set (i:=9) sc.nd rfl (Or.inl rfl) (pe_op op_add (pv 9) (pv 6))))
     pss_nil)
    (@pss_one _ _ _ (ps_if (pt_cmpR op_eq (pv 8) pe_int (nomark _))
     (@pss_one _ _ _ (ps_set (i:=7) sc.nd rfl (Or.inl rfl) (pe_op op_add_str (pv 7) (@pe_ix _ _ _ _ _ _ _ ix_str (pv 2) (pe_op op_mod (pv 9) pe_int) (fun _ _=>rfl)))))
     (@pss_one _ _ _ (ps_set (i:=7) sc.nd rfl (Or.inl rfl) (pe_op op_add_str (pv 7) (@pe_ix _ _ _ _ _ _ _ ix_str (pv 2) (pe_op op_mod (pv 9) pe_int) (fun _ _=>rfl))))))))))
   (@pss_one _ _ _ (ps_expr (pe_bm PySem.F.plainAttrs_list PySem.F.slot_list_append PySem.F.type_list_append mt_append (pv 5) (pa_cons (pv 7) pa_nil)))))))
  (@pss_one _ _ _ (@ps_ret _ _ _ _ (pv 5)))))))),?_⟩
 walk_at "st"
 have line:=line_val
 have bl:=both_length
 walk_at "go"
 intro p hp
 obtain ⟨L,hL⟩:∃L:Nat,(L:Int)=1+i % 8:=⟨(1+i % 8).toNat,by omega⟩
 have hL2:1≤L:=by omega
 have hL8:L≤8:=by omega
 rw [← hL]
 have ha0:=Int.emod_nonneg (i / 8) (show (L:Int)≠0 by omega)
 have ha1:=Int.emod_lt_of_pos (i / 8) (show (0:Int) < L by omega)
 clear hL
 generalize i / 8 % (L:Int)=at' at ha0 ha1 ⊢
 walk_at "go"
 refine forR_by (fun k σ H'=>∃(v7 v8 v9 v10:Option V),σ=[some (V.int i),some (V.int m),some (V.str (Str.ofString "abcdefghijklmnopqrstuvwxyz0123456789")),some (V.int L),some (V.int at'),some (V.ref p),v7,v8,v9,v10]∧H'=upd H p (.lst ((nms (fun j=>(i / 64).fdiv (j+1)+4 * j) at' L k).map V.str))) ⟨none,none,none,none,rfl,rfl⟩ ?_ ?_
 · rintro k σ H' hk ⟨v7,v8,v9,v10,rfl,rfl⟩
   have hlen:((nms (fun j=>(i / 64).fdiv ((j:Int)+1)+4 * j) at' L k).map V.str).length=k:=by rw [List.length_map];unfold nms;rw [List.length_map,List.length_range]
   walk_at "go"
   rename_i rest hrest
   refine forR_by (fun j σ H'=>∃(v9 v10:Option V),σ=[some (V.int i),some (V.int m),some (V.str (Str.ofString "abcdefghijklmnopqrstuvwxyz0123456789")),some (V.int L),some (V.int at'),some (V.ref p),some (V.int k),some (V.str (tx (nmL (fun j=>(i / 64).fdiv (j+1)+4 * j) at' j k))),v9,v10]∧H'=upd H p (.lst ((nms (fun j=>(i / 64).fdiv (j+1)+4 * j) at' L k).map V.str))) ⟨v9,v10,rfl,rfl⟩ ?_ ?_
   · rintro j σ H' hj ⟨v9,v10,rfl,rfl⟩
     have hzl:(tx (nmL (fun j=>(i / 64).fdiv ((j:Int)+1)+4 * j) at' j k)).length=j:=by rw [T_len];simp [nmL]
     have hsg:nmL (fun j=>(i / 64).fdiv ((j:Int)+1)+4 * j) at' (j+1) k=nmL (fun j=>(i / 64).fdiv ((j:Int)+1)+4 * j) at' j k++[sgn (fun j=>(i / 64).fdiv ((j:Int)+1)+4 * j) at' k j]:=by
      unfold nmL;rw [List.range_succ,List.map_append];rfl
     unfold N5.sgn at hsg
     walk_at "go"
     rename_i rest hrest
     have key1:∀b1:Int,((i / 64).fdiv ((j:Int)+1)+4 * j+(if (j:Int)=at' then (k:Int) else 0)=b1)→rest [some (V.int i),some (V.int m),some (V.str (Str.ofString "abcdefghijklmnopqrstuvwxyz0123456789")),some (V.int L),some (V.int at'),some (V.ref p),some (V.int k),some (V.str (tx (nmL (fun j=>(i / 64).fdiv (j+1)+4 * j) at' j k))),some (V.int j),some (V.int b1)] (upd H p (.lst ((nms (fun j=>(i / 64).fdiv (j+1)+4 * j) at' L k).map V.str))):=by
      intro b1 hb1
      rw [hb1]at hsg
      clear hb1
      subst hrest
      generalize nmL (fun j=>(i / 64).fdiv ((j:Int)+1)+4 * j) at' j k=zl at hsg hzl ⊢
      walk_at "go"
      split
      · rename_i hj0
        walk_at "go"
        refine ixS_of (by omega) (ix_bc _ (by decide) (by decide)) ?_
        walk_at "go"
        rw [hsg,← T_app]
        unfold md
        rw [if_pos (by omega)]
        rfl
      · rename_i hj0
        walk_at "go"
        refine ixS_of (by omega) (ix_bc _ (by decide) (by decide)) ?_
        walk_at "go"
        rw [hsg,← T_app]
        unfold md
        rw [if_neg (by omega)]
        rfl
     clear hrest
     split
     · rename_i he
       walk_at "go"
       exact key1 _ (by rw [if_pos he])
     · rename_i he
       exact key1 _ (by rw [if_neg he];omega)
   · rintro σ H' ⟨v9,v10,rfl,rfl⟩
     walk_at "go"
     refine ⟨.inl ⟨rfl,_,SqL.of upd_same⟩,p,_,_,rfl,rfl,upd_same,by omega,?_⟩
     walk_at "go"
     unfold nms
     rw [List.range_succ,List.map_append,List.map_append]
     rfl
 · rintro σ H' ⟨v7,v8,v9,v10,rfl,rfl⟩
   walk_at "go"
   refine q p _ _ hp (Same.new hp) upd_same (by unfold nms;simp) (nms_nodup ha0 ha1 (by omega)) fun y hy=>?_
   unfold nms at hy
   obtain ⟨k,_,rfl⟩:=List.mem_map.mp hy
   rw [T_list]
   exact nmL_name (by omega) hL8
theorem Za2{f:Addr}{fd:FuncData}(F:Fun K "_law_told_by" "_law_told_by" Z58 f fd)(T:Txt K mg Z6 Z3 Z5 Z9 Z8 Zb Za Z7 Zg Ze Z4 Z2 Zd Z0 Z1 Zf Zc)(Z1h:Def P w K mg base (CXF P w) 6 "depths_of" ["stock","asks"] (sp38_depths (Ex8.mk Z8 Z3 Z5 Zb Za) K Z7))(Z5z:Def P w K mg base (CXF P w) 7 "steps_of" ["stock","asks"] (sp38_steps (Ex8.mk Z8 Z3 Z5 Zb Za) K Z7)):FnOk P w K mg base (CXF P w) 8 f fd ["_law_stock","_law_row","_law_steps"] (sp38_told K Z7):=by
 have sc:FnScope ["_law_stock","_law_row","_law_steps","_law_told","e"] ["_law_stock","_law_row","_law_steps"] (defScope Z58):=by walk_at "sc"
 refine F.okF sc (fun vs H Q E h=>?_) (fun cdv A outer s H vs Q E hr h=>?_)
 · obtain ⟨_,_,_,_,_,rfl,_⟩:=h;rfl
 obtain ⟨p,a,b,ts,ys,rfl,hs,nd,hS,hl,hl6,hw,hwz,q⟩:=h
 refine ⟨_,(@pss_cons _ _ _ _ _ (ps_set (i:=3) sc.nd rfl (Or.inl rfl) (pe_tup (pa_cons pe_str pa_nil)))
  (@pss_cons _ _ _ _ _ (ps_tryF rfl rfl (fun t hp=>(@pss_one _ _ _ (ps_if (pt_val (pv 2))
   (@pss_one _ _ _ (ps_expr (pe_callE Z5z hr rfl hp (pa_cons (pv 0) (pa_cons (pv 1) pa_nil)))))
   (@pss_one _ _ _ (ps_expr (pe_callE Z1h hr rfl hp (pa_cons (pv 0) (pa_cons (pv 1) pa_nil))))))))
   (ph_clsF rfl rfl T.Z6q (fun x=>(@pss_one _ _ _ (ps_set (i:=3) sc.nd rfl (Or.inl rfl) (pe_tup (pa_cons pe_str pa_nil))))) (ph_asF (i:=4) rfl sc.nd rfl rfl rfl T.Z9d (fun x=>(@pss_one _ _ _ (ps_set (i:=3) sc.nd rfl (Or.inl rfl) (pe_tup (pa_cons pe_str (pa_cons (pe_fldX (pv 4) rfl) (pa_cons (pe_fldX (pv 4) rfl) pa_nil))))))) ph_nilF)))
  (@pss_one _ _ _ (@ps_ret _ _ _ _ (pv 3))))),?_⟩
 walk_at "st"
 have line:=line_val
 walk_at "go"
 intro t0 ht0
 have s0:Same H (upd H t0 (.tup [V.str (Str.ofString "nothing")])):=Same.new ht0
 have et0:upd H t0 (.tup [V.str (Str.ofString "nothing")]) t0=some (.tup [V.str (Str.ofString "nothing")]):=upd_same
 generalize upd H t0 (.tup [V.str (Str.ofString "nothing")])=H0 at s0 et0 ⊢
 rename_i rest hrest
 subst hrest
 walk_at "go"
 have fin:∀(r:R8) (H1:Hp),ask8 ts 1000000 ys=r→Same H H1→∀t,H1 t=none→Q (V.ref t) (upd H1 t (.tup r.vs)):=fun r H1 h sm t ht=>q t _ (sm.trans (Same.new ht)) (same_none sm ht) (by rw [upd_same,h])
 have nof:ask8 ts 1000000 ys= .no→∀H1,Same H0 H1→Q (V.ref t0) H1:=fun h H1 sm=>q t0 _ (s0.trans sm) ht0 (by rw [h];exact sm _ _ et0)
 cases b with
 | true=>
  rw [if_pos rfl]
  refine ⟨ts,hs.same s0,nd,ys,s0.seq hS,hl,hl6,hw,hwz,?_⟩
  rcases ask_cases (ts:=ts) (n:=1000000) (ys:=ys) with h0 | ⟨z,i,h0⟩ | ⟨z,i,h0⟩ | h0
  · rw [h0]
    intro H' y sm hy er
    refine ⟨y,rfl,true,T.Z1y,?_⟩
    rw [if_pos rfl]
    exact ⟨by omega,fin .many H' h0 (s0.trans sm)⟩
  · rw [h0]
    intro H' y sm hy er
    obtain ⟨dy,e1,e2⟩:=er
    refine ⟨y,rfl,false,T.Z1z,?_⟩
    rw [if_neg (by decide)]
    refine ⟨true,T.Z20,?_⟩
    rw [if_pos rfl]
    refine ⟨false,Z3,Z6,dy,e1,_,e2,T.Z0f,T.Zx,_,unk_name,false,Z3,Z6,dy,e1,_,e2,T.Z0f,T.Zu,_,unk_place,by omega,fun p1 hp1=>?_⟩
    exact fin (.unk z i) H' h0 (s0.trans sm) p1 hp1
  · exact absurd h0 (ask_nowide hwz)
  · rw [h0]
    intro H1 _ D H' sm
    exact nof h0 H' sm
 | false=>
  rw [if_neg (by decide)]
  refine ⟨ts,hs.same s0,nd,ys,s0.seq hS,hl,hw,hwz,?_⟩
  rcases ask_cases (ts:=ts) (n:=1000000) (ys:=ys) with h0 | ⟨z,i,h0⟩ | ⟨z,i,h0⟩ | h0
  · rw [h0]
    intro H' y sm hy er
    refine ⟨y,rfl,true,T.Z1y,?_⟩
    rw [if_pos rfl]
    exact ⟨by omega,fin .many H' h0 (s0.trans sm)⟩
  · rw [h0]
    intro H' y sm hy er
    obtain ⟨dy,e1,e2⟩:=er
    refine ⟨y,rfl,false,T.Z1z,?_⟩
    rw [if_neg (by decide)]
    refine ⟨true,T.Z20,?_⟩
    rw [if_pos rfl]
    refine ⟨false,Z3,Z6,dy,e1,_,e2,T.Z0f,T.Zx,_,unk_name,false,Z3,Z6,dy,e1,_,e2,T.Z0f,T.Zu,_,unk_place,by omega,fun p1 hp1=>?_⟩
    exact fin (.unk z i) H' h0 (s0.trans sm) p1 hp1
  · exact absurd h0 (ask_nowide hwz)
  · rw [h0]
    intro H1 _ D H' hD sm _
    exact nof h0 H' sm
theorem Z7s{f:Addr}{fd:FuncData}(F:Fun K "_law_told_by_rank" "_law_told_by_rank" Z2k f fd)(T:Txt K mg Z6 Z3 Z5 Z9 Z8 Zb Za Z7 Zg Ze Z4 Z2 Zd Z0 Z1 Zf Zc)(Z3v:Def P w K mg base (CXF P w) 8 "stack_depths" ["rule","asks"] (sp38_stack (C8.mk Ze Z4 Z2 Zd Z0 Z1 Zf Zc) (Ex8.mk Z8 Z3 Z5 Zb Za) K Z7)):FnOk P w K mg base (CXF P w) 9 f fd ["_law_rule_here","_law_row"] (sp38_rank (C8.mk Ze Z4 Z2 Zd Z0 Z1 Zf Zc) K Z7):=by
 have sc:FnScope ["_law_rule_here","_law_row","_law_told","e"] ["_law_rule_here","_law_row"] (defScope Z2k):=by walk_at "sc"
 refine F.okF sc (fun vs H Q E h=>?_) (fun cdv A outer s H vs Q E hr h=>?_)
 · obtain ⟨_,_,_,_,_,_,_,_,rfl,_⟩:=h;rfl
 obtain ⟨w8,q',p,a,n,M,ts,ys,rfl,hh,hfa,hst,nd,htl,ha,ham,hyl,hyl6,hyn,h1,h2,q⟩:=h
 refine ⟨_,(@pss_cons _ _ _ _ _ (ps_set (i:=2) sc.nd rfl (Or.inl rfl) (pe_tup (pa_cons pe_str pa_nil)))
  (@pss_cons _ _ _ _ _ (ps_tryF rfl rfl (fun t hp=>(@pss_one _ _ _ (ps_expr (pe_callE Z3v hr rfl hp (pa_cons (pv 0) (pa_cons (pv 1) pa_nil))))))
   (ph_clsF rfl rfl T.Z6q (fun x=>(@pss_one _ _ _ (ps_set (i:=2) sc.nd rfl (Or.inl rfl) (pe_tup (pa_cons pe_str pa_nil))))) (ph_asF (i:=3) rfl sc.nd rfl rfl rfl T.Z9d (fun x=>(@pss_one _ _ _ (ps_set (i:=2) sc.nd rfl (Or.inl rfl) (pe_tup (pa_cons pe_str (pa_cons (pe_fldX (pv 3) rfl) (pa_cons (pe_fldX (pv 3) rfl) pa_nil))))))) (ph_asF (i:=3) rfl sc.nd rfl rfl rfl T.Zck (fun x=>(@pss_one _ _ _ (ps_set (i:=2) sc.nd rfl (Or.inl rfl) (pe_tup (pa_cons pe_str (pa_cons (pe_fldX (pv 3) rfl) (pa_cons (pe_fldX (pv 3) rfl) pa_nil))))))) (ph_clsF rfl rfl T.Z9r (fun x=>(@pss_one _ _ _ (ps_set (i:=2) sc.nd rfl (Or.inl rfl) (pe_tup (pa_cons pe_str pa_nil))))) (ph_clsF rfl rfl T.Z9s (fun x=>(@pss_one _ _ _ (ps_set (i:=2) sc.nd rfl (Or.inl rfl) (pe_tup (pa_cons pe_str pa_nil))))) ph_nilF))))))
  (@pss_one _ _ _ (@ps_ret _ _ _ _ (pv 2))))),?_⟩
 walk_at "st"
 have line:=line_val
 walk_at "go"
 intro t0 ht0
 have s0:Same H (upd H t0 (.tup [V.str (Str.ofString "nothing")])):=Same.new ht0
 have et0:upd H t0 (.tup [V.str (Str.ofString "nothing")]) t0=some (.tup [V.str (Str.ofString "nothing")]):=upd_same
 generalize upd H t0 (.tup [V.str (Str.ofString "nothing")])=H0 at s0 et0 ⊢
 rename_i rest hrest
 subst hrest
 have hh0:=(T8 (C8.mk Ze Z4 Z2 Zd Z0 Z1 Zf Zc) w8).dep (fun m _ o z=>s0 m o z) hh
 have fin:∀(r:R8) (H1:Hp),due8 ts n ys (nB w8)=r→Same H H1→∀t,H1 t=none→Q (V.ref t) (upd H1 t (.tup r.vs)):=fun r H1 h sm t ht=>q t _ (Kp.of (sm.trans (Same.new ht))) (fun _=>sm.trans (Same.new ht)) (same_none sm ht) (by rw [upd_same,h])
 have t0M:t0∉M:=fun hm=>(T8 (C8.mk Ze Z4 Z2 Zd Z0 Z1 Zf Zc) w8).live hh t0 hm ht0
 have nof:due8 ts n ys (nB w8)= .no→∀H1,Kp M H0 H1→Q (V.ref t0) H1:=fun h H1 kp=>q t0 _ ((Kp.of s0).trans kp) (fun hn=>absurd h hn) ht0 (by rw [h];exact kp _ _ t0M et0)
 walk_at "go"
 refine ⟨w8,p,n,M,hh0,ts,ys,hfa,hst.same s0,nd,htl,s0 _ _ ha,ham,hyl,hyl6,hyn,h1,h2,?_⟩
 cases h0:due8 ts n ys (nB w8) with
 | many=>
  intro H' y sm hy er
  refine ⟨y,rfl,true,T.Z1y,?_⟩
  rw [if_pos rfl]
  exact ⟨by omega,fin .many H' h0 (s0.trans sm)⟩
 | unk z i=>
  intro H' y sm hy er
  obtain ⟨dy,e1,e2⟩:=er
  refine ⟨y,rfl,false,T.Z1z,?_⟩
  rw [if_neg (by decide)]
  refine ⟨true,T.Z20,?_⟩
  rw [if_pos rfl]
  refine ⟨false,Z3,Z6,dy,e1,_,e2,T.Z0f,T.Zx,_,unk_name,false,Z3,Z6,dy,e1,_,e2,T.Z0f,T.Zu,_,unk_place,by omega,fun p1 hp1=>?_⟩
  exact fin (.unk z i) H' h0 (s0.trans sm) p1 hp1
 | wide z i=>
  intro H' y sm hy er
  obtain ⟨dy,e1,e2⟩:=er
  refine ⟨y,rfl,false,T.Z7k,?_⟩
  rw [if_neg (by decide)]
  refine ⟨false,T.Z7l,?_⟩
  rw [if_neg (by decide)]
  refine ⟨true,T.Z7m,?_⟩
  rw [if_pos rfl]
  refine ⟨false,Z5,Z6,dy,e1,_,e2,T.Z2w,T.Z0k,_,unk_name,false,Z5,Z6,dy,e1,_,e2,T.Z2w,T.Z0a,_,unk_place,by omega,fun p1 hp1=>?_⟩
  exact fin (.wide z i) H' h0 (s0.trans sm) p1 hp1
 | nor=>
  intro H' y sm hy er
  refine ⟨y,rfl,false,T.Z7u,?_⟩
  rw [if_neg (by decide)]
  refine ⟨false,T.Z7v,?_⟩
  rw [if_neg (by decide)]
  refine ⟨false,T.Z7w,?_⟩
  rw [if_neg (by decide)]
  refine ⟨true,T.Z8f,?_⟩
  rw [if_pos rfl]
  exact ⟨by omega,fin .nor H' h0 (s0.trans sm)⟩
 | unl=>
  intro H' y sm hy er
  refine ⟨y,rfl,false,T.Z7x,?_⟩
  rw [if_neg (by decide)]
  refine ⟨false,T.Z7y,?_⟩
  rw [if_neg (by decide)]
  refine ⟨false,T.Z7z,?_⟩
  rw [if_neg (by decide)]
  refine ⟨false,T.Z8g,?_⟩
  rw [if_neg (by decide)]
  refine ⟨true,T.Z8h,?_⟩
  rw [if_pos rfl]
  exact ⟨by omega,fin .unl H' h0 (s0.trans sm)⟩
 | no=>
  intro H1 _ D H' kp
  exact nof h0 H' kp
theorem Zcn{f:Addr}{fd:FuncData}(F:Fun K "_law_rule" "_law_rule" Z81 f fd)(T:Txt K mg Z6 Z3 Z5 Z9 Z8 Zb Za Z7 Zg Ze Z4 Z2 Zd Z0 Z1 Zf Zc)(Zm:DefB P w K mg base (CXF P w) 4 "Rule" Ze ["self","stock","places"] (sp28_rinit K))(Zn:DefB P w K mg base (CXF P w) 5 "Ranked" Z4 ["self","stock","places"] (sp28_kinit K))(Z48:DefI P w K mg base (CXF P w) 5 "Oldest" Z2 ["self","stock","places"] (sp28_kinit K))(Z4t:DefI P w K mg base (CXF P w) 6 "First" Zd ["self","stock","places"] (sp22_init Zd))(Z3w:DefIK P w K mg base (CXF P w) 6 "Halving" Z0 ["self","stock","places","turn"] "turn" [V.int 8] (sp23_init Z0))(Z3c:DefI P w K mg base (CXF P w) 6 "Farthest" Z1 ["self","stock","places","asks"] (sp24_init K Z7 Z1))(Z5d:DefI P w K mg base (CXF P w) 6 "Hand" Zf ["self","stock","places"] (sp28_hinit Zf))(Z5e:DefI P w K mg base (CXF P w) 6 "Rows" Zc ["self","stock","places"] (sp26_init Zc)):FnOk P w K mg base (CXF P w) 9 f fd ["_law_stock","_law_places","_law_kind","_law_row"] (sp38_rule (C8.mk Ze Z4 Z2 Zd Z0 Z1 Zf Zc) K Z7):=by
 have sc:FnScope ["_law_stock","_law_places","_law_kind","_law_row"] ["_law_stock","_law_places","_law_kind","_law_row"] (defScope Z81):=by walk_at "sc"
 refine F.okF sc (fun vs H Q E h=>?_) (fun cdv A outer s H vs Q E hr h=>?_)
 · obtain ⟨_,_,_,_,_,_,rfl,_⟩:=h;rfl
 obtain ⟨w8,st,a,n,ts,ys,rfl,hst,nd,ha,hfa,h1,h2,q⟩:=h
 refine ⟨_,(@pss_cons _ _ _ _ _ (ps_if (pt_cmpR op_eq (pv 2) pe_int (nomark _))
  (@pss_one _ _ _ (@ps_ret _ _ _ _ (pe_makeS Z48 hr rfl (passS pass_onF) (pa_cons (pv 0) (pa_cons (pv 1) pa_nil)))))
  pss_nil)
  (@pss_cons _ _ _ _ _ (ps_if (pt_cmpR op_eq (pv 2) pe_int (nomark _))
   (@pss_one _ _ _ (@ps_ret _ _ _ _ (pe_makeD Z3w hr rfl (passS pass_onF) (pa_cons (pv 0) (pa_cons (pv 1) pa_nil)))))
   pss_nil)
  (@pss_cons _ _ _ _ _ (ps_if (pt_cmpR op_eq (pv 2) pe_int (nomark _))
   (@pss_one _ _ _ (@ps_ret _ _ _ _ (pe_makeS Z3c hr rfl (passS pass_onF) (pa_cons (pv 0) (pa_cons (pv 1) (pa_cons (pv 3) pa_nil))))))
   pss_nil)
  (@pss_cons _ _ _ _ _ (ps_if (pt_cmpR op_eq (pv 2) pe_int (nomark _))
   (@pss_one _ _ _ (@ps_ret _ _ _ _ (pe_makeS Z4t hr rfl (passS pass_onF) (pa_cons (pv 0) (pa_cons (pv 1) pa_nil)))))
   pss_nil)
  (@pss_cons _ _ _ _ _ (ps_if (pt_cmpR op_eq (pv 2) pe_int (nomark _))
   (@pss_one _ _ _ (@ps_ret _ _ _ _ (pe_makeS Z5d hr rfl (passS pass_onF) (pa_cons (pv 0) (pa_cons (pv 1) pa_nil)))))
   pss_nil)
  (@pss_cons _ _ _ _ _ (ps_if (pt_cmpR op_eq (pv 2) pe_int (nomark _))
   (@pss_one _ _ _ (@ps_ret _ _ _ _ (pe_makeS Z5e hr rfl (passS pass_onF) (pa_cons (pv 0) (pa_cons (pv 1) pa_nil)))))
   pss_nil)
  (@pss_cons _ _ _ _ _ (ps_if (pt_cmpR op_eq (pv 2) pe_int (nomark _))
   (@pss_one _ _ _ (@ps_ret _ _ _ _ (pe_makeS Zm.toI hr rfl (passS pass_onF) (pa_cons (pv 0) (pa_cons (pv 1) pa_nil)))))
   pss_nil)
  (@pss_one _ _ _ (@ps_ret _ _ _ _ (pe_makeS Zn.toI hr rfl (passS pass_onF) (pa_cons (pv 0) (pa_cons (pv 1) pa_nil)))))))))))),?_⟩
 walk_at "st"
 have line:=line_val
 cases w8 with
 | ol=>
  rw [show kd .ol=0 from rfl]
  walk_at "go"
  intro x dx hx hdx ne
  refine ⟨Z2,dx,upd_same,T.Z01,T.Z0h,T.Z08,T.Zw,T.Z0b,h1,h2,fun H' la sb hla nla hq hl=>?_⟩
  exact q x [x,la] H' (same_made hx hdx sb) (fun m hm=>by
   simp only [List.mem_cons,List.not_mem_nil,or_false]at hm
   rcases hm with e | e
   · rw [e];exact hx
   · rw [e];exact new_none hla) ⟨la,rfl,⟨dx,hq⟩,hl⟩
 | ra=>
  rw [show kd .ra=7 from rfl]
  walk_at "go"
  intro x dx hx hdx ne
  refine ⟨Z4,dx,upd_same,T.Z6p,T.Z0g,T.Z07,T.Z0o,T.Z1c,h1,h2,fun H' la sb hla nla hq hl=>?_⟩
  exact q x [x,la] H' (same_made hx hdx sb) (fun m hm=>by
   simp only [List.mem_cons,List.not_mem_nil,or_false]at hm
   rcases hm with e | e
   · rw [e];exact hx
   · rw [e];exact new_none hla) ⟨la,rfl,⟨dx,hq⟩,hl⟩
 | ru=>
  rw [show kd .ru=6 from rfl]
  walk_at "go"
  intro x dx hx hdx ne
  refine ⟨Ze,dx,upd_same,T.Z93,T.Z0y,T.Z0r,h1,h2,fun H' sb hq=>?_⟩
  exact q x [x] H' (same_made hx hdx sb) (fun m hm=>by rw [List.mem_singleton]at hm;rw [hm];exact hx) ⟨rfl,dx,hq⟩
 | fi=>
  rw [show kd .fi=3 from rfl]
  walk_at "go"
  intro x dx hx hdx ne
  refine ⟨dx,upd_same,h1,h2,fun H' la pa sb hla hpa hh=>?_⟩
  exact q x [x,la,pa] H' (same_made hx hdx sb) (fun m hm=>by
   simp only [List.mem_cons,List.not_mem_nil,or_false]at hm
   rcases hm with e | e | e
   · rw [e];exact hx
   · rw [e];exact new_none hla
   · rw [e];exact new_none hpa) hh
 | ha=>
  rw [show kd .ha=1 from rfl]
  walk_at "go"
  intro x dx hx hdx ne
  refine ⟨dx,upd_same,h1,h2,by decide,by decide,fun H' la pa sb hla hpa hh=>?_⟩
  exact q x [x,la,pa] H' (same_made hx hdx sb) (fun m hm=>by
   simp only [List.mem_cons,List.not_mem_nil,or_false]at hm
   rcases hm with e | e | e
   · rw [e];exact hx
   · rw [e];exact new_none hla
   · rw [e];exact new_none hpa) hh
 | hd=>
  rw [show kd .hd=4 from rfl]
  walk_at "go"
  intro x dx hx hdx ne
  refine ⟨dx,upd_same,h1,h2,fun H' od md sb hod hmd hh=>?_⟩
  exact q x [x,od,md] H' (same_made hx hdx sb) (fun m hm=>by
   simp only [List.mem_cons,List.not_mem_nil,or_false]at hm
   rcases hm with e | e | e
   · rw [e];exact hx
   · rw [e];exact new_none hod
   · rw [e];exact new_none hmd) hh
 | ro=>
  rw [show kd .ro=5 from rfl]
  walk_at "go"
  intro x dx hx hdx ne
  refine ⟨dx,upd_same,h1,h2,fun H' l1 l2 l3 l4 sb h1' h2' h3' h4' hh=>?_⟩
  exact q x [x,l1,l2,l3,l4] H' (same_made hx hdx sb) (fun m hm=>by
   simp only [List.mem_cons,List.not_mem_nil,or_false]at hm
   rcases hm with e | e | e | e | e
   · rw [e];exact hx
   · rw [e];exact new_none h1'
   · rw [e];exact new_none h2'
   · rw [e];exact new_none h3'
   · rw [e];exact new_none h4') ⟨l1,l2,l3,l4,rfl,hh⟩
 | fa ys1 hy1=>
  obtain ⟨e,hyl,hin,hrm⟩:=hfa ys1 hy1 rfl
  subst e
  rw [show kd (.fa ys1 hy1)=2 from rfl]
  walk_at "go"
  intro x dx hx hdx ne
  have smx:Same H (upd (upd H dx (.own x)) x (.ins Z1 dx [])):=fun b o e=>by rw [upd_ne (ne_of_none e hx),upd_ne (ne_of_none e hdx)];exact e
  refine ⟨dx,upd_same,ts,hst.same smx,nd,_,SqL.of (smx _ _ ha),hyl,hin,hrm,h1,h2,ne_of_none ha hx,fun H' la pa sb hla hpa hh=>?_⟩
  exact q x [x,la,pa] H' (same_made hx hdx sb) (fun m hm=>by
   simp only [List.mem_cons,List.not_mem_nil,or_false]at hm
   rcases hm with e | e | e
   · rw [e];exact hx
   · rw [e];exact new_none hla
   · rw [e];exact new_none hpa) hh
theorem Zds{f:Addr}{fd:FuncData}(F:Fun K "_law_due" "_law_due" Z94 f fd)(T:Txt K mg Z6 Z3 Z5 Z9 Z8 Zb Za Z7 Zg Ze Z4 Z2 Zd Z0 Z1 Zf Zc):FnOk P w K mg base (CXF P w) 1 f fd ["_law_row","_law_rooms","_law_places","_law_kind"] (sp38_due K):=by
 have sc:FnScope ["_law_row","_law_rooms","_law_places","_law_kind","_law_k","_law_name"] ["_law_row","_law_rooms","_law_places","_law_kind"] (defScope Z94):=by walk_at "sc"
 refine F.okF sc (fun vs H Q E h=>?_) (fun cdv A outer s H vs Q E hr h=>?_)
 · obtain ⟨_,_,_,_,_,_,rfl,_⟩:=h;rfl
 obtain ⟨a,e,n,k,ts,ys,rfl,hS,hl,he,nd,q⟩:=h
 refine ⟨_,(@pss_cons _ _ _ _ _ (ps_if (pt_cmpR op_gt (pe_callB call_len_seq rfl T.Z06 PySem.boot_len (pa_cons (pv 0) pa_nil)) pe_int (nomark _))
  (@pss_one _ _ _ (@ps_ret _ _ _ _ (pe_tup (pa_cons pe_str pa_nil))))
  pss_nil)
  (@pss_cons _ _ _ _ _ (ps_for own_outF rfl (pi_range1 rfl T.Z13 (pa_cons (pe_callB call_len_seq rfl T.Z06 PySem.boot_len (pa_cons (pv 0) pa_nil)) pa_nil)) (pg_name (i:=4) sc.nd rfl (Or.inl rfl))
   (@pss_cons _ _ _ _ _ (ps_if (pt_cmp (pc_dnotin (hu_of hr) (@pe_ix _ _ _ _ _ _ _ ix_list (pv 0) (pv 4) (fun _ _=>rfl)) (pv 1)))
    (@pss_one _ _ _ (@ps_ret _ _ _ _ (pe_tup (pa_cons pe_str (pa_cons (@pe_ix _ _ _ _ _ _ _ ix_list (pv 0) (pv 4) (fun _ _=>rfl)) (pa_cons (pv 4) pa_nil))))))
    pss_nil)
   (@pss_one _ _ _ (ps_if (pt_cmpR op_gt (pe_dget (hu_of hr) (pv 1) (@pe_ix _ _ _ _ _ _ _ ix_list (pv 0) (pv 4) (fun _ _=>rfl)) (fun _ _=>rfl)) (pv 2) (nomark _))
    (@pss_one _ _ _ (@ps_ret _ _ _ _ (pe_tup (pa_cons pe_str (pa_cons (@pe_ix _ _ _ _ _ _ _ ix_list (pv 0) (pv 4) (fun _ _=>rfl)) (pa_cons (pv 4) pa_nil))))))
    pss_nil))))
  (@pss_cons _ _ _ _ _ (ps_if (pt_cmpR op_gt (pv 3) pe_int (nomark _))
   (@pss_one _ _ _ (@ps_ret _ _ _ _ (pe_tup (pa_cons pe_str pa_nil))))
   pss_nil)
  (@pss_cons _ _ _ _ _ (ps_for own_outF rfl (pi_list (pv 0)) (pg_name (i:=5) sc.nd rfl (Or.inl rfl))
   (@pss_one _ _ _ (ps_if (pt_cmpR op_ne (pe_dget (hu_of hr) (pv 1) (pv 5) (fun _ _=>rfl)) pe_int (nomark _))
    (@pss_one _ _ _ (@ps_ret _ _ _ _ (pe_tup (pa_cons pe_str pa_nil))))
    pss_nil)))
  (@pss_one _ _ _ (@ps_ret _ _ _ _ (pe_tup (pa_cons pe_str pa_nil)))))))),?_⟩
 walk_at "st"
 have line:=line_val
 have gv:∀z,DGet H e (.str z) (valV (ts.map fun t=>((Sum.inr t.1:Key),V.int t.2.2)) (Sum.inr z)):=fun z=>DGet.k (k:=Sum.inr z) he
 have fin:∀r:R8,due8 ts n ys (decide (k≤2))=r→∀p,H p=none→Q (V.ref p) (upd H p (.tup r.vs)):=fun r h p hp=>q p _ (Same.new hp) hp (by rw [upd_same,h])
 walk_at "go"
 rw [List.length_map]
 by_cases hm:200 < ys.length
 · rw [if_pos (by omega)]
   refine ⟨by omega,fin .many ?_⟩
   unfold due8 ask8;rw [if_pos hm]
 rw [if_neg (by omega)]
 rename_i rest hrest
 subst hrest
 walk_at "go"
 rename_i rest hrest
 refine ⟨by rw [List.length_map];omega,?_⟩
 rw [List.length_map]
 refine forR_by (n:=ys.length) (fun i σ H'=>∃(v4:Option V),σ=[some (V.ref a),some (V.ref e),some (V.int n),some (V.int k),v4,none]∧H'=H∧bad ts n ys 0=bad ts n (ys.drop i) i) ⟨none,rfl,rfl,by rw [List.drop_zero]⟩ ?_ ?_
 · clear hrest
   rintro i σ H' hi ⟨v4,rfl,rfl,hbd⟩
   have hy:ys[i]?=some (ys.getD i Str.empty):=getD_str hi
   have hya:atI (ys.map V.str) (i:Int)=some (V.str (ys.getD i Str.empty)):=atI_nat (by rw [List.getElem?_map,hy];rfl)
   rw [bad_step hy]at hbd
   generalize ys.getD i Str.empty=y at hy hya hbd
   walk_at "go"
   refine ixL_of hS hya ⟨_,gv y,?_⟩
   rw [rm_is]
   by_cases hin:y∈ts.map (·.1)
   · rw [if_neg (by simpa using hin)]
     rw [if_pos hin]at hbd
     rename_i rest hrest
     subst hrest
     walk_at "go"
     refine ixL_of hS hya ⟨.int (rmOf ts y),by rw [← rm_some hin];exact gv y,_,rfl,?_⟩
     by_cases hwd:n < rmOf ts y
     · rw [if_pos hwd]
       rw [if_pos hwd]at hbd
       refine ixL_of hS hya ⟨by omega,fin (.wide y i) ?_⟩
       unfold due8 ask8;rw [if_neg hm,hbd]
     · rw [if_neg hwd]
       rw [if_neg hwd]at hbd
       exact ⟨rfl,hbd⟩
   · rw [if_pos (by simpa using hin)]
     rw [if_neg hin]at hbd
     refine ixL_of hS hya ⟨by omega,fin (.unk y i) ?_⟩
     unfold due8 ask8;rw [if_neg hm,hbd]
 · rintro σ H' ⟨v4,rfl,rfl,hbd⟩
   have hb0:bad ts n ys 0=none:=by rw [hbd,List.drop_of_length_le (Nat.le_refl _)];rfl
   have ha0:ask8 ts n ys= .no:=by unfold ask8;rw [if_neg hm,hb0]
   have hin:=(bad_none.mp hb0).1
   subst hrest
   walk_at "go"
   by_cases hk:2 < k
   · rw [if_pos hk]
     refine ⟨by omega,fin .nor ?_⟩
     unfold due8;rw [ha0]
     show (if decide (k≤2)=true then _ else R8.nor)=_
     rw [if_neg (by simp;omega)]
   rw [if_neg hk]
   have hd0:due8 ts n ys (decide (k≤2))=if ∀y∈ys,rm ts y=1 then .no else .unl:=by
    unfold due8;rw [ha0]
    show (if decide (k≤2)=true then _ else R8.nor)=_
    rw [if_pos (by simp;omega)]
   rename_i rest hrest
   subst hrest
   walk_at "go"
   rename_i rest hrest
   refine ⟨⟨_,hS⟩,forL_by (xs:=ys.map V.str) (fun i σ H''=>∃(v5:Option V),σ=[some (V.ref a),some (V.ref e),some (V.int n),some (V.int k),v4,v5]∧H''=H'∧∀j,j < i→∀y,ys[j]?=some y→rm ts y=1) ⟨none,rfl,rfl,fun j hj=>absurd hj (Nat.not_lt_zero _)⟩ (fun i σ H' _ h_=>by obtain ⟨v1,_,rfl,_⟩:=h_;exact hS) ?_ ?_⟩
   · clear hrest
     rintro i v σ H2 hv ⟨v5,rfl,rfl,hall⟩
     rw [List.getElem?_map]at hv
     cases hyy:ys[i]? with
     | none=>rw [hyy]at hv;cases hv
     | some y=>
     rw [hyy]at hv
     cases hv
     have hym:=List.mem_of_getElem? hyy
     walk_at "go"
     refine ⟨.int (rmOf ts y),by rw [← rm_some (hin y hym)];exact gv y,rfl,?_⟩
     by_cases c:rmOf ts y=1
     · rw [if_neg (fun h=>h (by rw [c]))]
       intro j2 hj2 y2 hy2
       by_cases e2:j2=i
       · rw [e2,hyy]at hy2;cases hy2;rw [rm_rmOf];exact c
       · exact hall j2 (by omega) y2 hy2
     · rw [if_pos (fun h=>c (by injection h))]
       refine ⟨by omega,fin .unl ?_⟩
       rw [hd0,if_neg]
       intro h
       have:=h y hym
       rw [rm_rmOf]at this
       exact c this
   · rintro σ H2 ⟨v5,rfl,rfl,hall⟩
     subst hrest
     walk_at "go"
     refine fin .no ?_
     rw [hd0,if_pos]
     intro y hy'
     obtain ⟨j,hj⟩:=List.mem_iff_getElem?.mp hy'
     exact hall j (by rw [List.length_map];exact (List.getElem?_eq_some_iff.mp hj).1) y hj
theorem Zdz{f:Addr}{fd:FuncData}(F:Fun K "law" "law" Z49 f fd)(T:Txt K mg Z6 Z3 Z5 Z9 Z8 Zb Za Z7 Zg Ze Z4 Z2 Zd Z0 Z1 Zf Zc)(Z0d:Def P w K mg base (CXF P w) 1 "_law_cell" ["_law_script","_law_k"] (sp_cell K))(Z6z:Def P w K mg base (CXF P w) 1 "_law_names" ["_law_cell_here","_law_many"] (sp35_names))(Z4u:DefI P w K mg base (CXF P w) 4 "Stock" Z7 ["self","rows"] (sp_initG K Z7))(Z7h:Def P w K mg base (CXF P w) 1 "_law_due" ["_law_row","_law_rooms","_law_places","_law_kind"] (sp38_due K))(Z2d:Def P w K mg base (CXF P w) 8 "_law_told_by" ["_law_stock","_law_row","_law_steps"] (sp38_told K Z7))(Z2o:Def P w K mg base (CXF P w) 9 "_law_told_by_rank" ["_law_rule_here","_law_row"] (sp38_rank (C8.mk Ze Z4 Z2 Zd Z0 Z1 Zf Zc) K Z7))(Z8a:Def P w K mg base (CXF P w) 9 "_law_rule" ["_law_stock","_law_places","_law_kind","_law_row"] (sp38_rule (C8.mk Ze Z4 Z2 Zd Z0 Z1 Zf Zc) K Z7))(Z2p:DefM P w K mg base (CXF P w) 1 Z0 "counts" ["self"] (sp23_counts Z0)):FnOk P w K mg base (CXF P w) 10 f fd ["_law_script"] (sp_law K):=by
 have sc:FnScope ["_law_script","_law_many","_law_names_here","_law_most","_law_rooms","_law_k","_law_stock","_law_good","_law_row","_law_at","_law_due_here","_law_places","_law_kind","_law_rule_here"] ["_law_script"] (defScope Z49):=by walk_at "sc"
 refine F.okF sc (fun vs H Q E h=>?_) (fun cdv A outer s H vs Q E hr h=>?_)
 · obtain ⟨_,_,rfl,_⟩:=h;rfl
 obtain ⟨a,ns,rfl,hS,hl,q⟩:=h
 refine ⟨_,(@pss_cons _ _ _ _ _ (ps_set (i:=1) sc.nd rfl (Or.inr rfl) (pe_op op_add pe_int (pe_op op_mod (pe_callD Z0d hr rfl pass_onF (pa_cons (pv 0) (pa_cons pe_int pa_nil))) pe_int)))
  (@pss_cons _ _ _ _ _ (ps_set (i:=2) sc.nd rfl (Or.inr rfl) (pe_callD Z6z hr rfl pass_onF (pa_cons (pe_callD Z0d hr rfl pass_onF (pa_cons (pv 0) (pa_cons pe_int pa_nil))) (pa_cons (pv 1) pa_nil))))
  (@pss_cons _ _ _ _ _ (ps_set (i:=3) sc.nd rfl (Or.inl rfl) (@pe_ix _ _ _ _ _ _ _ ix_list (@pe_lst _ _ _ _ (@pa_consK _ _ _ _ _ _ _ pe_int (@pa_consK _ _ _ _ _ _ _ pe_int (@pa_consK _ _ _ _ _ _ _ pe_int (@pa_consK _ _ _ _ _ _ _ pe_int pa_nil))))) (pe_op op_mod (pe_callD Z0d hr rfl pass_onF (pa_cons (pv 0) (pa_cons pe_int pa_nil))) pe_int) (fun _ _=>rfl)))
  (@pss_cons _ _ _ _ _ (ps_set (i:=4) sc.nd rfl (Or.inr rfl) pe_dnewK)
  (@pss_cons _ _ _ _ _ (ps_for own_outF rfl (pi_range2 rfl T.Z13 (pa_cons pe_int (pa_cons (pv 1) pa_nil))) (pg_name (i:=5) sc.nd rfl (Or.inl rfl))
   (@pss_one _ _ _ (ps_dput (hu_of hr) (pv 4) (@pe_ix _ _ _ _ _ _ _ ix_list (pv 2) (pv 5) (fun _ _=>rfl)) (pe_op op_add pe_int (pe_op op_mod (pe_op op_fdivB (pe_op op_fdiv (pe_callD Z0d hr rfl pass_onF (pa_cons (pv 0) (pa_cons pe_int pa_nil))) pe_int) (pv 5)) (pv 3))) rfl)))
  (@pss_cons _ _ _ _ _ (ps_set (i:=6) sc.nd rfl (Or.inl rfl) (pe_makeS Z4u hr rfl (passS pass_onF) (pa_cons (pe_comp1 "_law_k" [2,4] rfl rfl (pi_range2 rfl T.Z13 (pa_cons pe_int (pa_cons (pv 1) pa_nil))) (fun b=>(pe_tup (pa_cons (@pe_ix _ _ _ _ _ _ _ ix_list (pv 1) (pv 0) (fun _ _=>rfl)) (pa_cons (pv 0) (pa_cons (pe_dget (hu_of hr) (pv 2) (@pe_ix _ _ _ _ _ _ _ ix_list (pv 1) (pv 0) (fun _ _=>rfl)) (fun _ _=>rfl)) pa_nil)))))) pa_nil)))
  (@pss_cons _ _ _ _ _ (ps_comp1 (i:=7) "_law_x" [2,1] sc.nd rfl rfl rfl rfl (pi_list (pe_slice sl_list (pv 0) (po_some pe_int) (po_some pe_int))) (fun b=>(@pe_ix _ _ _ _ _ _ _ ix_list (pv 1) (pe_op op_add pe_int (pe_op op_mod (pv 0) (pe_op op_sub (pv 2) pe_int))) (fun _ _=>rfl))))
  (@pss_cons _ _ _ _ _ (ps_set (i:=8) sc.nd rfl (Or.inl rfl) (pe_callTy call_list_of rfl T.Z4e (by first | rfl | decide+kernel) (pa_cons (pv 7) pa_nil)))
  (@pss_cons _ _ _ _ _ (ps_set (i:=9) sc.nd rfl (Or.inl rfl) (pe_op op_mod (pe_op op_fdiv (pe_callD Z0d hr rfl pass_onF (pa_cons (pv 0) (pa_cons pe_int pa_nil))) pe_int) (pe_op op_add (pe_callB call_len_seq rfl T.Z06 PySem.boot_len (pa_cons (pv 8) pa_nil)) pe_int)))
  (@pss_cons _ _ _ _ _ (ps_if (pt_cmpR op_eq (pe_op op_mod (pe_callD Z0d hr rfl pass_onF (pa_cons (pv 0) (pa_cons pe_int pa_nil))) pe_int) pe_int (nomark _))
   (@pss_one _ _ _ (ps_set (i:=8) sc.nd rfl (Or.inl rfl) (pe_op op_cat (pe_op op_cat (pe_slice sl_list (pv 8) po_none (po_some (pv 9))) (@pe_lst _ _ _ _ (pa_cons (@pe_ix _ _ _ _ _ _ _ ix_list (pv 2) pe_int (fun _ _=>rfl)) pa_nil))) (pe_slice sl_list (pv 8) (po_some (pv 9)) po_none))))
   pss_nil)
  (@pss_cons _ _ _ _ _ (ps_if (pt_cmpR op_eq (pe_op op_mod (pe_callD Z0d hr rfl pass_onF (pa_cons (pv 0) (pa_cons pe_int pa_nil))) pe_int) pe_int (nomark _))
   (@pss_one _ _ _ (ps_set (i:=8) sc.nd rfl (Or.inl rfl) (pe_op op_cat (pv 8) (pe_op op_rep (@pe_lst _ _ _ _ (pa_cons (@pe_ix _ _ _ _ _ _ _ ix_list (pv 2) (pe_op op_sub (pv 1) pe_int) (fun _ _=>rfl)) pa_nil)) (pe_op op_sub (pe_op op_add pe_int (pe_op op_mod (pe_op op_fdiv (pe_callD Z0d hr rfl pass_onF (pa_cons (pv 0) (pa_cons pe_int pa_nil))) pe_int) pe_int)) (pe_callB call_len_seq rfl T.Z06 PySem.boot_len (pa_cons (pv 8) pa_nil)))))))
   pss_nil)
  (@pss_cons _ _ _ _ _ (ps_set (i:=10) sc.nd rfl (Or.inl rfl) (pe_callD Z7h hr rfl pass_onF (pa_cons (pv 8) (pa_cons (pv 4) (@pa_consK _ _ _ _ _ _ _ pe_int (@pa_consK _ _ _ _ _ _ _ pe_int pa_nil))))))
  (@pss_cons _ _ _ _ _ (ps_if (pt_cmpR (op_eqQ hr) (pv 10) (pe_tup (pa_cons pe_str pa_nil)) (nomark _))
   (@pss_one _ _ _ (ps_set (i:=10) sc.nd rfl (Or.inl rfl) (pe_tup (pa_cons pe_str pa_nil))))
   pss_nil)
  (@pss_cons _ _ _ _ _ (ps_if (PW.pt (pw_or (pt_cmpR (op_neQ hr) (pe_callD Z2d hr rfl pass_onF (pa_cons (pv 6) (pa_cons (pv 8) (pa_cons pe_bl pa_nil)))) (pv 10) (nomark _)) (pw_or1 (pt_cmpR (op_neQ hr) (pe_callD Z2d hr rfl pass_onF (pa_cons (pv 6) (pa_cons (pv 8) (pa_cons pe_bl pa_nil)))) (pv 10) (nomark _)))))
   (@pss_one _ _ _ (@ps_ret _ _ _ _ pe_bl))
   pss_nil)
  (@pss_cons _ _ _ _ _ (ps_set (i:=11) sc.nd rfl (Or.inl rfl) (pe_op op_add pe_int (pe_op op_mod (pe_callD Z0d hr rfl pass_onF (pa_cons (pv 0) (pa_cons pe_int pa_nil))) pe_int)))
  (@pss_cons _ _ _ _ _ (ps_set (i:=12) sc.nd rfl (Or.inl rfl) (pe_op op_mod (pe_op op_fdiv (pe_callD Z0d hr rfl pass_onF (pa_cons (pv 0) (pa_cons pe_int pa_nil))) pe_int) pe_int))
  (@pss_cons _ _ _ _ _ (ps_set (i:=10) sc.nd rfl (Or.inl rfl) (pe_callD Z7h hr rfl pass_onF (pa_cons (pv 8) (pa_cons (pv 4) (pa_cons (pv 11) (pa_cons (pv 12) pa_nil))))))
  (@pss_cons _ _ _ _ _ (ps_if (PW.pt (pw_and (pt_cmpR op_eq (pv 12) pe_int (nomark _)) (pw_and1 (pt_cmpR (op_ninQ hr) (pv 10) (@pe_lst _ _ _ _ (pa_cons (pe_tup (pa_cons pe_str pa_nil)) (pa_cons (pe_tup (pa_cons pe_str pa_nil)) pa_nil))) (by with_unfolding_all rfl)))))
   (@pss_one _ _ _ (ps_set (i:=12) sc.nd rfl (Or.inl rfl) pe_int))
   pss_nil)
  (@pss_cons _ _ _ _ _ (ps_set (i:=13) sc.nd rfl (Or.inl rfl) (pe_callD Z8a hr rfl pass_onF (pa_cons (pv 6) (pa_cons (pv 11) (pa_cons (pv 12) (pa_cons (pv 8) pa_nil))))))
  (@pss_cons _ _ _ _ _ (ps_if (pt_cmpR (op_neQ hr) (pe_callD Z2o hr rfl pass_onF (pa_cons (pv 13) (pa_cons (pv 8) pa_nil))) (pv 10) (nomark _))
   (@pss_one _ _ _ (@ps_ret _ _ _ _ pe_bl))
   pss_nil)
  (@pss_cons _ _ _ _ _ (ps_if (PW.pt (pw_and (pt_cmpR op_eq (pv 12) pe_int (nomark _)) (pw_and (pt_cmpR (op_neQ hr) (pv 10) (pe_tup (pa_cons pe_str pa_nil)) (nomark _)) (pw_and1 (pt_cmpR (op_neDD hr) (pe_methS0 Z2p T.Zi hr (passS pass_onF) (pv 13)) pe_dnewK (nomark _))))))
   (@pss_one _ _ _ (@ps_ret _ _ _ _ pe_bl))
   pss_nil)
  (@pss_one _ _ _ (@ps_ret _ _ _ _ (pe_cmpR (op_eqQ hr) (pe_callD Z2d hr rfl pass_onF (pa_cons (pv 6) (pa_cons (pv 7) (pa_cons pe_bl pa_nil)))) (pe_tup (pa_cons pe_str pa_nil)) (nomark _))))))))))))))))))))))))),?_⟩
 walk_at "st"
 have line:=line_val
 walk_at "go"
 obtain ⟨m,hm⟩:∃m:Nat,2+ns.getD 1 0 % 7=(m:Int):=⟨(2+ns.getD 1 0 % 7).toNat,by omega⟩
 have hm2:2≤m:=by omega
 have hm8:m≤8:=by omega
 rw [hm]
 clear hm
 refine ⟨m,rfl,by omega,fun nl nm H1 hn sm1 hn1 hnl hnd hnm=>?_⟩
 have hS1:=sm1.seq hS
 rename_i rest hrest
 subst hrest
 walk_at "go"
 intro p hp
 have smp:Same H1 (upd H1 p (.lst [V.int 1,V.int 3,V.int 2,V.int 1])):=Same.new hp
 obtain ⟨v,hv,hM⟩:=atI_in (xs:=[V.int 1,V.int 3,V.int 2,V.int 1]) (i:=ns.getD 2 0 % 4) (by omega) (by show _ < ((4:Nat):Int);omega)
 obtain ⟨mo,rfl,hmo1,hmo2⟩:∃mo:Int,v=V.int mo∧1≤mo∧mo≤3:=by
  simp only [List.mem_cons,List.not_mem_nil,or_false]at hM
  rcases hM with rfl | rfl | rfl | rfl
  all_goals first | exact ⟨1,rfl,by decide,by decide⟩ | exact ⟨2,rfl,by decide,by decide⟩ | exact ⟨3,rfl,by decide,by decide⟩
 refine ⟨ns,smp.seq hS1,by decide,hl,by decide,ixL_of (SqL.of upd_same) hv ?_⟩
 have hS2:=smp.seq hS1
 have hn2:=smp _ _ hn1
 generalize upd H1 p (.lst [V.int 1,V.int 3,V.int 2,V.int 1])=H2 at smp hS2 hn2 ⊢
 clear hS1 hn1 smp hp hv hM
 rename_i rest hrest
 subst hrest
 walk_at "go"
 intro d hd
 have s3:Same H2 (upd H2 d (.dK [])):=Same.new hd
 have ed3:upd H2 d (.dK []) d=some (.dK []):=upd_same
 generalize upd H2 d (.dK [])=H3 at s3 ed3 ⊢
 rename_i rest hrest
 subst hrest
 have hg:∀j:Nat,j < nm.length→atI (nm.map V.str) (j:Int)=some (V.str (nm.getD j Str.empty)):=fun j hj=>by
  refine atI_nat ?_
  rw [List.getElem?_map,List.getD_eq_getElem?_getD,List.getElem?_eq_getElem hj];rfl
 walk_at "go"
 rename_i rest hrest
 refine forR_by (fun j σ H'=>∃(rs:List Int) (v5:Option V),σ=[some (V.ref a),some (V.int m),some (V.ref nl),some (V.int mo),some (V.ref d),v5,none,none,none,none,none,none,none,none]∧Same H2 H'∧rs.length≤j∧j≤rs.length∧(∀r∈rs,1≤r∧r≤3)∧H' d=some (.dK (kvn nm rs))) ⟨[],none,rfl,s3,Nat.le_refl _,Nat.le_refl _,fun r hr=>(by cases hr),ed3⟩ ?_ ?_
 · clear hrest
   rintro j σ H5 hj ⟨rs,v5,rfl,sm,l1,l2,hrs,ed⟩
   have erl:rs.length=j:=by omega
   walk_at "go"
   have hjm:1+j < nm.length:=by omega
   have hgj:=hg (1+j) hjm
   rw [show ((1+j:Nat):Int)=1+(j:Int) by omega]at hgj
   have e1:=Int.emod_nonneg ((ns.getD 2 0 / 4).fdiv (1+(j:Int))) (show mo≠0 by omega)
   have e2:=Int.emod_lt_of_pos ((ns.getD 2 0 / 4).fdiv (1+(j:Int))) (show 0 < mo by omega)
   refine ⟨ns,sm.seq hS2,by decide,hl,cdiv_of (by decide) (by decide),by omega,by omega,by omega,ixL_of (SqL.of (sm _ _ hn2)) hgj ⟨_,DPut.k (k:=Sum.inr (nm.getD (1+j) Str.empty)) ed (by unfold kvn;rw [List.length_map,List.length_range];omega),same_put sm hd,rs++[1+(ns.getD 2 0 / 4).fdiv (1+(j:Int)) % mo],by rw [List.length_append,List.length_singleton];omega,by rw [List.length_append,List.length_singleton];omega,fun r hr=>?_,?_⟩⟩
   · rcases List.mem_append.mp hr with h | h
     · exact hrs r h
     · rw [List.mem_singleton.mp h];omega
   · rw [upd_same,← erl,kvn_put hnd (by omega)]
 · rintro σ H5 ⟨rs,v5,rfl,sm,l1,l2,hrs,ed⟩
   have erl:rs.length=m - 1:=by omega
   subst hrest
   walk_at "go"
   have hlm:rs.length+1=nm.length:=by omega
   have hin0:∀j,j < rs.length→rs.getD j 0∈rs:=fun j hj=>by rw [List.getD_eq_getElem?_getD,List.getElem?_eq_getElem hj];exact List.getElem_mem hj
   have hS5:=sm.seq hS2
   have hn5:=sm _ _ hn2
   rename_i rest hrest
   refine compR_mk (n:=((m:Int) - 1).toNat) (fun i y H=>∃t,y=V.ref t∧H t=some (.tup [V.str (nm.getD (1+i) Str.empty),V.int (1+(i:Int)),V.int (rs.getD i 0)])) (fun i=>?_) (by omega) (fun b' i H6 Q' hi s6 q6=>?_) fun D yl H6 hD s6 eD hyl6 hall=>?_
   · rintro y G G' l zs ⟨t,rfl,g1⟩ hl' sb
     exact ⟨t,rfl,sb _ _ g1 fun e2=>by rw [e2,hl']at g1;cases g1⟩
   · have hgj:=hg (1+i) (by omega)
     rw [show ((1+i:Nat):Int)=1+(i:Int) by omega]at hgj
     walk_at "go"
     refine ixL_of (SqL.of (s6 _ _ hn5)) hgj (ixL_of (SqL.of (s6 _ _ hn5)) hgj ⟨_,by rw [← kvn_get hnd hlm (show i < rs.length by omega)];exact DGet.k (k:=Sum.inr (nm.getD (1+i) Str.empty)) (s6 _ _ ed),by omega,fun t ht=>q6 _ _ (Same.new ht) ⟨t,rfl,upd_same⟩⟩)
   obtain ⟨ts,hts⟩:∃ts:List Th,ts=tsn nm rs:=⟨_,rfl⟩
   have eyl:yl=(yl.map aOf).map V.ref:=by
    rw [List.map_map]
    refine (List.map_id yl).symm.trans (List.map_congr_left fun y hy=>?_)
    obtain ⟨i,hi⟩:=List.mem_iff_getElem?.mp hy
    obtain ⟨t,rfl,_⟩:=hall i y hi
    rfl
   have htn:ts.map (·.1)=nm.drop 1:=by rw [hts];exact tsn_names hlm
   have hndts:(ts.map (·.1)).Nodup:=by rw [htn];exact hnd.sublist (List.drop_sublist _ _)
   have htl:ts.length=m - 1:=by rw [hts,tsn_len];exact erl
   have hta:∀(j:Nat) (t:Th),ts[j]?=some t→j < rs.length∧t=(nm.getD (1+j) Str.empty,(1+(j:Int)),rs.getD j 0):=fun j t h=>by
    have hj:j < rs.length:=by have:=(List.getElem?_eq_some_iff.mp h).1;omega
    rw [hts,tsn_at hj]at h
    cases h
    exact ⟨hj,rfl⟩
   have hRW:RowsAt K H6 D (yl.map aOf) ts:=by
    refine ⟨by rw [← eyl];exact SqL.of eD,by rw [List.length_map];omega,by omega,fun j b t h1 h2=>?_,fun t ht=>?_,hndts⟩
    · obtain ⟨hj,rfl⟩:=hta j t h2
      rw [List.getElem?_map]at h1
      cases hy:yl[j]? with
      | none=>rw [hy]at h1;cases h1
      | some y=>
       rw [hy]at h1
       obtain ⟨t',rfl,hr⟩:=hall j y hy
       cases h1
       exact SqT.of hr
    · obtain ⟨j,hj⟩:=List.mem_iff_getElem?.mp ht
      obtain ⟨hj',rfl⟩:=hta j t hj
      have hj30:1+(j:Int)≤10 ^ 30:=by
       have h60:(60:Int)≤10 ^ 30:=by decide
       omega
      have hr:=hrs _ (hin0 j hj')
      refine ⟨hnm _ ?_,(show (0:Int)≤1+(j:Int) by omega),hj30,hr.1,(show rs.getD j 0≤1000 by omega)⟩
      rw [List.getD_eq_getElem?_getD,List.getElem?_eq_getElem (show 1+j < nm.length by omega)]
      exact List.getElem_mem _
   have hr3:∀t∈ts,t.2.2≤3:=fun t ht=>by
    obtain ⟨j,hj⟩:=List.mem_iff_getElem?.mp ht
    obtain ⟨hj',rfl⟩:=hta j t hj
    exact (hrs _ (hin0 j hj')).2
   have ed6:H6 d=some (.dK (ts.map fun t=>(Sum.inr t.1,.int t.2.2))):=by rw [hts,← kvn_ts];exact s6 _ _ ed
   have hS6:=s6.seq hS5
   have hn6:=s6 _ _ hn5
   clear hta hall eD eyl hin0 hts hyl6 ed hS5 hn5
   subst hrest
   intro s dx hsn hdx nsx
   obtain ⟨rs',e1,e2,e3,e4⟩:=hRW.init
   have smm:Same H6 (upd (upd H6 dx (.own s)) s (.ins Z7 dx [])):=same_made hsn hdx fun b o e _=>e
   refine ⟨dx,D,rfl,upd_same,rs',by rw [e1];exact smm.seq hRW.l,fun t ht=>smm.tup (e2 t ht),e3,fun H7 sb7 st7=>?_⟩
   rw [e4]at st7
   have sm7:Same H6 H7:=same_made hsn hdx sb7
   have hS7:=sm7.seq hS6
   have hn7:=sm7 _ _ hn6
   have ed7:=sm7 _ _ ed6
   clear sb7 hsn hdx nsx e1 e2 e3 e4 smm hS6 hn6 ed6 sm7 hRW rs'
   walk_at "go"
   refine ⟨_,hS7,fun c hc=>?_⟩
   obtain ⟨cs',hcut,hcl,hcl2⟩:=N35.cut_4x ns 6 56
   rw [show cutV (ns.map V.int) (some 6) (some 56)=cs'.map V.int from hcut]
   have smc:Same H7 (upd H7 c (.lst (cs'.map V.int))):=Same.new hc
   refine ⟨⟨_,SqL.of upd_same⟩,?_⟩
   rename_i rest hrest
   refine compL_pure (fun v=>match v with | .int i=>V.str (nm.getD (1+(i % ((m:Int) - 1)).toNat) Str.empty) | _=> .non) (SqL.of upd_same) (by rw [List.length_map];omega) ?_ ?_
   · rintro b x H8 Q' hx sm8 q'
     obtain ⟨i,_,rfl⟩:=List.mem_map.mp hx
     have i1:=Int.emod_nonneg i (show ((m:Int) - 1)≠0 by omega)
     have i2:=Int.emod_lt_of_pos i (show (0:Int) < (m:Int) - 1 by omega)
     walk_at "go"
     have e8:1+i % ((m:Int) - 1)=((1+(i % ((m:Int) - 1)).toNat:Nat):Int):=by omega
     have hgi:=hg (1+(i % ((m:Int) - 1)).toNat) (by omega)
     rw [← e8]at hgi
     exact ixL_of (SqL.of ((smc.trans sm8) _ _ hn7)) hgi q'
   intro gd hgdn
   obtain ⟨gs,hgs⟩:∃gs:List Str,gs=cs'.map fun i=>nm.getD (1+(i % ((m:Int) - 1)).toNat) Str.empty:=⟨_,rfl⟩
   have eD:(cs'.map V.int).map (fun v=>match v with | .int i=>V.str (nm.getD (1+(i % ((m:Int) - 1)).toNat) Str.empty) | _=> .non)=gs.map V.str:=by rw [hgs,List.map_map,List.map_map];rfl
   have hgl:gs.length≤50:=by rw [hgs,List.length_map];omega
   have hgin:∀y∈gs,y∈ts.map (·.1):=fun y hy=>by
    rw [hgs]at hy
    obtain ⟨i,_,rfl⟩:=List.mem_map.mp hy
    have i1:=Int.emod_nonneg i (show ((m:Int) - 1)≠0 by omega)
    have i2:=Int.emod_lt_of_pos i (show (0:Int) < (m:Int) - 1 by omega)
    rw [htn,List.getD_eq_getElem?_getD,List.getElem?_eq_getElem (show 1+(i % ((m:Int) - 1)).toNat < nm.length by omega)]
    exact List.mem_iff_getElem?.mpr ⟨(i % ((m:Int) - 1)).toNat,by rw [List.getElem?_drop,List.getElem?_eq_getElem (show 1+(i % ((m:Int) - 1)).toNat < nm.length by omega)];rfl⟩
   rw [eD]
   clear eD hgs
   have smD:Same H7 (upd (upd H7 c (.lst (cs'.map V.int))) gd (.lst (gs.map V.str))):=smc.trans (Same.new hgdn)
   have eg8:upd (upd H7 c (.lst (cs'.map V.int))) gd (.lst (gs.map V.str)) gd=some (.lst (gs.map V.str)):=upd_same
   generalize upd (upd H7 c (.lst (cs'.map V.int))) gd (.lst (gs.map V.str))=H8 at smD eg8 ⊢
   have hS8:=smD.seq hS7
   have hn8:=smD _ _ hn7
   have ed8:=smD _ _ ed7
   have st8:=st7.same smD
   clear hS7 hn7 ed7 st7 smc hc hgdn hcut hcl hcl2 smD
   subst hrest
   walk_at "go"
   refine ⟨_,.inl (SqL.of eg8),fun ro hro=>?_⟩
   have s9:Same H8 (upd H8 ro (.lst (gs.map V.str))):=Same.new hro
   have er9:upd H8 ro (.lst (gs.map V.str)) ro=some (.lst (gs.map V.str)):=upd_same
   have hS9:=s9.seq hS8
   have hn9:=s9 _ _ hn8
   have ed9:=s9 _ _ ed8
   have st9:=st8.same s9
   have eg9:=s9 _ _ eg8
   generalize upd H8 ro (.lst (gs.map V.str))=H9 at s9 er9 hS9 hn9 ed9 st9 eg9 ⊢
   clear hS8 hn8 ed8 st8 eg8 hro s9
   rename_i rest hrest
   subst hrest
   walk_at "go"
   refine ⟨_,.inl (SqL.of er9),by omega,?_⟩
   rw [List.length_map]
   obtain ⟨at',hat⟩:∃at':Nat,ns.getD 3 0 / 3 % ((gs.length:Int)+1)=(at':Int)∧at'≤gs.length:=by
    have i1:=Int.emod_nonneg (ns.getD 3 0 / 3) (show ((gs.length:Int)+1)≠0 by omega)
    have i2:=Int.emod_lt_of_pos (ns.getD 3 0 / 3) (show (0:Int) < (gs.length:Int)+1 by omega)
    exact ⟨(ns.getD 3 0 / 3 % ((gs.length:Int)+1)).toNat,by omega,by omega⟩
   rw [hat.1]
   have hgn:∀y∈gs,y∈nm:=fun y hy=>by have:=hgin y hy;rw [htn]at this;exact List.mem_of_mem_drop this
   have hm0:nm.getD 0 Str.empty∈nm:=by rw [List.getD_eq_getElem?_getD,List.getElem?_eq_getElem (show 0 < nm.length by omega)];exact List.getElem_mem _
   have hml:nm.getD (m - 1) Str.empty∈nm:=by rw [List.getD_eq_getElem?_getD,List.getElem?_eq_getElem (show m - 1 < nm.length by omega)];exact List.getElem_mem _
   rename_i rest hrest
   subst hrest
   walk_at "go"
   rename_i rest hrest
   have keyA:∀(W:Addr) (ws:List Str) (HA:Hp),Same H9 HA→HA W=some (.lst (ws.map V.str))→ws.length≤60→(∀y∈ws,y∈nm)→rest [some (V.ref a),some (V.int m),some (V.ref nl),some (V.int mo),some (V.ref d),v5,some (V.ref s),some (V.ref gd),some (V.ref W),some (V.int at'),none,none,none,none] HA:=by
    intro W ws HA sA eW hwl hwn
    subst hrest
    walk_at "go"
    rename_i rest hrest
    have keyB:∀(W:Addr) (ws:List Str) (HB:Hp),Same H9 HB→HB W=some (.lst (ws.map V.str))→(ws.length≤60∨200 < ws.length)→ws.length≤250→(∀y∈ws,y∈nm)→rest [some (V.ref a),some (V.int m),some (V.ref nl),some (V.int mo),some (V.ref d),v5,some (V.ref s),some (V.ref gd),some (V.ref W),some (V.int at'),none,none,none,none] HB:=by
     clear eW hwl hwn sA
     intro W ws HB sB eW hw6 hwl hwn
     subst hrest
     walk_at "go"
     have edB:=sB _ _ ed9
     have stB:=st9.same sB
     refine ⟨ts,ws,SqL.of eW,hwl,edB,hndts,fun t1 H11 s11 ht1 et1=>?_⟩
     rw [show decide ((0:Int)≤2)=true from rfl]at et1
     have hr3':∀z,rm ts z≤3:=fun z=>rm_most hndts hr3 (by decide) z
     have haw:ask8 ts 1000 ws=ask8 ts 1000000 ws:=(ask_wide (fun z=>by have:=hr3' z;omega) (by decide)).symm
     rename_i rest hrest
     subst hrest
     walk_at "go"
     intro p1 hp1
     have b1:Same H11 (upd H11 p1 (.tup [V.str (Str.ofString "unlike")])):=Same.new hp1
     have e1:upd H11 p1 (.tup [V.str (Str.ofString "unlike")]) p1=some (.tup [V.str (Str.ofString "unlike")]):=upd_same
     have et12:=b1 _ _ et1
     generalize upd H11 p1 (.tup [V.str (Str.ofString "unlike")])=H12 at b1 e1 et12 ⊢
     refine ⟨_,⟨t1,p1,_,_,rfl,rfl,.inr ⟨SqT.of et12,SqT.of e1⟩,R8.flat _,rfl,rfl⟩,?_⟩
     rename_i rest hrest
     have keyC:∀(t2:Addr) (HC:Hp),Same H11 HC→HC t2=some (.tup (ask8 ts 1000000 ws).vs)→rest [some (V.ref a),some (V.int m),some (V.ref nl),some (V.int mo),some (V.ref d),v5,some (V.ref s),some (V.ref gd),some (V.ref W),some (V.int at'),some (V.ref t2),none,none,none] HC:=by
      clear e1 et12 b1 hp1
      intro t2 HC sC et2
      have sBC:=s11.trans sC
      have s9C:=sB.trans sBC
      have eWC:=sBC _ _ eW
      have stC:=st9.same s9C
      subst hrest
      walk_at "go"
      have hr6:∀t∈ts,t.2.2≤1000000:=fun t ht=>by have:=hr3 t ht;omega
      have hr6':∀z,rm ts z≤1000000:=fun z=>by have:=hr3' z;omega
      have self:∀r:R8,flatEq r.vs r.vs=true:=fun r=>flatEq_self r.flat
      refine ⟨ts,stC,hndts,ws,SqL.of eWC,hwl,hw6,hr6,hr6',fun t3 H13 s13 ht3 et3=>?_⟩
      refine ⟨_,⟨t3,t2,_,_,rfl,rfl,.inr ⟨SqT.of et3,SqT.of (s13 _ _ et2)⟩,R8.flat _,R8.flat _,rfl⟩,?_⟩
      rw [self,if_neg (by decide)]
      refine ⟨ts,stC.same s13,hndts,ws,SqL.of (s13 _ _ eWC),hwl,hw6,hr6,hr6',fun t4 H14 s14 ht4 et4=>?_⟩
      refine ⟨_,⟨t4,t2,_,_,rfl,rfl,.inr ⟨SqT.of et4,SqT.of (s14 _ _ (s13 _ _ et2))⟩,R8.flat _,R8.flat _,rfl⟩,?_⟩
      rw [self,if_neg (by decide)]
      have s9F:=(s9C.trans s13).trans s14
      have sBF:=(sBC.trans s13).trans s14
      have eWF:=sBF _ _ eW
      have stF:=st9.same s9F
      have edF:=s9F _ _ ed9
      have egF:=s9F _ _ eg9
      have hSF:=s9F.seq hS9
      have hyn:∀y∈ws,y.length≤100:=fun y hy=>by have:=name_len (hnm y (hwn y hy));omega
      clear et3 et4 et2 stC eWC s9C sBC sC s13 s14 ht3 ht4 et1 ht1 s11 stB edB
      rename_i rest hrest
      subst hrest
      walk_at "go"
      have hpl:1≤1+ns.getD 5 0 % 4∧1+ns.getD 5 0 % 4≤4:=by omega
      have hkk:0≤ns.getD 5 0 / 4 % 8∧ns.getD 5 0 / 4 % 8 < 8:=by omega
      refine ⟨ts,ws,SqL.of eWF,hwl,edF,hndts,fun t5 H15 s15 ht5 et5=>?_⟩
      generalize 1+ns.getD 5 0 % 4=pl at hpl et5 ⊢
      generalize ns.getD 5 0 / 4 % 8=kk at hkk et5 ⊢
      have eW5:=s15 _ _ eWF
      have st5:=stF.same s15
      have eg5:=s15 _ _ egF
      have hS5:=s15.seq hSF
      clear eWF stF edF egF hSF
      rename_i rest hrest
      subst hrest
      walk_at "go"
      rename_i rest hrest
      have keyD:∀(w8:W8) (HD:Hp),Same H15 HD→nB w8=decide (kk≤2)→(∀y h,w8= .fa y h→y=ws∧ws.length≤200∧(∀y∈ws,y∈ts.map (·.1))∧∀y∈ws,rm ts y≤pl)→rest [some (V.ref a),some (V.int nm.length),some (V.ref nl),some (V.int mo),some (V.ref d),v5,some (V.ref s),some (V.ref gd),some (V.ref W),some (V.int at'),some (V.ref t5),some (V.int pl),some (V.int (kd w8)),none] HD:=by
       intro w8 HD sD hnB hfa
       rw [← hnB]at et5
       have eWD:=sD _ _ eW5
       have stD:=st5.same sD
       have egD:=sD _ _ eg5
       have et5D:=sD _ _ et5
       subst hrest
       walk_at "go"
       refine ⟨w8,rfl,ts,stD,hndts,ws,eWD,hfa,hpl.1,by omega,fun q' M H16 s16 hM0 hh16=>?_⟩
       rename_i rest hrest
       subst hrest
       walk_at "go"
       refine ⟨w8,s,pl,M,hh16,ts,ws,(fun y h e=>(hfa y h e).1),stD.same s16,hndts,by omega,s16 _ _ eWD,(fun hm=>by rw [hM0 W hm]at eWD;cases eWD),hwl,hw6,hyn,hpl.1,by omega,fun t6 H17 kp17 hs17 ht6 et6=>?_⟩
       have s17:Same HD H17:=Kp.same s16 kp17 hM0
       have et57:=s17 _ _ et5D
       refine ⟨_,⟨t6,t5,_,_,rfl,rfl,.inr ⟨SqT.of et6,SqT.of et57⟩,R8.flat _,R8.flat _,rfl⟩,?_⟩
       rw [self,if_neg (by decide)]
       have st17:=stD.same s17
       have eg17:=s17 _ _ egD
       rename_i rest hrest
       subst hrest
       walk_at "go"
       rename_i rest hrest
       have keyE:∀HE,Same H17 HE→rest [some (V.ref a),some (V.int nm.length),some (V.ref nl),some (V.int mo),some (V.ref d),v5,some (V.ref s),some (V.ref gd),some (V.ref W),some (V.int at'),some (V.ref t5),some (V.int pl),some (V.int (kd w8)),some (V.ref q')] HE:=by
        intro HE sE
        subst hrest
        walk_at "go"
        refine ⟨ts,st17.same sE,hndts,gs,SqL.of (sE _ _ eg17),by omega,.inl (by omega),hr6,hr6',fun t7 HG sG ht7 et7=>?_⟩
        have hgn0:ask8 ts 1000000 gs= .no:=of_fine (by omega) hgin fun y _=>hr6' y
        rw [hgn0]at et7
        refine ⟨by omega,fun p7 hp7=>⟨_,⟨t7,p7,_,_,rfl,rfl,.inr ⟨SqT.of ((Same.new hp7) _ _ et7),SqT.of upd_same⟩,R8.flat _,rfl,rfl⟩,?_⟩⟩
        rw [(fe_no .no).mpr rfl]
        exact q _
       clear hrest
       by_cases hk1:¬kd w8=1
       · rw [if_neg hk1]
         exact keyE H17 (Same.refl _)
       have hk1:=Classical.not_not.mp hk1
       rw [if_pos hk1]
       refine ⟨by omega,fun p7 hp7=>?_⟩
       have b7:Same H17 (upd H17 p7 (.tup [V.str (Str.ofString "nothing")])):=Same.new hp7
       have e7:upd H17 p7 (.tup [V.str (Str.ofString "nothing")]) p7=some (.tup [V.str (Str.ofString "nothing")]):=upd_same
       generalize upd H17 p7 (.tup [V.str (Str.ofString "nothing")])=G7 at b7 e7 ⊢
       refine ⟨_,⟨t5,p7,_,_,rfl,rfl,.inr ⟨SqT.of (b7 _ _ et57),SqT.of e7⟩,R8.flat _,rfl,rfl⟩,?_⟩
       by_cases hno:due8 ts pl ws (nB w8)= .no
       · rw [(fe_no _).mpr hno,if_neg (by decide)]
         exact keyE G7 b7
       rw [show flatEq (due8 ts pl ws (nB w8)).vs [V.str (Str.ofString "nothing")]=false from Bool.eq_false_iff.mpr fun h=>hno ((fe_no _).mp h),if_pos rfl]
       have sR:=(hs17 hno).trans b7
       have hh7:=(T8 (C8.mk Ze Z4 Z2 Zd Z0 Z1 Zf Zc) w8).dep (fun m _ o z=>sR m o z) hh16
       cases w8 with
       | ha=>
        have hg7:GAt Z0 G7 M q' s pl (s40 8):=hh7
        obtain ⟨la,ta,hM9,⟨dx,ho⟩,hla,hta,hne⟩:=id hg7
        clear hM9
        refine ⟨dx,_,ho,by rfl,s,pl,M,_,hg7,fun r hr p8 hp8=>?_⟩
        refine ⟨[],by rw [upd_ne (ne_of_none upd_same hp8)];exact upd_same,upd_same,(fun p h=>by cases h),?_⟩
        exact keyE _ ((b7.trans (Same.new hr)).trans (Same.new hp8))
       | ol=>exact absurd hk1 (by decide)
       | fa y h=>exact absurd hk1 (by show ¬(2:Int)=1;decide)
       | fi=>exact absurd hk1 (by decide)
       | hd=>exact absurd hk1 (by decide)
       | ro=>exact absurd hk1 (by decide)
       | ru=>exact absurd hk1 (by decide)
       | ra=>exact absurd hk1 (by decide)
      clear hrest
      by_cases h2:¬kk=2
      · rw [if_neg h2]
        obtain ⟨w8,hk8,hnf⟩:=w8_at hkk.1 hkk.2 h2
        rw [← hk8]
        exact keyD w8 H15 (Same.refl _) (by rw [nB_kd,hk8]) (fun y h e=>absurd e (hnf y h))
      have h2:=Classical.not_not.mp h2
      rw [if_pos h2]
      refine ⟨by omega,fun p1 hp1=>⟨by omega,fun p2 hp2=>⟨by omega,fun p3 hp3=>?_⟩⟩⟩
      have b1:Same H15 (upd H15 p1 (.tup [V.str (Str.ofString "nothing")])):=Same.new hp1
      have e1:upd H15 p1 (.tup [V.str (Str.ofString "nothing")]) p1=some (.tup [V.str (Str.ofString "nothing")]):=upd_same
      generalize upd H15 p1 (.tup [V.str (Str.ofString "nothing")])=G1 at b1 e1 hp2 hp3 ⊢
      have b2:Same G1 (upd G1 p2 (.tup [V.str (Str.ofString "unlike")])):=Same.new hp2
      have e2:upd G1 p2 (.tup [V.str (Str.ofString "unlike")]) p2=some (.tup [V.str (Str.ofString "unlike")]):=upd_same
      have n12:p1≠p2:=ne_of_none e1 hp2
      have e12:=b2 _ _ e1
      generalize upd G1 p2 (.tup [V.str (Str.ofString "unlike")])=G2 at b2 e2 e12 hp3 ⊢
      have b3:Same G2 (upd G2 p3 (.lst [V.ref p1,V.ref p2])):=Same.new hp3
      have e3:upd G2 p3 (.lst [V.ref p1,V.ref p2]) p3=some (.lst ([p1,p2].map V.ref)):=upd_same
      generalize upd G2 p3 (.lst [V.ref p1,V.ref p2])=G3 at b3 e3 ⊢
      have b03:=(b1.trans b2).trans b3
      have et5G:=b03 _ _ et5
      rw [h2,show decide ((2:Int)≤2)=true from rfl]at et5G
      refine ⟨[p1,p2],SqL.of e3,?_,fun b=>if b=p1 then flatEq [V.str (Str.ofString "nothing")] (due8 ts pl ws true).vs else flatEq [V.str (Str.ofString "unlike")] (due8 ts pl ws true).vs,fun b hb=>?_,?_⟩
      · simp only [List.mem_cons,List.not_mem_nil,or_false,not_or]
        exact ⟨(fun e=>by rw [e,hp1]at et5;cases et5),(fun e=>by rw [e]at et5;rw [b1 _ _ et5]at hp2;cases hp2)⟩
      · simp only [List.mem_cons,List.not_mem_nil,or_false]at hb
        rcases hb with e | e
        · rw [e]
          dsimp only
          rw [if_pos rfl]
          exact ⟨p1,t5,_,_,rfl,rfl,.inr ⟨SqT.of (b3 _ _ e12),SqT.of et5G⟩,rfl,R8.flat _,rfl⟩
        · rw [e]
          dsimp only
          rw [if_neg n12.symm]
          exact ⟨p2,t5,_,_,rfl,rfl,.inr ⟨SqT.of (b3 _ _ e2),SqT.of et5G⟩,rfl,R8.flat _,rfl⟩
      have hany:([p1,p2].any fun b=>if b=p1 then flatEq [V.str (Str.ofString "nothing")] (due8 ts pl ws true).vs else flatEq [V.str (Str.ofString "unlike")] (due8 ts pl ws true).vs)=(flatEq [V.str (Str.ofString "nothing")] (due8 ts pl ws true).vs || flatEq [V.str (Str.ofString "unlike")] (due8 ts pl ws true).vs):=by
       rw [List.any_cons,List.any_cons,List.any_nil,if_pos rfl,if_neg n12.symm,Bool.or_false]
      rw [hany]
      by_cases hd:due8 ts pl ws true= .no∨due8 ts pl ws true= .unl
      · have ho:(flatEq [V.str (Str.ofString "nothing")] (due8 ts pl ws true).vs || flatEq [V.str (Str.ofString "unlike")] (due8 ts pl ws true).vs)=true:=by
         rcases hd with h | h
         · rw [(ef_no _).mpr h];rfl
         · rw [(ef_unl _).mpr h,Bool.or_true]
        rw [ho,if_neg (by decide)]
        have hf:=fine_of hpl.1 (by omega) (hd.elim no_ask unl_ask)
        have:=keyD (.fa ws (by omega)) G3 b03 (by rw [h2];rfl) (fun y h e=>by cases e;exact ⟨rfl,hf⟩)
        rw [h2]
        exact this
      · have ho:(flatEq [V.str (Str.ofString "nothing")] (due8 ts pl ws true).vs || flatEq [V.str (Str.ofString "unlike")] (due8 ts pl ws true).vs)=false:=by
         rw [Bool.or_eq_false_iff]
         exact ⟨Bool.eq_false_iff.mpr fun h=>hd (.inl ((ef_no _).mp h)),Bool.eq_false_iff.mpr fun h=>hd (.inr ((ef_unl _).mp h))⟩
        rw [ho,if_pos rfl]
        exact keyD .ha G3 b03 (by rw [h2];rfl) (fun y h e=>by cases e)
     clear hrest
     by_cases hu:due8 ts 1000 ws true= .unl
     · rw [if_pos ((fe_unl _).mpr hu)]
       refine ⟨by omega,fun p2 hp2=>keyC p2 _ (b1.trans (Same.new hp2)) ?_⟩
       rw [upd_same,← haw,unl_ask hu];rfl
     · rw [if_neg (fun h=>hu ((fe_unl _).mp h))]
       refine keyC t1 H12 b1 ?_
       rw [← haw,← due_ask hu];exact et12
    clear hrest
    refine ⟨ns,sA.seq hS9,by decide,hl,by decide,?_⟩
    by_cases h5n:¬ns.getD 4 0 % 5=2
    · rw [if_neg h5n]
      exact keyB W ws HA sA eW (.inl hwl) (by omega) hwn
    have h5:=Classical.not_not.mp h5n
    rw [if_pos h5]
    have hgl':=hg (m - 1) (by omega)
    rw [show ((m - 1:Nat):Int)=(m:Int) - 1 by omega]at hgl'
    refine ixL_of (SqL.of (sA _ _ hn9)) hgl' ⟨by omega,fun p1 hp1=>?_⟩
    have b1:Same HA (upd HA p1 (.lst [V.str (nm.getD (m - 1) Str.empty)])):=Same.new hp1
    have e1:upd HA p1 (.lst [V.str (nm.getD (m - 1) Str.empty)]) p1=some (.lst [V.str (nm.getD (m - 1) Str.empty)]):=upd_same
    generalize upd HA p1 (.lst [V.str (nm.getD (m - 1) Str.empty)])=HC at b1 e1 ⊢
    have c5:0≤ns.getD 4 0 / 5 % 5∧ns.getD 4 0 / 5 % 5 < 5:=by omega
    refine ⟨ns,(sA.trans b1).seq hS9,by decide,hl,cdiv_of (by decide) (by decide),by decide,_,.inl (SqL.of (b1 _ _ eW)),_,e1,?_⟩
    rw [List.length_map]
    generalize ns.getD 4 0 / 5 % 5=c55 at c5 ⊢
    obtain ⟨cnt,hcnt⟩:∃cnt:Nat,201+c55 - (ws.length:Int)=(cnt:Int):=⟨(201+c55 - (ws.length:Int)).toNat,by omega⟩
    rw [hcnt]
    refine ⟨by omega,by omega,by simp only [List.length_cons,List.length_nil,Int.toNat_natCast];omega,fun p2 hp2=>?_⟩
    rw [Int.toNat_natCast,show (List.replicate cnt [V.str (nm.getD (m - 1) Str.empty)]).flatten=(List.replicate cnt (nm.getD (m - 1) Str.empty)).map V.str by rw [List.map_replicate];exact List.flatten_replicate_singleton]
    have b2:Same HC (upd HC p2 (.lst ((List.replicate cnt (nm.getD (m - 1) Str.empty)).map V.str))):=Same.new hp2
    have e2:upd HC p2 (.lst ((List.replicate cnt (nm.getD (m - 1) Str.empty)).map V.str)) p2=some (.lst ((List.replicate cnt (nm.getD (m - 1) Str.empty)).map V.str)):=upd_same
    generalize upd HC p2 (.lst ((List.replicate cnt (nm.getD (m - 1) Str.empty)).map V.str))=HD at b2 e2 ⊢
    refine ⟨_,b2 _ _ (b1 _ _ eW),_,e2,by rw [List.length_map,List.length_map,List.length_replicate];omega,fun p3 hp3=>?_⟩
    refine keyB p3 (ws++List.replicate cnt (nm.getD (m - 1) Str.empty)) _ (((sA.trans b1).trans b2).trans (Same.new hp3)) (by rw [upd_same,List.map_append]) ?_ ?_ fun y hy=>?_
    · rw [List.length_append,List.length_replicate];omega
    · rw [List.length_append,List.length_replicate];omega
    · rcases List.mem_append.mp hy with h | h
      · exact hwn y h
      · rw [(List.mem_replicate.mp h).2];exact hml
   clear hrest
   by_cases h3n:¬ns.getD 3 0 % 3=1
   · rw [if_neg h3n]
     exact keyA ro gs H9 (Same.refl _) er9 (by omega) hgn
   have h3:=Classical.not_not.mp h3n
   rw [if_pos h3]
   refine ⟨_,SqL.of er9,fun p1 hp1=>?_⟩
   rw [cut_toS gs at']
   have b1:Same H9 (upd H9 p1 (.lst ((gs.take at').map V.str))):=Same.new hp1
   have e1:upd H9 p1 (.lst ((gs.take at').map V.str)) p1=some (.lst ((gs.take at').map V.str)):=upd_same
   generalize upd H9 p1 (.lst ((gs.take at').map V.str))=HC at b1 e1 ⊢
   refine ixL_of (SqL.of (b1 _ _ hn9)) (hg 0 (by omega)) ⟨by omega,fun p2 hp2=>?_⟩
   have b2:Same HC (upd HC p2 (.lst [V.str (nm.getD 0 Str.empty)])):=Same.new hp2
   have e2:upd HC p2 (.lst [V.str (nm.getD 0 Str.empty)]) p2=some (.lst [V.str (nm.getD 0 Str.empty)]):=upd_same
   have e12:=b2 _ _ e1
   generalize upd HC p2 (.lst [V.str (nm.getD 0 Str.empty)])=HD at b2 e2 e12 ⊢
   refine ⟨_,e12,_,e2,by rw [List.length_map,List.length_take];simp only [List.length_cons,List.length_nil];omega,fun p3 hp3=>?_⟩
   have b3:Same HD (upd HD p3 (.lst ((gs.take at').map V.str++[V.str (nm.getD 0 Str.empty)]))):=Same.new hp3
   have e3:upd HD p3 (.lst ((gs.take at').map V.str++[V.str (nm.getD 0 Str.empty)])) p3=some (.lst ((gs.take at').map V.str++[V.str (nm.getD 0 Str.empty)])):=upd_same
   generalize upd HD p3 (.lst ((gs.take at').map V.str++[V.str (nm.getD 0 Str.empty)]))=HE at b3 e3 ⊢
   have b03:=(b1.trans b2).trans b3
   refine ⟨_,SqL.of (b03 _ _ er9),fun p4 hp4=>?_⟩
   rw [cut_fromS gs at']
   have b4:Same HE (upd HE p4 (.lst ((gs.drop at').map V.str))):=Same.new hp4
   have e4:upd HE p4 (.lst ((gs.drop at').map V.str)) p4=some (.lst ((gs.drop at').map V.str)):=upd_same
   have e34:=b4 _ _ e3
   generalize upd HE p4 (.lst ((gs.drop at').map V.str))=HF at b4 e4 e34 ⊢
   refine ⟨_,e34,_,e4,by rw [List.length_append,List.length_map,List.length_map,List.length_take,List.length_drop];simp only [List.length_cons,List.length_nil];omega,fun p5 hp5=>?_⟩
   refine keyA p5 (gs.take at'++[nm.getD 0 Str.empty]++gs.drop at') _ ((b03.trans b4).trans (Same.new hp5)) (by rw [upd_same,List.map_append,List.map_append];rfl) ?_ fun y hy=>?_
   · rw [List.length_append,List.length_append,List.length_take,List.length_drop];simp only [List.length_cons,List.length_nil];omega
   · rcases List.mem_append.mp hy with h | h
     · rcases List.mem_append.mp h with h | h
       · exact hgn y (List.mem_of_mem_take h)
       · rw [List.mem_singleton.mp h];exact hm0
     · exact hgn y (List.mem_of_mem_drop h)
end
theorem all_mk{l:W.OpenLaw}{w:World}{K:W.Frag}{h:Heap}{mg:Str→Option Value}{fa f0 f1 f2 f3 f4 f5 f6 f7 f8 f9 f10 f11 f12 f13 f14 f15 f16 f17 f18 f19 f20 f21 f22 f23 f24 f25 f26 f27 f28 f29 f30 f31 f32 f33 f34 f35 f36 f37 f38 f39 f40 f41 f42 f43 f44 f45 f46 f47 f48 f49 f50 f51 f52 f53 f54 f55 f56 f57 f58 f59 f60 f61 f62 f63 f64 f65 Z6 Z3 Z5 Z9 Z8 Zb Za Z7 Zg Ze Z4 Z2 Zd Z0 Z1 Zf Zc:Addr}(X:K.In h)(G:h.Ns mainGlobals mg)(hfa:mg "law"=some (.ref fa))
 {od6 an6 od7 an7 od23 an23 od24 an24 od27 an27 od65 an65:Option Addr} {sl6 sl7 sl23 sl24 sl27 sl65:Array (Option Value)} {oc6 kV6 dc6 pm6 cd6 ct6 oc7 kV7 dc7 pm7 cd7 ct7 oc23 kV23 dc23 pm23 cd23 ct23 oc24 kV24 dc24 pm24 cd24 ct24 oc27 kV27 dc27 pm27 cd27 ct27 oc65 kV65 dc65 pm65 cd65 ct65:Value}
 {d0 d1 d2 d3 d4 d5 d8 d9 d10 d11 d12 d13 d14 d15 d16 d17 d18 d19 d20 d21 d22 d25 d26 d28 d29 d30 d31 d32 d33 d34 d35 d36 d37 d38 d39 d40 d41 d42 d43 d44 d45 d46 d47 d48 d49 d50 d51 d52 d53 d54 d55 d56 d57 d58 d59 d60 d61 d62 d63 d64:FuncData}
 (a0:W.nsIn K mainGlobals "made_of"=some (some (.ref f0))) (F0:Fun K "made_of" "made_of" Z6t f0 d0)
 (a1:W.nsIn K mainGlobals "is_name"=some (some (.ref f1))) (F1:Fun K "is_name" "is_name" Z6u f1 d1)
 (a2:W.nsIn K mainGlobals "is_whole"=some (some (.ref f2))) (F2:Fun K "is_whole" "is_whole" Z5q f2 d2)
 (a3:W.nsIn K mainGlobals "is_within"=some (some (.ref f3))) (F3:Fun K "is_within" "is_within" Z50 f3 d3)
 (a4:W.nsIn K mainGlobals "check_thing"=some (some (.ref f4))) (F4:Fun K "check_thing" "check_thing" Z40 f4 d4)
 (M5:Mk K Z7 f5) (F5:Fun K "__init__" "Stock.__init__" Z4g f5 d5)
 (a6:W.findIn K (.ref Z3) "__init__"=some (some (.ref f6))) (l6:K.lookup f6=some ⟨oc6,od6,.func (W.fnOf "__init__" "Unknown.__init__" (defArgs Z0l) (defBody Z0l) (defScope Z0l) .none kV6 dc6 pm6 an6 cd6 ct6),sl6⟩) (c6:W.codeIn K cd6 "Unknown.__init__"=true) (k6:W.keepIn K (.ref Z3)=true) (kf6:W.keepIn K (.ref f6)=true) (hc6:oc6= .type "function")
 (a7:W.findIn K (.ref Z5) "__init__"=some (some (.ref f7))) (l7:K.lookup f7=some ⟨oc7,od7,.func (W.fnOf "__init__" "TooWide.__init__" (defArgs Z0m) (defBody Z0m) (defScope Z0m) .none kV7 dc7 pm7 an7 cd7 ct7),sl7⟩) (c7:W.codeIn K cd7 "TooWide.__init__"=true) (k7:W.keepIn K (.ref Z5)=true) (kf7:W.keepIn K (.ref f7)=true) (hc7:oc7= .type "function")
 (M8:Meth K Z7 "has" f8) (F8:Fun K "has" "Stock.has" Z51 f8 d8)
 (M9:Meth K Z7 "thing_of" f9) (F9:Fun K "thing_of" "Stock.thing_of" Z2f f9 d9)
 (M10:Meth K Z7 "room_of" f10) (F10:Fun K "room_of" "Stock.room_of" Z2z f10 d10)
 (a11:W.nsIn K mainGlobals "check_places"=some (some (.ref f11))) (F11:Fun K "check_places" "check_places" Z3i f11 d11)
 (a12:W.nsIn K mainGlobals "check_asks"=some (some (.ref f12))) (F12:Fun K "check_asks" "check_asks" Z4h f12 d12)
 (M13:Meth K Z7 "cost_of" f13) (F13:Fun K "cost_of" "Stock.cost_of" Z30 f13 d13)
 (a14:W.nsIn K mainGlobals "check_rooms"=some (some (.ref f14))) (F14:Fun K "check_rooms" "check_rooms" Z41 f14 d14)
 (a15:W.nsIn K mainGlobals "earlier_asks"=some (some (.ref f15))) (F15:Fun K "earlier_asks" "earlier_asks" Z3j f15 d15)
 (M16:Mk K Zg f16) (F16:Fun K "__init__" "Sums.__init__" Z52 f16 d16)
 (M17:Meth K Zg "add" f17) (F17:Fun K "add" "Sums.add" Z5r f17 d17)
 (M18:Meth K Zg "upto" f18) (F18:Fun K "upto" "Sums.upto" Z53 f18 d18)
 (a19:W.nsIn K mainGlobals "depths_of"=some (some (.ref f19))) (F19:Fun K "depths_of" "depths_of" Z54 f19 d19)
 (a20:W.nsIn K mainGlobals "is_there"=some (some (.ref f20))) (F20:Fun K "is_there" "is_there" Z5s f20 d20)
 (a21:W.nsIn K mainGlobals "step_with"=some (some (.ref f21))) (F21:Fun K "step_with" "step_with" Z55 f21 d21)
 (a22:W.nsIn K mainGlobals "steps_of"=some (some (.ref f22))) (F22:Fun K "steps_of" "steps_of" Z5t f22 d22)
 (a23:W.findIn K (.ref Ze) "__init__"=some (some (.ref f23))) (l23:K.lookup f23=some ⟨oc23,od23,.func (W.fnOf "__init__" "Rule.__init__" (defArgs Z1g) (defBody Z1g) (defScope Z1g) .none kV23 dc23 pm23 an23 cd23 ct23),sl23⟩) (c23:W.codeIn K cd23 "Rule.__init__"=true) (n23:W.isFn K (.ref f23)=true) (k23:W.keepIn K (.ref Ze)=true) (m23:W.makesIn K Ze=true) (kf23:W.keepIn K (.ref f23)=true)
 (fc23:W.findCls K (.ref Ze) (.type "type") "__init__"=some (.val (.ref f23))) (sc23:W.specialIn K (.ref Ze) "__getattribute__"=some (some (.builtin "type.__getattribute__"))) (rc23:W.readsIn K Ze (.type "type")=true)
 (a24:W.findIn K (.ref Z4) "__init__"=some (some (.ref f24))) (l24:K.lookup f24=some ⟨oc24,od24,.func (W.fnOf "__init__" "Ranked.__init__" (defArgs Z0v) (defBody Z0v) (defScope Z0v) .none kV24 dc24 pm24 an24 cd24 ct24),sl24⟩) (c24:W.codeIn K cd24 "Ranked.__init__"=true) (n24:W.isFn K (.ref f24)=true) (k24:W.keepIn K (.ref Z4)=true) (m24:W.makesIn K Z4=true) (kf24:W.keepIn K (.ref f24)=true)
 (fc24:W.findCls K (.ref Z4) (.type "type") "__init__"=some (.val (.ref f24))) (sc24:W.specialIn K (.ref Z4) "__getattribute__"=some (some (.builtin "type.__getattribute__"))) (rc24:W.readsIn K Z4 (.type "type")=true)
 (M25:Mk K Z2 f25) (F25:Fun K "__init__" "Ranked.__init__" Z42 f25 d25)
 (M26:Mk K Zd f26) (F26:Fun K "__init__" "First.__init__" Z4i f26 d26)
 {dt27:Addr} {dk27:Tok} {dn27:Nat} {dq27:Value} {de27:Option Addr} {ds27:Array (Option Value)}
 (a27:W.findIn K (.ref Z0) "__init__"=some (some (.ref f27))) (l27:K.lookup f27=some ⟨oc27,od27,.func (W.fnOf "__init__" "Halving.__init__" (defArgs Z0n) (defBody Z0n) (defScope Z0n) (.ref dt27) kV27 dc27 pm27 an27 cd27 ct27),sl27⟩) (c27:W.codeIn K cd27 "Halving.__init__"=true) (ld27:K.lookup dt27=some ⟨dq27,de27,.seq #[.int 8 dk27] dn27,ds27⟩) (n27:W.isFn K (.ref f27)=true) (k27:W.keepIn K (.ref Z0)=true) (m27:W.makesIn K Z0=true) (kf27:W.keepIn K (.ref f27)=true)
 (M28:Mk K Z1 f28) (F28:Fun K "__init__" "Farthest.__init__" Z31 f28 d28)
 (M29:Mk K Zf f29) (F29:Fun K "__init__" "Hand.__init__" Z56 f29 d29)
 (M30:Mk K Zc f30) (F30:Fun K "__init__" "Rows.__init__" Z57 f30 d30)
 (M31:Meth K Z2 "number_ask" f31) (F31:Fun K "number_ask" "Ranked.number_ask" Z1i f31 d31)
 (M32:Meth K Z2 "asked" f32) (F32:Fun K "asked" "Ranked.asked" Z3k f32 d32)
 (M33:Meth K Z2 "last_of" f33) (F33:Fun K "last_of" "Ranked.last_of" Z2g f33 d33)
 (M34:Meth K Z2 "rank" f34) (F34:Fun K "rank" "Ranked.rank" Z43 f34 d34)
 (M35:Meth K Z0 "halve" f35) (F35:Fun K "halve" "Halving.halve" Z32 f35 d35)
 (M36:Meth K Z0 "number_ask" f36) (F36:Fun K "number_ask" "Ranked.number_ask" Z16 f36 d36)
 (M37:Meth K Z0 "counts" f37) (F37:Fun K "counts" "Halving.counts" Z2h f37 d37)
 (M38:Meth K Z0 "asked" f38) (F38:Fun K "asked" "Halving.asked" Z33 f38 d38)
 (M39:Meth K Z0 "last_of" f39) (F39:Fun K "last_of" "Ranked.last_of" Z21 f39 d39)
 (M40:Meth K Z0 "rank" f40) (F40:Fun K "rank" "Halving.rank" Z3l f40 d40)
 (M41:Meth K Z1 "number_ask" f41) (F41:Fun K "number_ask" "Ranked.number_ask" Z14 f41 d41)
 (M42:Meth K Z1 "last_of" f42) (F42:Fun K "last_of" "Ranked.last_of" Z1q f42 d42)
 (M43:Meth K Z1 "coming_of" f43) (F43:Fun K "coming_of" "Farthest.coming_of" Z17 f43 d43)
 (M44:Meth K Z1 "rank" f44) (F44:Fun K "rank" "Farthest.rank" Z34 f44 d44)
 (M45:Meth K Z1 "asked" f45) (F45:Fun K "asked" "Ranked.asked" Z2i f45 d45)
 (M46:Meth K Ze "nests" f46) (F46:Fun K "nests" "Rule.nests" Z4j f46 d46)
 (M47:Meth K Z4 "nests" f47) (F47:Fun K "nests" "Rule.nests" Z3m f47 d47)
 (M48:Meth K Z2 "nests" f48) (F48:Fun K "nests" "Oldest.nests" Z3n f48 d48)
 (M49:Meth K Zd "nests" f49) (F49:Fun K "nests" "Rule.nests" Z44 f49 d49)
 (M50:Meth K Z0 "nests" f50) (F50:Fun K "nests" "Halving.nests" Z35 f50 d50)
 (M51:Meth K Z1 "nests" f51) (F51:Fun K "nests" "Farthest.nests" Z2j f51 d51)
 (M52:Meth K Zf "nests" f52) (F52:Fun K "nests" "Rule.nests" Z4k f52 d52)
 (M53:Meth K Zc "nests" f53) (F53:Fun K "nests" "Rule.nests" Z4l f53 d53)
 (a54:W.nsIn K mainGlobals "check_walk"=some (some (.ref f54))) (F54:Fun K "check_walk" "check_walk" Z4m f54 d54)
 (a55:W.nsIn K mainGlobals "depth_in"=some (some (.ref f55))) (F55:Fun K "depth_in" "depth_in" Z5u f55 d55)
 (a56:W.nsIn K mainGlobals "carried_along"=some (some (.ref f56))) (F56:Fun K "carried_along" "carried_along" Z36 f56 d56)
 (a57:W.nsIn K mainGlobals "row_behind"=some (some (.ref f57))) (F57:Fun K "row_behind" "row_behind" Z4n f57 d57)
 (a58:W.nsIn K mainGlobals "stack_depths"=some (some (.ref f58))) (F58:Fun K "stack_depths" "stack_depths" Z3o f58 d58)
 (a59:W.nsIn K mainGlobals "_law_cell"=some (some (.ref f59))) (F59:Fun K "_law_cell" "_law_cell" Z80 f59 d59)
 (a60:W.nsIn K mainGlobals "_law_names"=some (some (.ref f60))) (F60:Fun K "_law_names" "_law_names" Z6v f60 d60)
 (a61:W.nsIn K mainGlobals "_law_told_by"=some (some (.ref f61))) (F61:Fun K "_law_told_by" "_law_told_by" Z58 f61 d61)
 (a62:W.nsIn K mainGlobals "_law_told_by_rank"=some (some (.ref f62))) (F62:Fun K "_law_told_by_rank" "_law_told_by_rank" Z2k f62 d62)
 (a63:W.nsIn K mainGlobals "_law_rule"=some (some (.ref f63))) (F63:Fun K "_law_rule" "_law_rule" Z81 f63 d63)
 (a64:W.nsIn K mainGlobals "_law_due"=some (some (.ref f64))) (F64:Fun K "_law_due" "_law_due" Z94 f64 d64)
 (a65:W.nsIn K mainGlobals "law"=some (some (.ref f65))) (l65:K.lookup f65=some ⟨oc65,od65,.func (W.fnOf "law" "law" (defArgs Z49) (defBody Z49) (defScope Z49) .none kV65 dc65 pm65 an65 cd65 ct65),sl65⟩) (c65:W.codeIn K cd65 "law"=true) (k65:W.keepIn K (.ref f65)=true)
 (Z06:W.nsIn K mainGlobals "len"=some none)
 (Z0q:W.nsIn K mainGlobals "isinstance"=some none)
 (Z8i:W.nsIn K mainGlobals "int"=some none)
 (Z6r:W.nsIn K mainGlobals "bool"=some none)
 (Z8j:W.nsIn K mainGlobals "str"=some none)
 (Z4e:W.nsIn K mainGlobals "list"=some none)
 (Z7f:W.nsIn K mainGlobals "tuple"=some none)
 (Z8k:W.nsIn K mainGlobals "all"=some none)
 (Z13:W.nsIn K mainGlobals "range"=some none)
 (Z7g:W.nsIn K mainGlobals "sum"=some none)
 (Z0x:W.nsIn K mainGlobals "enumerate"=some none)
 (Z8l:W.nsIn K mainGlobals "zip"=some none)
 (Z8m:W.nsIn K mainGlobals "max"=some none)
 (Z9q:W.nsIn K mainGlobals "min"=some none)
 (Z4f:W.nsIn K mainGlobals "sorted"=some none)
 (Z6s:W.nsIn K mainGlobals "dict"=some none)
 (Z8n:W.nsIn K mainGlobals "set"=some none)
 {Zb0:Tok} (Z2x:W.nsIn K mainGlobals "LETTERS"=some (some (.str "abcdefghijklmnopqrstuvwxyz" Zb0)))
 {Zb1:Tok} (Z3y:W.nsIn K mainGlobals "FIGURES"=some (some (.str "0123456789" Zb1)))
 {Z9p:Tok} (Z1p:W.nsIn K mainGlobals "MOST_SIGNS"=some (some (.int 8 Z9p)))
 {Z9b:Tok} (Z1e:W.nsIn K mainGlobals "MOST_THINGS"=some (some (.int 60 Z9b)))
 {Za3:Tok} (Z2a:W.nsIn K mainGlobals "MOST_ROOM"=some (some (.int 1000 Za3)))
 {Z9c:Tok} (Z0c:W.nsIn K mainGlobals "MOST_PLACES"=some (some (.int 1000000 Z9c)))
 {Za4:Tok} (Z1f:W.nsIn K mainGlobals "MOST_ASKS"=some (some (.int 200 Za4)))
 {Za5:Tok} (Z2b:W.nsIn K mainGlobals "MOST_SUMS"=some (some (.int 200 Za5)))
 {Za6:Tok} (Z2c:W.nsIn K mainGlobals "MOST_TURN"=some (some (.int 200 Za6)))
 (Z7i:W.nsIn K mainGlobals "Stock"=some (some (.ref Z7))) (Zdx:Cls K Z7)
 (Zo:W.findIn K (.ref Z7) "things"=some none)
 (Z8y:W.nsIn K mainGlobals "Sums"=some (some (.ref Zg))) (Ze0:Cls K Zg)
 (Zs:W.findIn K (.ref Zg) "numbers"=some none)
 (Z8z:W.nsIn K mainGlobals "Rule"=some (some (.ref Ze))) (Ze1:Cls K Ze)
 (Z0y:W.findIn K (.ref Ze) "stock"=some none)
 (Z0r:W.findIn K (.ref Ze) "places"=some none)
 (Z60:W.nsIn K mainGlobals "Ranked"=some (some (.ref Z4))) (Zdt:Cls K Z4)
 (Z0g:W.findIn K (.ref Z4) "stock"=some none)
 (Z07:W.findIn K (.ref Z4) "places"=some none)
 (Z0o:W.findIn K (.ref Z4) "present"=some none)
 (Z1c:W.findIn K (.ref Z4) "last"=some none)
 (Z61:W.nsIn K mainGlobals "Oldest"=some (some (.ref Z2))) (Zdu:Cls K Z2)
 (Z0h:W.findIn K (.ref Z2) "stock"=some none)
 (Z08:W.findIn K (.ref Z2) "places"=some none)
 (Zw:W.findIn K (.ref Z2) "present"=some none)
 (Z0b:W.findIn K (.ref Z2) "last"=some none)
 (Z7j:W.nsIn K mainGlobals "First"=some (some (.ref Zd))) (Zdy:Cls K Zd)
 (Z0s:W.findIn K (.ref Zd) "stock"=some none)
 (Z0i:W.findIn K (.ref Zd) "places"=some none)
 (Z0w:W.findIn K (.ref Zd) "present"=some none)
 (Z1l:W.findIn K (.ref Zd) "last"=some none)
 (Z0z:W.findIn K (.ref Zd) "put_at"=some none)
 (Z4v:W.nsIn K mainGlobals "Halving"=some (some (.ref Z0))) (Zco:Cls K Z0)
 (Z09:W.findIn K (.ref Z0) "stock"=some none)
 (Z02:W.findIn K (.ref Z0) "places"=some none)
 (Zq:W.findIn K (.ref Z0) "present"=some none)
 (Z03:W.findIn K (.ref Z0) "last"=some none)
 (Z0j:W.findIn K (.ref Z0) "turn"=some none)
 (Zk:W.findIn K (.ref Z0) "tally"=some none)
 (Z4b:W.nsIn K mainGlobals "Farthest"=some (some (.ref Z1))) (Zb2:Cls K Z1)
 (Z04:W.findIn K (.ref Z1) "stock"=some none)
 (Z00:W.findIn K (.ref Z1) "places"=some none)
 (Zp:W.findIn K (.ref Z1) "present"=some none)
 (Zz:W.findIn K (.ref Z1) "last"=some none)
 (Zt:W.findIn K (.ref Z1) "asks"=some none)
 (Z90:W.nsIn K mainGlobals "Hand"=some (some (.ref Zf))) (Ze2:Cls K Zf)
 (Z10:W.findIn K (.ref Zf) "stock"=some none)
 (Z0t:W.findIn K (.ref Zf) "places"=some none)
 (Z1m:W.findIn K (.ref Zf) "order"=some none)
 (Z1d:W.findIn K (.ref Zf) "marked"=some none)
 (Z91:W.nsIn K mainGlobals "Rows"=some (some (.ref Zc))) (Ze3:Cls K Zc)
 (Z11:W.findIn K (.ref Zc) "stock"=some none)
 (Z0u:W.findIn K (.ref Zc) "places"=some none)
 (Z29:W.findIn K (.ref Zc) "once"=some none)
 (Z1n:W.findIn K (.ref Zc) "again"=some none)
 (Z0p:W.findIn K (.ref Zc) "past_once"=some none)
 (Z0e:W.findIn K (.ref Zc) "past_again"=some none)
 (Z1o:W.findIn K (.ref Zc) "bound"=some none)
 (Z12:W.findIn K (.ref Zc) "returns"=some none)
 (Z5f:W.nsIn K mainGlobals "CastError"=some (some (.ref Z6)))
 (Z4w:W.nsIn K mainGlobals "Unknown"=some (some (.ref Z3)))
 (Z4x:W.nsIn K mainGlobals "TooWide"=some (some (.ref Z5)))
 (Z62:W.nsIn K mainGlobals "NoNumber"=some (some (.ref Z9)))
 (Z70:W.nsIn K mainGlobals "TooMany"=some (some (.ref Z8)))
 (Z8b:W.nsIn K mainGlobals "NoRule"=some (some (.ref Zb)))
 (Z8c:W.nsIn K mainGlobals "Unlike"=some (some (.ref Za)))
 {cA oA:Value} {dA eA:Option Addr} {cdA:ClassData} {slA smA:Array (Option Value)} {esA:Array DictEntry} {epA:Nat} (lA:K.lookup Z6=some ⟨cA,dA,.cls cdA,slA⟩) (lNA:K.lookup cdA.ns=some ⟨oA,eA,.dict esA epA,smA⟩) (sNA:strKeysB esA=true) (iNA:nsFind esA "__init__"=none)
 {Zae Zb3:Str} {Z92:Addr} {Zaf:List Value} {Zag:Bool} {Zah:List Str} {Zai:List Value} {Zaj:Bool} {Zak:Option Bool} {Zal:Option Addr} {Zam Zan Zao Zap Zaq:Option Value} {Zar:Value} {Zas:Option Addr} {Z5g:Array DictEntry} {Zat:Nat} {Zau:Array (Option Value)}
 (Z5h:K.lookup Z9=some (excClassObj Zae Zb3 Z9 Z92 Zaf [.ref Z6,.type "ValueError",.type "Exception",.type "BaseException",.type "object"] Zag Zah Zai Zaj Zak Zal Zam Zan Zao Zap Zaq "ValueError.__new__")) (Z5i:K.lookup Z92=some ⟨Zar,Zas,.dict Z5g Zat,Zau⟩) (Z5j:strKeysB Z5g=true) (Z5k:nsFind Z5g "__init__"=none)
 (Z5l:W.keepIn K (.ref Z9)=true)
 {Zb4 Zcp:Str} {Z9e:Addr} {Zb5:List Value} {Zb6:Bool} {Zb7:List Str} {Zb8:List Value} {Zb9:Bool} {Zba:Option Bool} {Zbb:Option Addr} {Zbc Zbd Zbe Zbf Zbg:Option Value} {Zbh:Value} {Zbi:Option Addr} {Z63:Array DictEntry} {Zbj:Nat} {Zbk:Array (Option Value)}
 (Z64:K.lookup Z8=some (excClassObj Zb4 Zcp Z8 Z9e Zb5 [.ref Z6,.type "ValueError",.type "Exception",.type "BaseException",.type "object"] Zb6 Zb7 Zb8 Zb9 Zba Zbb Zbc Zbd Zbe Zbf Zbg "ValueError.__new__")) (Z65:K.lookup Z9e=some ⟨Zbh,Zbi,.dict Z63 Zbj,Zbk⟩) (Z66:strKeysB Z63=true) (Z67:nsFind Z63 "__init__"=none)
 (Z68:W.keepIn K (.ref Z8)=true)
 {Zcq Zdv:Str} {Za7:Addr} {Zcr:List Value} {Zcs:Bool} {Zct:List Str} {Zcu:List Value} {Zcv:Bool} {Zcw:Option Bool} {Zcx:Option Addr} {Zcy Zcz Zd0 Zd1 Zd2:Option Value} {Zd3:Value} {Zd4:Option Addr} {Z71:Array DictEntry} {Zd5:Nat} {Zd6:Array (Option Value)}
 (Z72:K.lookup Zb=some (excClassObj Zcq Zdv Zb Za7 Zcr [.ref Z6,.type "ValueError",.type "Exception",.type "BaseException",.type "object"] Zcs Zct Zcu Zcv Zcw Zcx Zcy Zcz Zd0 Zd1 Zd2 "ValueError.__new__")) (Z73:K.lookup Za7=some ⟨Zd3,Zd4,.dict Z71 Zd5,Zd6⟩) (Z74:strKeysB Z71=true) (Z75:nsFind Z71 "__init__"=none)
 (Z76:W.keepIn K (.ref Zb)=true)
 {Zd7 Zdw:Str} {Za8:Addr} {Zd8:List Value} {Zd9:Bool} {Zda:List Str} {Zdb:List Value} {Zdc:Bool} {Zdd:Option Bool} {Zde:Option Addr} {Zdf Zdg Zdh Zdi Zdj:Option Value} {Zdk:Value} {Zdl:Option Addr} {Z77:Array DictEntry} {Zdm:Nat} {Zdn:Array (Option Value)}
 (Z78:K.lookup Za=some (excClassObj Zd7 Zdw Za Za8 Zd8 [.ref Z6,.type "ValueError",.type "Exception",.type "BaseException",.type "object"] Zd9 Zda Zdb Zdc Zdd Zde Zdf Zdg Zdh Zdi Zdj "ValueError.__new__")) (Z79:K.lookup Za8=some ⟨Zdk,Zdl,.dict Z77 Zdm,Zdn⟩) (Z7a:strKeysB Z77=true) (Z7b:nsFind Z77 "__init__"=none)
 (Z7c:W.keepIn K (.ref Za)=true)
 {Zbl Z0f:Str} {Z9f:Addr} {Zbm:List Value} {Zbn:List Str} {Zbo:List Value} {Zbp:Bool} {Zbq:Option Bool} {Zbr:Option Addr} {Zbs Zbt Zbu Zbv Zbw:Option Value} {Zbx:Value} {Zby:Option Addr} {Z69:Array DictEntry} {Zbz:Nat} {Zc0:Array (Option Value)}
 (Z4c:K.lookup Z3=some (excClassObj Zbl Z0f Z3 Z9f Zbm [.ref Z6,.type "ValueError",.type "Exception",.type "BaseException",.type "object"] true Zbn Zbo Zbp Zbq Zbr Zbs Zbt Zbu Zbv Zbw "ValueError.__new__")) (Z6a:K.lookup Z9f=some ⟨Zbx,Zby,.dict Z69 Zbz,Zc0⟩) (Z6b:strKeysB Z69=true) (Z6c:nsFind Z69 "__init__"=some (.ref f6))
 (Z6d:W.findIn K (.ref Z3) "__getattribute__"=some (some (.builtin "BaseException.__getattribute__"))) (Z6e:W.findIn K (.ref Z3) "__getattr__"=some none) (Z6f:W.findIn K (.ref Z3) "__setattr__"=some (some (.builtin "object.__setattr__")))
 (Zx:W.findIn K (.ref Z3) "name"=some none)
 (Zu:W.findIn K (.ref Z3) "place"=some none)
 {Zc1 Z2w:Str} {Z9g:Addr} {Zc2:List Value} {Zc3:List Str} {Zc4:List Value} {Zc5:Bool} {Zc6:Option Bool} {Zc7:Option Addr} {Zc8 Zc9 Zca Zcb Zcc:Option Value} {Zcd:Value} {Zce:Option Addr} {Z6g:Array DictEntry} {Zcf:Nat} {Zcg:Array (Option Value)}
 (Z4d:K.lookup Z5=some (excClassObj Zc1 Z2w Z5 Z9g Zc2 [.ref Z6,.type "ValueError",.type "Exception",.type "BaseException",.type "object"] true Zc3 Zc4 Zc5 Zc6 Zc7 Zc8 Zc9 Zca Zcb Zcc "ValueError.__new__")) (Z6h:K.lookup Z9g=some ⟨Zcd,Zce,.dict Z6g Zcf,Zcg⟩) (Z6i:strKeysB Z6g=true) (Z6j:nsFind Z6g "__init__"=some (.ref f7))
 (Z6k:W.findIn K (.ref Z5) "__getattribute__"=some (some (.builtin "BaseException.__getattribute__"))) (Z6l:W.findIn K (.ref Z5) "__getattr__"=some none) (Z6m:W.findIn K (.ref Z5) "__setattr__"=some (some (.builtin "object.__setattr__")))
 (Z0k:W.findIn K (.ref Z5) "name"=some none)
 (Z0a:W.findIn K (.ref Z5) "place"=some none)
 {Zdo:ClassData} (Z6n:W.subIn K (.ref Zb) (.type "BaseException")=some true) (Z4y:W.clsIn K Zb=some Zdo) (Z4z:W.typeIn K (.ref Zb)=some (.type "type"))
 {Zch:ClassData} (Z1s:W.subIn K (.ref Z8) (.type "BaseException")=some true) (Z1a:W.clsIn K Z8=some Zch) (Z1b:W.typeIn K (.ref Z8)=some (.type "type"))
 {Zci:ClassData} (Z3z:W.subIn K (.ref Z5) (.type "BaseException")=some true) (Z3d:W.clsIn K Z5=some Zci) (Z3e:W.typeIn K (.ref Z5)=some (.type "type"))
 {Zcj:ClassData} (Z2y:W.subIn K (.ref Z3) (.type "BaseException")=some true) (Z1w:W.clsIn K Z3=some Zcj) (Z1x:W.typeIn K (.ref Z3)=some (.type "type"))
 {Zdp:ClassData} (Z8d:W.subIn K (.ref Za) (.type "BaseException")=some true) (Z7d:W.clsIn K Za=some Zdp) (Z7e:W.typeIn K (.ref Za)=some (.type "type"))
 (Z23:W.subIn K (.ref Z8) (.ref Z8)=some true)
 (Z24:W.subIn K (.ref Z3) (.ref Z8)=some false)
 (Z25:W.subIn K (.ref Z3) (.ref Z3)=some true)
 (Z26:W.subIn K (.ref Z5) (.ref Z8)=some false)
 (Z27:W.subIn K (.ref Z5) (.ref Z3)=some false)
 (Z28:W.subIn K (.ref Z5) (.ref Z5)=some true)
 (Z2q:W.subIn K (.ref Zb) (.ref Z8)=some false)
 (Z2r:W.subIn K (.ref Zb) (.ref Z3)=some false)
 (Z2s:W.subIn K (.ref Zb) (.ref Z5)=some false)
 (Z3f:W.subIn K (.ref Zb) (.ref Zb)=some true)
 (Z2t:W.subIn K (.ref Za) (.ref Z8)=some false)
 (Z2u:W.subIn K (.ref Za) (.ref Z3)=some false)
 (Z2v:W.subIn K (.ref Za) (.ref Z5)=some false)
 (Z3g:W.subIn K (.ref Za) (.ref Zb)=some false)
 (Z3h:W.subIn K (.ref Za) (.ref Za)=some true)
 :∃fd:FuncData,(∀(s:Shared) (v:Value),BindsTo s fd ⟨[v],[]⟩ [("_law_script",v)])∧∀base:Heap,K.In base→base.Ns mainGlobals mg→FnOk l.prog w K mg base (CXF l.prog w) 10 fa fd ["_law_script"] (sp_law K):=by
 have e:=hfa.symm.trans (W.mg_of X G a65)
 cases e
 have T:Txt K mg Z6 Z3 Z5 Z9 Z8 Zb Za Z7 Zg Ze Z4 Z2 Zd Z0 Z1 Zf Zc:=⟨W.mg_of X G Z7i,Zdx,Zo,W.mg_of X G Z8y,Ze0,Zs,W.mg_of X G Z8z,Ze1,Z0y,Z0r,W.mg_of X G Z60,Zdt,Z0g,Z07,Z0o,Z1c,W.mg_of X G Z61,Zdu,Z0h,Z08,Zw,Z0b,W.mg_of X G Z7j,Zdy,Z0s,Z0i,Z0w,Z1l,Z0z,W.mg_of X G Z4v,Zco,Z09,Z02,Zq,Z03,Z0j,Zk,W.mg_of X G Z4b,Zb2,Z04,Z00,Zp,Zz,Zt,W.mg_of X G Z90,Ze2,Z10,Z0t,Z1m,Z1d,W.mg_of X G Z91,Ze3,Z11,Z0u,Z29,Z1n,Z0p,Z0e,Z1o,Z12,W.mg_of X G Z5f,W.mg_of X G Z4w,W.mg_of X G Z4x,W.mg_of X G Z62,excC_of Z5h Z5i Z5j Z5k lA lNA sNA iNA,Z5l,W.mg_of X G Z70,excC_of Z64 Z65 Z66 Z67 lA lNA sNA iNA,Z68,W.mg_of X G Z8b,excC_of Z72 Z73 Z74 Z75 lA lNA sNA iNA,Z76,W.mg_of X G Z8c,excC_of Z78 Z79 Z7a Z7b lA lNA sNA iNA,Z7c,excQ_of Z4c Z6d Z6e Z6f,Zx,Zu,excQ_of Z4d Z6k Z6l Z6m,Z0k,Z0a,exm_ref Z1s Z1a Z1b Z23,exm_ref Z1s Z1a Z1b Z24,exm_ref Z2y Z1w Z1x Z25,exm_ref Z1s Z1a Z1b Z26,exm_ref Z2y Z1w Z1x Z27,exm_ref Z3z Z3d Z3e Z28,exm_ref Z1s Z1a Z1b Z2q,exm_ref Z2y Z1w Z1x Z2r,exm_ref Z3z Z3d Z3e Z2s,exm_ref Z6n Z4y Z4z Z3f,exm_ref Z1s Z1a Z1b Z2t,exm_ref Z2y Z1w Z1x Z2u,exm_ref Z3z Z3d Z3e Z2v,exm_ref Z6n Z4y Z4z Z3g,exm_ref Z8d Z7d Z7e Z3h,W.mg_none_of X G Z06,W.mg_none_of X G Z0q,W.mg_none_of X G Z8i,W.mg_none_of X G Z6r,W.mg_none_of X G Z8j,W.mg_none_of X G Z4e,W.mg_none_of X G Z7f,W.mg_none_of X G Z8k,W.mg_none_of X G Z13,W.mg_none_of X G Z7g,W.mg_none_of X G Z0x,W.mg_none_of X G Z8l,W.mg_none_of X G Z8m,W.mg_none_of X G Z9q,W.mg_none_of X G Z4f,W.mg_none_of X G Z6s,W.mg_none_of X G Z8n,⟨_,W.mg_of X G Z2x⟩,⟨_,W.mg_of X G Z3y⟩,⟨_,W.mg_of X G Z1p⟩,⟨_,W.mg_of X G Z1e⟩,⟨_,W.mg_of X G Z2a⟩,⟨_,W.mg_of X G Z0c⟩,⟨_,W.mg_of X G Z1f⟩,⟨_,W.mg_of X G Z2b⟩,⟨_,W.mg_of X G Z2c⟩⟩
 have F6:=fun_mk (st:=Z0l) l6 c6 kf6
 have F7:=fun_mk (st:=Z0m) l7 c7 kf7
 have F23:=fun_mk (st:=Z1g) l23 c23 kf23
 have F24:=fun_mk (st:=Z0v) l24 c24 kf24
 have F27:=funD_mk (st:=Z0n) (dv:=[.int 8 dk27]) l27 c27 kf27 ld27 rfl
 have F65:=fun_mk (st:=Z49) l65 c65 k65
 refine ⟨W.fnOf "law" "law" (defArgs Z49) (defBody Z49) (defScope Z49) .none kV65 dc65 pm65 an65 cd65 ct65,fun s v=> .of_eq rfl,fun base _ _=>?_⟩
 have B:Bs l.prog w K mg base:=⟨h,X,G⟩
 have Z6w:=F0.d B a0 (Zax F0 T) (F0.e2 fun _ _ _ _ _ _ _ _=>rfl)
 have Z6x:=F1.d B a1 (Zay F1 T Z6w) (F1.e1 fun _ _ _ _ _ _ _=>rfl)
 have Z5v:=F2.d B a2 (Za9 F2 T) (F2.e1 fun _ _ _ _ _ _ _=>rfl)
 have Zh:=F3.d B a3 (Z9t F3 T Z5v) (F3.e3 fun _ _ _ _ _ _ _ _ _=>rfl)
 have Z45:=F4.d B a4 (Z95 F4 T Z6x Zh) (F4.e4 fun _ _ _ _ _ _ _ _ _ _=>rfl)
 have Z4u:=F5.i B M5 Z7i (Z9h F5 T Z45) (F5.e2 fun _ _ _ _ _ _ _ _=>rfl)
 have Z3p:DefX l.prog w K mg base (CXF l.prog w) 1 "Unknown" Z3 ["self","name","place"] (sp_unk Z3):=⟨⟨f6,_,Z8o F6 T,mkX_of Z4c Z6a Z6b Z6c lA lNA sNA iNA l6 hc6 k6,W.mg_of X G Z4w,F6.binds (ps:=["self","name","place"]) fun _ _ _ _ _ _ us hl=>match us,hl with | [_,_,_],_=>rfl⟩⟩
 have Z3q:DefX l.prog w K mg base (CXF l.prog w) 1 "TooWide" Z5 ["self","name","place"] (sp_unk Z5):=⟨⟨f7,_,Z8p F7 T,mkX_of Z4d Z6h Z6i Z6j lA lNA sNA iNA l7 hc7 k7,W.mg_of X G Z4x,F7.binds (ps:=["self","name","place"]) fun _ _ _ _ _ _ us hl=>match us,hl with | [_,_,_],_=>rfl⟩⟩
 have Z59:=F8.m B M8 (Z9u F8 T) (F8.e2 fun _ _ _ _ _ _ _ _=>rfl)
 have Z05:=F9.m B M9 (Z7n F9 T) (F9.e2 fun _ _ _ _ _ _ _ _=>rfl)
 have Zl:=F10.m B M10 (Z82 F10 T Z05) (F10.e2 fun _ _ _ _ _ _ _ _=>rfl)
 have Zy:=F11.d B a11 (Z8q F11 T Zh) (F11.e1 fun _ _ _ _ _ _ _=>rfl)
 have Zr:=F12.d B a12 (Z9i F12 T Zy Z59 Zl Z3p Z3q) (F12.e3 fun _ _ _ _ _ _ _ _ _=>rfl)
 have Z37:=F13.m B M13 (Z83 F13 T Z05) (F13.e2 fun _ _ _ _ _ _ _ _=>rfl)
 have Z46:=F14.d B a14 (Z96 F14 T Zl) (F14.e2 fun _ _ _ _ _ _ _ _=>rfl)
 have Z3r:=F15.d B a15 (Z8r F15 T) (F15.e1 fun _ _ _ _ _ _ _=>rfl)
 have Z5a:=F16.i B M16 Z8y (Z9v F16 T Zh) (F16.e2 fun _ _ _ _ _ _ _ _=>rfl)
 have Z4a:=F17.m B M17 (Zaa F17 T Zh) (F17.e3 fun _ _ _ _ _ _ _ _ _=>rfl)
 have Z3x:=F18.m B M18 (Z9w F18 T Zh) (F18.e2 fun _ _ _ _ _ _ _ _=>rfl)
 have Z1h:=F19.d B a19 (Z9x F19 T Zr Z3r Zl Z5a Z4a Z3x) (F19.e2 fun _ _ _ _ _ _ _ _=>rfl)
 have Z5w:=F20.d B a20 (Zab F20 T) (F20.e2 fun _ _ _ _ _ _ _ _=>rfl)
 have Z5b:=F21.d B a21 (Z9y F21 T Z5w Z37) (F21.e4 fun _ _ _ _ _ _ _ _ _ _=>rfl)
 have Z5z:=F22.d B a22 (Zac F22 T Z1h Zl Z5b) (F22.e2 fun _ _ _ _ _ _ _ _=>rfl)
 have Zm:DefB l.prog w K mg base (CXF l.prog w) 4 "Rule" Ze ["self","stock","places"] (sp28_rinit K):=⟨⟨f23,_,Z9z F23 T Zy,⟨m23,a23,n23,k23⟩,W.mg_of X G Z8z,F23.binds (ps:=["self","stock","places"]) fun _ _ _ _ _ _ us hl=>match us,hl with | [_,_,_],_=>rfl,fc23,kf23⟩,sc23,rc23⟩
 have Zn:DefB l.prog w K mg base (CXF l.prog w) 5 "Ranked" Z4 ["self","stock","places"] (sp28_kinit K):=⟨⟨f24,_,Z97 F24 T Zm,⟨m24,a24,n24,k24⟩,W.mg_of X G Z60,F24.binds (ps:=["self","stock","places"]) fun _ _ _ _ _ _ us hl=>match us,hl with | [_,_,_],_=>rfl,fc24,kf24⟩,sc24,rc24⟩
 have Z48:=F25.i B M25 Z61 (Z98 F25 T Zm) (F25.e3 fun _ _ _ _ _ _ _ _ _=>rfl)
 have Z4t:=F26.i B M26 Z7j (Z9j F26 T Zn) (F26.e3 fun _ _ _ _ _ _ _ _ _=>rfl)
 have Z3w:DefIK l.prog w K mg base (CXF l.prog w) 6 "Halving" Z0 ["self","stock","places","turn"] "turn" [V.int 8] (sp23_init Z0):=⟨⟨f27,_,_,Z8s F27 T Zh Zn,⟨m27,a27,n27,k27⟩,W.mg_of X G Z4v,.cons ⟨_,rfl⟩ .nil,F27.binds fun _ _ _ _ _ _ _ _ _ _=>⟨_,rfl,rfl⟩,F27.kbinds fun _ _ _ _ _ _ _ _ _ _ _=>⟨_,rfl,rfl⟩,F27.full fun _ _ _ _ _ _ _ _ _ _ _=>⟨_,rfl,rfl⟩⟩⟩
 have Z3c:=F28.i B M28 Z4b (Z84 F28 T Zr Zn) (F28.e4 fun _ _ _ _ _ _ _ _ _ _=>rfl)
 have Z5d:=F29.i B M29 Z90 (Za0 F29 T Zm) (F29.e3 fun _ _ _ _ _ _ _ _ _=>rfl)
 have Z5e:=F30.i B M30 Z91 (Za1 F30 T Zm) (F30.e3 fun _ _ _ _ _ _ _ _ _=>rfl)
 have Z1j:=F31.m B M31 (Z5x F31 T) (F31.e2 fun _ _ _ _ _ _ _ _=>rfl)
 have Z3u:=F32.m B M32 (Z8t F32 T Z1j) (F32.e2 fun _ _ _ _ _ _ _ _=>rfl)
 have Z2l:=F33.m B M33 (Z7o F33 T) (F33.e2 fun _ _ _ _ _ _ _ _=>rfl)
 have Z2e:=F34.m B M34 (Z99 F34 T Z2l) (F34.e2 fun _ _ _ _ _ _ _ _=>rfl)
 have Z38:=F35.m B M35 (Z85 F35 T) (F35.e1 fun _ _ _ _ _ _ _=>rfl)
 have Z18:=F36.m B M36 (Z5n F36 T) (F36.e2 fun _ _ _ _ _ _ _ _=>rfl)
 have Z2p:=F37.m B M37 (Z7p F37 T) (F37.e1 fun _ _ _ _ _ _ _=>rfl)
 have Z3b:=F38.m B M38 (Z86 F38 T Z38 Z18) (F38.e2 fun _ _ _ _ _ _ _ _=>rfl)
 have Z22:=F39.m B M39 (Z6y F39 T) (F39.e2 fun _ _ _ _ _ _ _ _=>rfl)
 have Z1v:=F40.m B M40 (Z8u F40 T Z22) (F40.e2 fun _ _ _ _ _ _ _ _=>rfl)
 have Z15:=F41.m B M41 (Z5c F41 T) (F41.e2 fun _ _ _ _ _ _ _ _=>rfl)
 have Z1r:=F42.m B M42 (Z6o F42 T) (F42.e2 fun _ _ _ _ _ _ _ _=>rfl)
 have Z19:=F43.m B M43 (Z5o F43 T) (F43.e2 fun _ _ _ _ _ _ _ _=>rfl)
 have Z1k:=F44.m B M44 (Z87 F44 T Z19 Z1r) (F44.e2 fun _ _ _ _ _ _ _ _=>rfl)
 have Z2n:=F45.m B M45 (Z7q F45 T Z15) (F45.e2 fun _ _ _ _ _ _ _ _=>rfl)
 have Z4o:=F46.m B M46 (Z9k F46 T) (F46.e1 fun _ _ _ _ _ _ _=>rfl)
 have Z3s:=F47.m B M47 (Z8v F47 T) (F47.e1 fun _ _ _ _ _ _ _=>rfl)
 have Z3t:=F48.m B M48 (Z8w F48 T) (F48.e1 fun _ _ _ _ _ _ _=>rfl)
 have Z47:=F49.m B M49 (Z9a F49 T) (F49.e1 fun _ _ _ _ _ _ _=>rfl)
 have Z39:=F50.m B M50 (Z88 F50 T) (F50.e1 fun _ _ _ _ _ _ _=>rfl)
 have Z2m:=F51.m B M51 (Z7r F51 T) (F51.e1 fun _ _ _ _ _ _ _=>rfl)
 have Z4p:=F52.m B M52 (Z9l F52 T) (F52.e1 fun _ _ _ _ _ _ _=>rfl)
 have Z4q:=F53.m B M53 (Z9m F53 T) (F53.e1 fun _ _ _ _ _ _ _=>rfl)
 have Z4r:=F54.d B a54 (Z9n F54 T Zr Z46 Z4o Z3s Z3t Z47 Z39 Z2m Z4p Z4q) (F54.e2 fun _ _ _ _ _ _ _ _=>rfl)
 have Z5y:=F55.d B a55 (Zad F55 T) (F55.e2 fun _ _ _ _ _ _ _ _=>rfl)
 have Z3a:=F56.d B a56 (Z89 F56 T Z2e Z1v Z1k) (F56.e2 fun _ _ _ _ _ _ _ _=>rfl)
 have Z4s:=F57.d B a57 (Z9o F57 T Z3a) (F57.e3 fun _ _ _ _ _ _ _ _ _=>rfl)
 have Z3v:=F58.d B a58 (Z8x F58 T Z4r Z5y Z4s Z3u Z3b Z2n) (F58.e2 fun _ _ _ _ _ _ _ _=>rfl)
 have Z0d:=F59.d B a59 (Zcm F59 T) (F59.e2 fun _ _ _ _ _ _ _ _=>rfl)
 have Z6z:=F60.d B a60 (Zaz F60 T) (F60.e2 fun _ _ _ _ _ _ _ _=>rfl)
 have Z2d:=F61.d B a61 (Za2 F61 T Z1h Z5z) (F61.e3 fun _ _ _ _ _ _ _ _ _=>rfl)
 have Z2o:=F62.d B a62 (Z7s F62 T Z3v) (F62.e2 fun _ _ _ _ _ _ _ _=>rfl)
 have Z8a:=F63.d B a63 (Zcn F63 T Zm Zn Z48 Z4t Z3w Z3c Z5d Z5e) (F63.e4 fun _ _ _ _ _ _ _ _ _ _=>rfl)
 have Z7h:=F64.d B a64 (Zds F64 T) (F64.e4 fun _ _ _ _ _ _ _ _ _ _=>rfl)
 exact Zdz F65 T Z0d Z6z Z4u Z7h Z2d Z2o Z8a Z2p
end K38
namespace PySem.W.Fast
theorem tw11819711363073406999:True:=⟨⟩
theorem tw11296324836136562715:True:=⟨⟩
theorem tw4546077795177632276:True:=⟨⟩
theorem tw1526257819785117275:True:=⟨⟩
theorem tw8664875951587585458:True:=⟨⟩
theorem tw14937374796603994387:True:=⟨⟩
theorem tw13107333931021686362:True:=⟨⟩
theorem tw14934398381816866911:True:=⟨⟩
theorem tw12586058722674354485:True:=⟨⟩
theorem tw9360916624039163343:True:=⟨⟩
theorem tw7017443018441098111:True:=⟨⟩
theorem tw11114100239290418382:True:=⟨⟩
theorem tw3765824165984375691:True:=⟨⟩
theorem tw12246505383909739118:True:=⟨⟩
theorem tw8883660935179598942:True:=⟨⟩
theorem tw12957716453027158570:True:=⟨⟩
theorem tw11768764141397160191:True:=⟨⟩
theorem tw14813857676173566383:True:=⟨⟩
theorem tw17091727691248588347:True:=⟨⟩
theorem tw16812941175786123366:True:=⟨⟩
theorem tw343297419769778503:True:=⟨⟩
theorem tw6420852487350645814:True:=⟨⟩
theorem tw6519198924156338899:True:=⟨⟩
theorem tw6908405858703312273:True:=⟨⟩
theorem tw15805803802585125779:True:=⟨⟩
theorem tw1604969737284244365:True:=⟨⟩
theorem tw11994333827686294621:True:=⟨⟩
theorem tw9244514735280829544:True:=⟨⟩
theorem tw14216820159413438738:True:=⟨⟩
theorem tw2185794253579209122:True:=⟨⟩
theorem tw9268200411245731520:True:=⟨⟩
theorem tw8955244092788789548:True:=⟨⟩
theorem tw11790304268879307444:True:=⟨⟩
theorem tw7781207064482060984:True:=⟨⟩
theorem tw7037824406742213261:True:=⟨⟩
theorem tw10560786687153705443:True:=⟨⟩
theorem tw4822962029588987260:True:=⟨⟩
theorem tw12523425187958789787:True:=⟨⟩
theorem tw4264740451710281187:True:=⟨⟩
theorem tw8307557960868084761:True:=⟨⟩
theorem tw855851139276337733:True:=⟨⟩
theorem tw11308201163496809937:True:=⟨⟩
theorem tw5524773363124719826:True:=⟨⟩
theorem tw14658971174113377528:True:=⟨⟩
theorem tw9734811553250376505:True:=⟨⟩
theorem tw4592791595774022626:True:=⟨⟩
theorem tw16137361484425242050:True:=⟨⟩
theorem tw12745193855430623601:True:=⟨⟩
theorem tw16530632812749782578:True:=⟨⟩
theorem tw1754114436928049534:True:=⟨⟩
theorem tw285596687963789171:True:=⟨⟩
theorem tw9412376530162492375:True:=⟨⟩
theorem tw10311348340119480136:True:=⟨⟩
theorem tw9189509053961294535:True:=⟨⟩
theorem tw15156632343044737534:True:=⟨⟩
theorem tw2915017047941860750:True:=⟨⟩
theorem tw16782467928013273455:True:=⟨⟩
theorem tw7909087248013074046:True:=⟨⟩
theorem tw585423359014931331:True:=⟨⟩
theorem tw5307561771835910778:True:=⟨⟩
theorem tw17654901266383879031:True:=⟨⟩
theorem tw7851812679374849041:True:=⟨⟩
theorem tw13427489883331264947:True:=⟨⟩
theorem tw9105065280552363184:True:=⟨⟩
theorem tw11469881733784222679:True:=⟨⟩
theorem tw3573114337525553991:True:=⟨⟩
theorem tw5062258150384979579:True:=⟨⟩
theorem tw2548563657012548731:True:=⟨⟩
theorem tw6474179590758769033:True:=⟨⟩
theorem tw12801983137438037834:True:=⟨⟩
theorem tw2354888439993232788:True:=⟨⟩
theorem tw5938581435677686566:True:=⟨⟩
theorem tw2872323641154804875:True:=⟨⟩
theorem tw1280679056666546292:True:=⟨⟩
theorem tw11103446701973620337:True:=⟨⟩
theorem tw14748924969196272969:True:=⟨⟩
theorem tw3847236862269912941:True:=⟨⟩
theorem tw16217661379595876288:True:=⟨⟩
theorem tw520358009473773871:True:=⟨⟩
theorem tw10975970956161286000:True:=⟨⟩
theorem tw3098749782767233395:True:=⟨⟩
theorem tw5640573904750704149:True:=⟨⟩
theorem tw17558290010265140794:True:=⟨⟩
theorem tw13692207675776096624:True:=⟨⟩
theorem tw2875641908986207007:True:=⟨⟩
theorem tw11693363565841323324:True:=⟨⟩
theorem tw15847497918603413566:True:=⟨⟩
theorem tw15653404865880148723:True:=⟨⟩
theorem tw1033048223998952081:True:=⟨⟩
theorem tw15299100920677099197:True:=⟨⟩
theorem tw6289866923233460164:True:=⟨⟩
theorem tw12361324428379006779:True:=⟨⟩
theorem tw1895257316018761480:True:=⟨⟩
theorem tw6960116128756218670:True:=⟨⟩
theorem tw2205918695818867827:True:=⟨⟩
theorem tw3458995241382731203:True:=⟨⟩
theorem tw17953546668496956006:True:=⟨⟩
theorem tw4415501838751014661:True:=⟨⟩
theorem tw11647099521765285932:True:=⟨⟩
theorem tw7272187255654707443:True:=⟨⟩
theorem tw11024502052097976833:True:=⟨⟩
theorem tw9316701022447544416:True:=⟨⟩
theorem tw2403186561774768665:True:=⟨⟩
theorem tw9829948450431751301:True:=⟨⟩
theorem tw1897224318553612943:True:=⟨⟩
theorem tw6962151663943452959:True:=⟨⟩
theorem tw6513174964101105524:True:=⟨⟩
theorem tw13753298251538778326:True:=⟨⟩
theorem tw2255777297575680665:True:=⟨⟩
theorem tw8378418927464575056:True:=⟨⟩
theorem tw5805595934303701479:True:=⟨⟩
theorem tw6473655709199287550:True:=⟨⟩
theorem tw16746459354115095614:True:=⟨⟩
theorem tw13400399495003228870:True:=⟨⟩
theorem tw5528058411069406350:True:=⟨⟩
theorem tw5769743124547570314:True:=⟨⟩
theorem tw12263194301651209263:True:=⟨⟩
theorem tw798126198942008792:True:=⟨⟩
theorem tw7125932253081001940:True:=⟨⟩
theorem tw4774700230588201962:True:=⟨⟩
theorem tw8667679204592877971:True:=⟨⟩
theorem tw6584930344923279589:True:=⟨⟩
theorem tw3831735297157259092:True:=⟨⟩
theorem tw4605066399880117974:True:=⟨⟩
theorem tw7481127740808012560:True:=⟨⟩
theorem tw7701079001450543544:True:=⟨⟩
theorem tw3160616698312105871:True:=⟨⟩
theorem tw18066405964032252080:True:=⟨⟩
theorem tw3800228505513567935:True:=⟨⟩
theorem tw12255796376218275561:True:=⟨⟩
theorem tw6936227471532470774:True:=⟨⟩
theorem tw5753596482157711980:True:=⟨⟩
theorem tw5782871726907810228:True:=⟨⟩
theorem tw1268472746033438046:True:=⟨⟩
theorem tw86975906878183580:True:=⟨⟩
theorem tw7374900725718420436:True:=⟨⟩
theorem tw10392395818841932203:True:=⟨⟩
theorem tw15452253927687660807:True:=⟨⟩
theorem tw13524792147059292928:True:=⟨⟩
theorem tw14029607307528123156:True:=⟨⟩
theorem tw7367914513533120598:True:=⟨⟩
theorem tw8098604179337767461:True:=⟨⟩
theorem tw17394236692646410998:True:=⟨⟩
theorem tw5630934567914358274:True:=⟨⟩
theorem tw15179888116629606529:True:=⟨⟩
theorem tw15622805385717405182:True:=⟨⟩
theorem tw3888330075208065266:True:=⟨⟩
theorem tw6006190561116994895:True:=⟨⟩
theorem tw9488421889758919164:True:=⟨⟩
theorem tw5965926390533836194:True:=⟨⟩
theorem tw6593920459486776421:True:=⟨⟩
theorem tw7992490568448396032:True:=⟨⟩
theorem tw17047049850553049447:True:=⟨⟩
theorem tw7536750942229403779:True:=⟨⟩
theorem tw8942292358398807327:True:=⟨⟩
theorem tw11927521995492868493:True:=⟨⟩
theorem tw3318075366230705784:True:=⟨⟩
theorem tw2761714723365413091:True:=⟨⟩
theorem tw17137377211852486090:True:=⟨⟩
theorem tw6256834739625574239:True:=⟨⟩
theorem tw14933022245852367425:True:=⟨⟩
theorem tw17234191379206602554:True:=⟨⟩
theorem tw10218230919669540296:True:=⟨⟩
theorem tw1717787417046021181:True:=⟨⟩
theorem tw15536214611384850700:True:=⟨⟩
theorem tw7103925304029043774:True:=⟨⟩
theorem tw15362055797405737022:True:=⟨⟩
theorem tw10164127325025952848:True:=⟨⟩
theorem tw10586093000623508010:True:=⟨⟩
theorem tw10410715404294407415:True:=⟨⟩
theorem tw18114158874940931653:True:=⟨⟩
theorem tw16827000075555116706:True:=⟨⟩
theorem tw21357681481761995:True:=⟨⟩
theorem tw7598538905459490739:True:=⟨⟩
theorem tw16168011449715204671:True:=⟨⟩
theorem tw3797653823990524705:True:=⟨⟩
theorem tw2088953244514813942:True:=⟨⟩
theorem tw14910666937637750100:True:=⟨⟩
theorem tw11496850997367217267:True:=⟨⟩
theorem tw18298441449941068382:True:=⟨⟩
theorem tw3177783473395242638:True:=⟨⟩
theorem tw3479129339165354767:True:=⟨⟩
theorem tw10104384630541416881:True:=⟨⟩
theorem tw17361939058095216232:True:=⟨⟩
theorem tw11334052521032371404:True:=⟨⟩
theorem tw5515642254813144000:True:=⟨⟩
theorem tw17206667020742349719:True:=⟨⟩
theorem tw9666294954496533982:True:=⟨⟩
theorem tw16385163274325108285:True:=⟨⟩
theorem tw4568713934686764592:True:=⟨⟩
theorem tw11180090708284454152:True:=⟨⟩
theorem tw11597609548950366099:True:=⟨⟩
theorem tw15641523135864935442:True:=⟨⟩
theorem tw15251892995877392425:True:=⟨⟩
theorem tw17197645816006883528:True:=⟨⟩
theorem tw13067978485217569920:True:=⟨⟩
theorem tw11868756510366011530:True:=⟨⟩
theorem tw14609736400935806029:True:=⟨⟩
theorem tw4116232694239769457:True:=⟨⟩
theorem tw2305768056588530048:True:=⟨⟩
theorem tw2308920517242393284:True:=⟨⟩
theorem tw13814579119895221654:True:=⟨⟩
theorem tw9895115342371791651:True:=⟨⟩
theorem tw13357529287267047630:True:=⟨⟩
theorem tw1892786164291408761:True:=⟨⟩
theorem tw7649792911397196812:True:=⟨⟩
theorem tw3234481964747120097:True:=⟨⟩
theorem tw3002829990496748638:True:=⟨⟩
theorem tw10113924948279689740:True:=⟨⟩
theorem tw2959181084570362684:True:=⟨⟩
theorem tw2769867896380924877:True:=⟨⟩
theorem tw16086093474223527011:True:=⟨⟩
theorem tw3963903438300669941:True:=⟨⟩
theorem tw18205600129123515503:True:=⟨⟩
theorem tw15708265070563980431:True:=⟨⟩
theorem tw11616362365293374673:True:=⟨⟩
theorem tw5676596246719665901:True:=⟨⟩
theorem tw1380868895213166238:True:=⟨⟩
theorem tw2366642752745291841:True:=⟨⟩
theorem tw1884740224173689803:True:=⟨⟩
theorem tw16902161739086350912:True:=⟨⟩
theorem tw7150470885210095756:True:=⟨⟩
theorem tw7571799147050243541:True:=⟨⟩
theorem tw12952415937878646992:True:=⟨⟩
theorem tw14271261042374406615:True:=⟨⟩
theorem tw4294284060077439395:True:=⟨⟩
theorem tw18243816138587541061:True:=⟨⟩
theorem tw6801064105313940070:True:=⟨⟩
theorem tw3653549878672800401:True:=⟨⟩
theorem tw10273337012867084367:True:=⟨⟩
theorem tw6343443252976058050:True:=⟨⟩
theorem tw9691100132500925659:True:=⟨⟩
theorem tw7500849854556660845:True:=⟨⟩
theorem tw2592828449884372014:True:=⟨⟩
theorem tw8143591950382673696:True:=⟨⟩
theorem tw18105365849479679825:True:=⟨⟩
theorem tw2883892278226525588:True:=⟨⟩
theorem tw8917952340113122177:True:=⟨⟩
theorem tw13781210222512479148:True:=⟨⟩
theorem tw689951318629271678:True:=⟨⟩
theorem tw17550909412292052902:True:=⟨⟩
theorem tw9567076084280309549:True:=⟨⟩
theorem tw10700941460321779196:True:=⟨⟩
theorem tw14605850782044464129:True:=⟨⟩
theorem tw1822262132051235649:True:=⟨⟩
theorem tw14786326668462689153:True:=⟨⟩
theorem tw3011587151106177296:True:=⟨⟩
theorem tw6249487657498575992:True:=⟨⟩
theorem tw4195779254473156108:True:=⟨⟩
theorem tw896611576353865632:True:=⟨⟩
theorem tw4785405447042034770:True:=⟨⟩
theorem tw11601133538961366523:True:=⟨⟩
theorem tw5678062782124291206:True:=⟨⟩
theorem tw2493637649343512185:True:=⟨⟩
theorem tw7374921638349739304:True:=⟨⟩
theorem tw4299185392401044968:True:=⟨⟩
theorem tw14477760000208295475:True:=⟨⟩
theorem tw206792781071543000:True:=⟨⟩
theorem tw5192354272486920185:True:=⟨⟩
theorem tw2543151608682402740:True:=⟨⟩
theorem tw604107238530634217:True:=⟨⟩
theorem tw13088924179629311796:True:=⟨⟩
theorem tw10700234712696240546:True:=⟨⟩
theorem tw14200379734938135074:True:=⟨⟩
theorem tw9652449546272396202:True:=⟨⟩
theorem tw3832866354539123577:True:=⟨⟩
theorem tw4331213093270390715:True:=⟨⟩
theorem tw1116955141034087183:True:=⟨⟩
theorem tw12789951303676714316:True:=⟨⟩
theorem tw3910511541702203252:True:=⟨⟩
theorem tw15294714722167632720:True:=⟨⟩
theorem tw11647656095262408830:True:=⟨⟩
theorem tw7826609423755732330:True:=⟨⟩
theorem tw5996147144397868798:True:=⟨⟩
theorem tw16424062024071291950:True:=⟨⟩
theorem tw11620387202598422155:True:=⟨⟩
theorem tw13513823062349662753:True:=⟨⟩
theorem tw10431536244243622829:True:=⟨⟩
theorem tw1455986128241355554:True:=⟨⟩
theorem tw2477246440737013971:True:=⟨⟩
theorem tw15239907466679543680:True:=⟨⟩
theorem tw15988333604579681371:True:=⟨⟩
theorem tw5009503950540217462:True:=⟨⟩
theorem tw6865544949782942855:True:=⟨⟩
theorem tw14264788692495388614:True:=⟨⟩
theorem tw11271349160385720871:True:=⟨⟩
theorem tw15384668397401609125:True:=⟨⟩
theorem tw7366377298660756313:True:=⟨⟩
theorem tw15474923005007186430:True:=⟨⟩
theorem tw7793309626995032188:True:=⟨⟩
theorem tw14960042716328871525:True:=⟨⟩
theorem tw15878775638091702870:True:=⟨⟩
theorem tw10319455588883071317:True:=⟨⟩
theorem tw4977193740099789987:True:=⟨⟩
theorem tw12634885144407505078:True:=⟨⟩
theorem tw13581792311095182037:True:=⟨⟩
theorem tw11049890972409583978:True:=⟨⟩
theorem tw6984353830961280937:True:=⟨⟩
theorem tw12071492372780520397:True:=⟨⟩
theorem tw8877067976953205924:True:=⟨⟩
theorem tw12422719052786987183:True:=⟨⟩
theorem tw17992006888671852030:True:=⟨⟩
theorem tw58726928794690142:True:=⟨⟩
theorem tw16101859838899361121:True:=⟨⟩
theorem tw10556573550501220572:True:=⟨⟩
theorem tw16699426517696734453:True:=⟨⟩
theorem tw2852953410595851731:True:=⟨⟩
theorem tw5591587854263062113:True:=⟨⟩
theorem tw7499874086170081573:True:=⟨⟩
theorem tw8247384516523357494:True:=⟨⟩
theorem tw8610203841450302485:True:=⟨⟩
theorem tw1070987052681662196:True:=⟨⟩
theorem tw6579743989065365565:True:=⟨⟩
theorem tw16443809512349610333:True:=⟨⟩
theorem tw13672453882802375244:True:=⟨⟩
theorem tw880319299458581717:True:=⟨⟩
theorem tw1028063826574156391:True:=⟨⟩
theorem tw16510823574550758718:True:=⟨⟩
theorem tw5879215556199663429:True:=⟨⟩
theorem tw11784367458460958007:True:=⟨⟩
theorem tw11909222509992718391:True:=⟨⟩
theorem tw6596932734219878999:True:=⟨⟩
theorem tw11414966666874613274:True:=⟨⟩
theorem tw6173044929692029827:True:=⟨⟩
theorem tw5570455769119604277:True:=⟨⟩
theorem tw9375744165684994054:True:=⟨⟩
theorem tw5157167882306276510:True:=⟨⟩
theorem tw15606163808935504040:True:=⟨⟩
theorem tw5912699239148302730:True:=⟨⟩
theorem tw17193010745799443905:True:=⟨⟩
theorem tw6380821784927441927:True:=⟨⟩
theorem tw8138363846893703628:True:=⟨⟩
theorem tw13345858423751153318:True:=⟨⟩
theorem tw1388598352930190891:True:=⟨⟩
theorem tw12424911057489687597:True:=⟨⟩
theorem tw5977056095370337741:True:=⟨⟩
theorem tw6767973918349560022:True:=⟨⟩
theorem tw12970129903639996928:True:=⟨⟩
theorem tw13401483861005571934:True:=⟨⟩
theorem tw12533881934854280829:True:=⟨⟩
theorem tw9141932083047952793:True:=⟨⟩
theorem tw1670696931379338166:True:=⟨⟩
theorem tw8599826558882998224:True:=⟨⟩
theorem tw19387871957239722:True:=⟨⟩
theorem tw15310228816129099849:True:=⟨⟩
theorem tw14672457679355180532:True:=⟨⟩
theorem tw13896011969469623369:True:=⟨⟩
theorem tw9049403747679710033:True:=⟨⟩
theorem tw952875785302412709:True:=⟨⟩
theorem tw5831975569649061226:True:=⟨⟩
theorem tw4943304491786592415:True:=⟨⟩
theorem tw4373826301002587530:True:=⟨⟩
theorem tw18413461432890348460:True:=⟨⟩
theorem tw12316987323213172606:True:=⟨⟩
theorem tw4569879257889606289:True:=⟨⟩
theorem tw9348443358738204314:True:=⟨⟩
theorem tw15690726665864184021:True:=⟨⟩
theorem tw11764783812221688438:True:=⟨⟩
theorem tw15664185170131996098:True:=⟨⟩
theorem tw1673574756583858656:True:=⟨⟩
theorem tw3459695600336268607:True:=⟨⟩
theorem tw3938830373233523257:True:=⟨⟩
theorem tw10784812889387561225:True:=⟨⟩
theorem tw1391803288106595299:True:=⟨⟩
theorem tw12233343080960532694:True:=⟨⟩
theorem tw14593833716454582611:True:=⟨⟩
theorem tw16840359784327040897:True:=⟨⟩
theorem tw17899928750315619920:True:=⟨⟩
theorem tw16451581339993093608:True:=⟨⟩
theorem tw12571963047331947495:True:=⟨⟩
theorem tw11679053951665921580:True:=⟨⟩
theorem tw3900236323022681071:True:=⟨⟩
theorem tw8628653045130501202:True:=⟨⟩
theorem tw3068735288413403072:True:=⟨⟩
theorem tw1352498489047846030:True:=⟨⟩
theorem tw14140398061999045305:True:=⟨⟩
theorem tw12580175949877336913:True:=⟨⟩
theorem tw13160108394904419080:True:=⟨⟩
theorem tw5985045098623216426:True:=⟨⟩
theorem tw16281732426447043318:True:=⟨⟩
theorem tw10726755916748392518:True:=⟨⟩
theorem tw14174273515312270101:True:=⟨⟩
theorem tw13312681891452744990:True:=⟨⟩
theorem tw1626929604735729263:True:=⟨⟩
theorem tw12377247474169836216:True:=⟨⟩
end PySem.W.Fast
open PySem PySem.W PyProof.Rows
set_option maxRecDepth 100000 in
set_option maxHeartbeats 0 in
theorem PySem.Challenge.cw_castoff_k38_walks_refused_holds : PySem.Challenge.rw_castoff_k38_walks_refused.Holds := by
 w_on;o_law;k_head;(case hw=>w_witness2)
 k_fill
 refine L2.walk_ofKF (l:=PySem.Challenge.rw_castoff_k38_walks_refused) (n:=63) (k:=10) (x:="_law_script") (sp:=N1.sp_law) rfl (by decide) rfl ⟨rfl,by decide,by decide⟩ (fun w h Y=>PySem.W.kIn_of Y) ?F ?S
 case F=>
  intro w mg fa h KX G hmg
  refine' K38.all_mk KX G hmg ?a0 ?FF0 ?a1 ?FF1 ?a2 ?FF2 ?a3 ?FF3 ?a4 ?FF4 ?MI5 ?FF5 ?a6 ?l6 ?c6 ?k6 ?kf6 ?hc6 ?a7 ?l7 ?c7 ?k7 ?kf7 ?hc7 ?MM8 ?FF8 ?MM9 ?FF9 ?MM10 ?FF10 ?a11 ?FF11 ?a12 ?FF12 ?MM13 ?FF13 ?a14 ?FF14 ?a15 ?FF15 ?MI16 ?FF16 ?MM17 ?FF17 ?MM18 ?FF18 ?a19 ?FF19 ?a20 ?FF20 ?a21 ?FF21 ?a22 ?FF22 ?a23 ?l23 ?c23 ?n23 ?k23 ?m23 ?kf23 ?fc23 ?sc23 ?rc23 ?a24 ?l24 ?c24 ?n24 ?k24 ?m24 ?kf24 ?fc24 ?sc24 ?rc24 ?MI25 ?FF25 ?MI26 ?FF26 ?a27 ?l27 ?c27 ?ld27 ?n27 ?k27 ?m27 ?kf27 ?MI28 ?FF28 ?MI29 ?FF29 ?MI30 ?FF30 ?MM31 ?FF31 ?MM32 ?FF32 ?MM33 ?FF33 ?MM34 ?FF34 ?MM35 ?FF35 ?MM36 ?FF36 ?MM37 ?FF37 ?MM38 ?FF38 ?MM39 ?FF39 ?MM40 ?FF40 ?MM41 ?FF41 ?MM42 ?FF42 ?MM43 ?FF43 ?MM44 ?FF44 ?MM45 ?FF45 ?MM46 ?FF46 ?MM47 ?FF47 ?MM48 ?FF48 ?MM49 ?FF49 ?MM50 ?FF50 ?MM51 ?FF51 ?MM52 ?FF52 ?MM53 ?FF53 ?a54 ?FF54 ?a55 ?FF55 ?a56 ?FF56 ?a57 ?FF57 ?a58 ?FF58 ?a59 ?FF59 ?a60 ?FF60 ?a61 ?FF61 ?a62 ?FF62 ?a63 ?FF63 ?a64 ?FF64 ?a65 ?l65 ?c65 ?k65 ?Z06 ?Z0q ?Z8i ?Z6r ?Z8j ?Z4e ?Z7f ?Z8k ?Z13 ?Z7g ?Z0x ?Z8l ?Z8m ?Z9q ?Z4f ?Z6s ?Z8n ?Z2x ?Z3y ?Z1p ?Z1e ?Z2a ?Z0c ?Z1f ?Z2b ?Z2c ?Z7i ?EE_Stock ?Zo ?Z8y ?EE_Sums ?Zs ?Z8z ?EE_Rule ?Z0y ?Z0r ?Z60 ?EE_Ranked ?Z0g ?Z07 ?Z0o ?Z1c ?Z61 ?EE_Oldest ?Z0h ?Z08 ?Zw ?Z0b ?Z7j ?EE_First ?Z0s ?Z0i ?Z0w ?Z1l ?Z0z ?Z4v ?EE_Halving ?Z09 ?Z02 ?Zq ?Z03 ?Z0j ?Zk ?Z4b ?EE_Farthest ?Z04 ?Z00 ?Zp ?Zz ?Zt ?Z90 ?EE_Hand ?Z10 ?Z0t ?Z1m ?Z1d ?Z91 ?EE_Rows ?Z11 ?Z0u ?Z29 ?Z1n ?Z0p ?Z0e ?Z1o ?Z12 ?Z5f ?Z4w ?Z4x ?Z62 ?Z70 ?Z8b ?Z8c ?lA ?lNA ?sNA ?iNA ?Z5h ?Z5i ?Z5j ?Z5k ?Z5l ?Z64 ?Z65 ?Z66 ?Z67 ?Z68 ?Z72 ?Z73 ?Z74 ?Z75 ?Z76 ?Z78 ?Z79 ?Z7a ?Z7b ?Z7c ?Z4c ?Z6a ?Z6b ?Z6c ?Z6d ?Z6e ?Z6f ?Zx ?Zu ?Z4d ?Z6h ?Z6i ?Z6j ?Z6k ?Z6l ?Z6m ?Z0k ?Z0a ?Z6n ?Z4y ?Z4z ?Z1s ?Z1a ?Z1b ?Z3z ?Z3d ?Z3e ?Z2y ?Z1w ?Z1x ?Z8d ?Z7d ?Z7e ?Z23 ?Z24 ?Z25 ?Z26 ?Z27 ?Z28 ?Z2q ?Z2r ?Z2s ?Z3f ?Z2t ?Z2u ?Z2v ?Z3g ?Z3h
  case Z7i|Z8y|Z8z|Z60|Z61|Z7j|Z4v|Z4b|Z90|Z91|Z5f|Z4w|Z4x|Z62|Z70|Z8b|Z8c|a0|a1|a2|a3|a4|a6|l6|c6|k6|kf6=>k_is
  case hc6=>rfl
  case a7|l7|c7|k7|kf7=>k_is
  case hc7=>rfl
  case a11|a12|a14|a15|a19|a20|a21|a22|a23|l23|c23|n23|k23|m23|kf23|fc23|sc23|rc23|a24|l24|c24|n24|k24|m24|kf24|fc24|sc24|rc24|a27|l27|c27|ld27|n27|k27|m27|kf27|a54|a55|a56|a57|a58|a59|a60|a61|a62|a63|a64|a65|l65|c65|k65|Z06|Z0q|Z8i|Z6r|Z8j|Z4e|Z7f|Z8k|Z13|Z7g|Z0x|Z8l|Z8m|Z9q|Z4f|Z6s|Z8n|Z2x|Z3y|Z1p|Z1e|Z2a|Z0c|Z1f|Z2b|Z2c|Zo|Zs|Z0y|Z0r|Z0g|Z07|Z0o|Z1c|Z0h|Z08|Zw|Z0b|Z0s|Z0i|Z0w|Z1l|Z0z|Z09|Z02|Zq|Z03|Z0j|Zk|Z04|Z00|Zp|Zz|Zt|Z10|Z0t|Z1m|Z1d|Z11|Z0u|Z29|Z1n|Z0p|Z0e|Z1o|Z12|lA|lNA=>k_is
  case sNA|iNA=>rfl
  case Z5h|Z5i=>k_is
  case Z5j|Z5k=>rfl
  case Z5l|Z64|Z65=>k_is
  case Z66|Z67=>rfl
  case Z68|Z72|Z73=>k_is
  case Z74|Z75=>rfl
  case Z76|Z78|Z79=>k_is
  case Z7a|Z7b=>rfl
  case Z7c|Z4c|Z6a=>k_is
  case Z6b|Z6c=>rfl
  case Z6d|Z6e|Z6f|Zx|Zu|Z4d|Z6h=>k_is
  case Z6i|Z6j=>rfl
  case Z6k|Z6l|Z6m|Z0k|Z0a|Z6n|Z4y|Z4z|Z1s|Z1a|Z1b|Z3z|Z3d|Z3e|Z2y|Z1w|Z1x|Z8d|Z7d|Z7e|Z23|Z24|Z25|Z26|Z27|Z28|Z2q|Z2r|Z2s|Z3f|Z2t|Z2u|Z2v|Z3g|Z3h=>k_is
  case EE_Stock|EE_Sums|EE_Rule|EE_Ranked|EE_Oldest|EE_First|EE_Halving|EE_Farthest|EE_Hand|EE_Rows|MI5|MI16|MI25|MI26|MI28|MI29|MI30=>refine' ⟨?j1,?j2,?j3,?j4⟩;case j1|j2|j3|j4=>k_is
  case MM8|MM9|MM10|MM13|MM17|MM18|MM31|MM32|MM33|MM34|MM35|MM36|MM37|MM38|MM39|MM40|MM41|MM42|MM43|MM44|MM45|MM46|MM47|MM48|MM49|MM50|MM51|MM52|MM53=>refine' ⟨?j1,?j2,?j3⟩;case j1|j2|j3=>k_is
  case FF0|FF1|FF2|FF3|FF4|FF5|FF8|FF9|FF10|FF11|FF12|FF13|FF14|FF15|FF16|FF17|FF18|FF19|FF20|FF21|FF22|FF25|FF26|FF28|FF29|FF30|FF31|FF32|FF33|FF34|FF35|FF36|FF37|FF38|FF39|FF40|FF41|FF42|FF43|FF44|FF45|FF46|FF47|FF48|FF49|FF50|FF51|FF52|FF53|FF54|FF55|FF56|FF57|FF58|FF59|FF60|FF61|FF62|FF63|FF64=>refine' L2.fun_mk ?l ?c ?k;case l|c|k=>k_is
 case S=>exact fun K H a ns hl hO hS=>⟨a,ns,rfl,hS,hl,fun _=>rfl⟩
