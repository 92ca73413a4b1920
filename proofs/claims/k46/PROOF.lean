import PyProof.Rows.All
import KE.KSuperObj
import KE.KPairComp
import KE.KUnpack
import KE.KEqDict
import KE.KFromBytes
import KE.KMinKey
import KE.KIntText
import KE.KRevIter
import KE.KDictOf
import KE.KTryMore
import KE.KBoundM
import KE.KNestM
import KE.KLam
import PySem.Challenge.RW_castoff_k46_whole_all_ways_walked
set_option linter.all false
set_option Elab.async false
set_option maxRecDepth 100000
set_option maxHeartbeats 4000000
open PySem PySem.Spec PyProof.Rows
namespace L2
noncomputable abbrev Key:=Sum Int Str
noncomputable def keyIs:Key→Value→Bool
 | .inl k,v=>Value.isInt k v
 | .inr x,v=>Value.isStrOf x v
noncomputable def keyH(w:World):Key→Int
 | .inl k=>hashInt k
 | .inr x=>hashStr w x
theorem keyIs_shape:∀{k:Key} {v:Value},keyIs k v=true→(∃i t,k=Sum.inl i∧v=Value.int i t)∨(∃x t,k=Sum.inr x∧v=Value.str x t)
 | .inl i,v,h=>by
  obtain ⟨t,e⟩:=Value.isInt_shape (k:=i) (v:=v) h
  exact .inl ⟨i,t,rfl,e⟩
 | .inr x,v,h=>by
  obtain ⟨t,e⟩:=Value.isStrOf_shape (x:=x) (v:=v) h
  exact .inr ⟨x,t,rfl,e⟩
theorem keyIs_int(i:Int)(t:Tok):keyIs (.inl i) (.int i t)=true:=by simp [keyIs,Value.isInt]
theorem keyIs_str(x:Str)(t:Tok):keyIs (.inr x) (.str x t)=true:=by simp [keyIs,Value.isStrOf]
theorem key_ll(a b:Int):decide ((Sum.inl a:Key)=Sum.inl b)=(a==b):=by
 by_cases e:a=b
 · subst e;simp
 · have h:¬(Sum.inl a:Key)=Sum.inl b:=fun q=>e (Sum.inl.inj q)
   rw [decide_eq_false h]
   exact (beq_eq_false_iff_ne.mpr e).symm
theorem key_rr(a b:Str):decide ((Sum.inr a:Key)=Sum.inr b)=decide (a=b):=by
 by_cases e:a=b
 · subst e;simp
 · have h:¬(Sum.inr a:Key)=Sum.inr b:=fun q=>e (Sum.inr.inj q)
   rw [decide_eq_false h,decide_eq_false e]
theorem key_lr(a:Int)(b:Str):decide ((Sum.inl a:Key)=Sum.inr b)=false:=decide_eq_false (fun q=>nomatch q)
theorem key_rl(a:Str)(b:Int):decide ((Sum.inr a:Key)=Sum.inl b)=false:=decide_eq_false (fun q=>nomatch q)
noncomputable def mixKind(prog:Program)(w:World):PySem.KeyKind prog w Key where
 is:=keyIs
 hash:=keyH w
 inj:=fun v a b ha hb=>by
  rcases keyIs_shape ha with ⟨i,t,rfl,rfl⟩ | ⟨x,t,rfl,rfl⟩
  · rcases keyIs_shape hb with ⟨j,u,rfl,e⟩ | ⟨y,u,rfl,e⟩
    · injection e with e1 _;rw [e1]
    · exact nomatch e
  · rcases keyIs_shape hb with ⟨j,u,rfl,e⟩ | ⟨y,u,rfl,e⟩
    · exact nomatch e
    · injection e with e1 _;rw [e1]
 byValue:=fun k v h=>by
   rcases keyIs_shape h with ⟨i,t,rfl,rfl⟩ | ⟨x,t,rfl,rfl⟩ <;> rfl
 pyHash:=fun hv h=>by
  rcases keyIs_shape hv with ⟨i,t,rfl,rfl⟩ | ⟨x,t,rfl,rfl⟩
  · exact wpAny_pyHash_int h
  · exact wpAny_pyHash_str h
 eqBool:=fun hu hv h=>by
  rcases keyIs_shape hu with ⟨i,t,rfl,rfl⟩ | ⟨x,t,rfl,rfl⟩
  · rcases keyIs_shape hv with ⟨j,u,rfl,rfl⟩ | ⟨y,u,rfl,rfl⟩
    · rw [key_ll]at h;exact wpAny_eqBool_int h
    · rw [key_lr]at h;exact SeqAt.EqAt.int_str i t y u _ _ _ _ h
  · rcases keyIs_shape hv with ⟨j,u,rfl,rfl⟩ | ⟨y,u,rfl,rfl⟩
    · rw [key_rl]at h;exact SeqAt.EqAt.str_int x t j u _ _ _ _ h
    · rw [key_rr]at h;exact wpAny_eqBool_str h
 «strs»:=fun k x t v h=>by
  rcases keyIs_shape h with ⟨i,u,rfl,e⟩ | ⟨y,u,rfl,e⟩
  · exact nomatch e
  · injection e with e1 _
    subst e1
    cases v <;> rfl
theorem mixKind_int(prog:Program)(w:World)(i:Int)(t:Tok):(mixKind prog w).is (.inl i) (.int i t)=true:=keyIs_int i t
theorem mixKind_str(prog:Program)(w:World)(x:Str)(t:Tok):(mixKind prog w).is (.inr x) (.str x t)=true:=keyIs_str x t
end L2
namespace L2
inductive V where
 | non | bl (b:Bool) | int (i:Int) | str (x:Str) | byt (b:Array UInt8) | flt (b:UInt64) | ref (a:Addr) | ty (n:String)
 deriving DecidableEq
noncomputable def RelV:V→Value→Prop
 | .non,u=>u=Value.none
 | .bl b,u=>u=Value.bool b
 | .int i,u=>∃t,u=Value.int i t
 | .str x,u=>∃t,u=Value.str x t
 | .byt b,u=>∃t,u=Value.bytes b t
 | .flt b,u=>∃t,u=Value.float b t
 | .ref a,u=>u=Value.ref a
 | .ty n,u=>u=Value.type n
noncomputable abbrev Vals:List V→List Value→Prop:=Paired RelV
theorem Vals.length{xs:List V}{us:List Value}(r:Vals xs us):xs.length=us.length:=Paired.length r
theorem Vals.get:∀{xs:List V} {us:List Value} {i:Nat} {x:V},Vals xs us→xs[i]?=some x→∃u,us[i]?=some u∧RelV x u
 | _,_,_,_,.nil,e=>by simp at e
 | _,_,0,_,.cons r _,e=>by simp at e;subst e;exact ⟨_,rfl,r⟩
 | _,_,i+1,x,.cons _ t,e=>by
  obtain ⟨u,h1,h2⟩:=Vals.get (i:=i) (x:=x) t (by simpa using e)
  exact ⟨u,by simpa using h1,h2⟩
theorem Vals.append:∀{xs ys:List V} {us ws:List Value},Vals xs us→Vals ys ws→Vals (xs++ys) (us++ws)
 | _,_,_,_,.nil,s=>s
 | _,_,_,_,.cons r t,s=> .cons r (Vals.append t s)
theorem Vals.take:∀{xs:List V} {us:List Value} (n:Nat),Vals xs us→Vals (xs.take n) (us.take n)
 | _,_,0,_=> .nil
 | _,_,_+1,.nil=> .nil
 | _,_,n+1,.cons r t=> .cons r (Vals.take n t)
theorem Vals.drop:∀{xs:List V} {us:List Value} (n:Nat),Vals xs us→Vals (xs.drop n) (us.drop n)
 | _,_,0,r=>r
 | _,_,_+1,.nil=> .nil
 | _,_,n+1,.cons _ t=>Vals.drop n t
noncomputable def RelO:Option V→Option Value→Prop
 | some v,some u=>RelV v u
 | none,none=>True
 | _,_=>False
noncomputable def KV{κ:Type}:List (κ×V)→List (κ×Value)→Prop:=Paired fun (p:κ×V) (q:κ×Value)=>p.1=q.1∧RelV p.2 q.2
noncomputable def kV:Key→V
 | .inl i=> .int i
 | .inr x=> .str x
inductive HO where
 | lst (xs:List V)
 | tup (xs:List V)
 | dK (kvs:List (Key×V)) | dT (kvs:List (List Key×V))
 | set (S:Int→Bool) (n:Nat)
 | ins (C dx:Addr) (fs:List (Str×V))
 | own (x:Addr)
 | xd (fs:List (Str×V))
 | met (f x:Addr)
 | rng (lo hi:Int)
 | frz (o:Obj) (u:HO)
 | tbl (ps:Array Value)
 | ext (φ:Heap→Prop)
noncomputable abbrev Hp:=Addr→Option HO
noncomputable def upd(H:Hp)(a:Addr)(o:HO):Hp:=fun b=>if b=a then some o else H b
theorem upd_same{H:Hp}{a:Addr}{o:HO}:upd H a o a=some o:=by unfold upd;rw [if_pos rfl]
theorem upd_ne{H:Hp}{a b:Addr}{o:HO}(h:b≠a):upd H a o b=H b:=by unfold upd;rw [if_neg h]
theorem upd_upd{H:Hp}{a:Addr}{o u:HO}:upd (upd H a o) a u=upd H a u:=by
 funext b;unfold upd;split <;> rfl
theorem ne_of{H:Hp}{a b:Addr}{o u:HO}(h:H a=some o)(h':H b=some u)(d:o≠u):a≠b:=by
 intro e;subst e;rw [h]at h';exact d (Option.some.inj h')
theorem ne_of_none{H:Hp}{a b:Addr}{o:HO}(h:H a=some o)(h':H b=none):a≠b:=by
 intro e;subst e;rw [h]at h';cases h'
section
variable (P:Program) (w:World)
noncomputable def ObjOk(H:Hp)(h:Heap)(a:Addr):HO→Prop
 | .lst xs=>xs.length≤sizeLine∧∃(its:List Value) (n:Nat),Vals xs its∧h.get? a=some {cls:= .type "list",data:= .seq its.toArray n}
 | .tup xs=>xs.length≤sizeLine∧∃its:List Value,Vals xs its∧IsTup h a its.toArray
 | .dK kvs=>kvs.length≤sizeLine∧(a==sysModules)=false∧∃vs,KV kvs vs∧h.DictOf (mixKind P w) a vs
 | .dT kvs=>kvs.length≤sizeLine∧(a==sysModules)=false∧∃xs:List (List Key×Addr×Value),
  Paired (fun (p:List Key×V) (q:List Key×Addr×Value)=>p.1=q.1∧H q.2.1=some (.tup (p.1.map kV))∧RelV p.2 q.2.2) kvs xs∧
  ∃o es ep,h.get? a=some o∧o.ExactDict∧o.data= .dict es ep∧es.toList=xs.map (entryOfKey (tupleKind (mixKind P w)))∧(xs.map (·.1)).Nodup
 | .set S n=>h.SetOf (intKind P w) a S n
 | .ins C dx fs=>H dx=some (.own a)∧fs.length≤1000∧dx≠a∧h.get? a=some (PySem.W.instObj C dx)∧
  ∃mA,h.Ns1 dx mA∧(∀f,RelO (fs.lookup f) (mA f))∧PySem.Within mA (fs.map (·.1))
 | .own _=>∃o,h.get? a=some o
 | .xd fs=>∃mA,h.Ns1 a mA∧∀f,RelO (fs.lookup f) (mA f)
 | .rng lo hi=>∃t u v,h.get? a=some {cls:= .type "range",data:= .fields #[.int lo t,.int hi u,.int 1 v]}
 | .frz o u=>h.get? a=some o∧ObjOk H h a u
 | .tbl ps=>h.get? a=some {cls:= .none,data:= .fields ps}
 | .met f x=>h.get? a=some (PySem.W.methodObj (.ref f) (.ref x))
 | .ext φ=>φ h∧(∃o,h.get? a=some o)∧∀h1 h2:Heap,φ h1→(∀o,h1.get? a=some o→h2.get? a=some o)→φ h2
noncomputable def HOk(H:Hp)(h:Heap):Prop:=∀a o,H a=some o→ObjOk P w H h a o
end
section
variable {P:Program} {w:World} {H H':Hp} {h h':Heap} {a:Addr} {o:HO}
theorem ObjOk.lt(x:ObjOk P w H h a o):a < h.objs.size:=by
 cases o with
 | lst xs=>obtain ⟨_,_,_,_,e⟩:=x;exact Heap.lt_size e
 | tup xs=>obtain ⟨_,_,_,p⟩:=x;exact p.lt
 | dK kvs=>obtain ⟨_,_,_,_,o,_,_,e,_⟩:=x;exact Heap.lt_size e
 | dT kvs=>obtain ⟨_,_,_,_,o,_,_,e,_⟩:=x;exact Heap.lt_size e
 | set S n=>obtain ⟨o,_,_,_,e,_⟩:=x;exact Heap.lt_size e
 | ins C dx fs=>obtain ⟨_,_,_,e,_⟩:=x;exact Heap.lt_size e
 | own y=>obtain ⟨_,e⟩:=x;exact Heap.lt_size e
 | xd fs=>obtain ⟨_,⟨_,_,_,e,_⟩,_⟩:=x;exact Heap.lt_size e
 | rng lo hi=>obtain ⟨_,_,_,e⟩:=x;exact Heap.lt_size e
 | frz ob u=>obtain ⟨e,_⟩:=x;exact Heap.lt_size e
 | tbl ps=>exact Heap.lt_size (show h.get? a=some _ from x)
 | met f y=>exact Heap.lt_size (show h.get? a=some _ from x)
 | ext φ=>obtain ⟨_,⟨_,e⟩,_⟩:=x;exact Heap.lt_size e
theorem Paired.mapP{α β:Type}{F G:α→β→Prop}:∀{l₁:List α} {l₂:List β},Paired F l₁ l₂→(∀a b,F a b→G a b)→Paired G l₁ l₂
 | _,_,.nil,_=> .nil
 | _,_,.cons r t,f=> .cons (f _ _ r) (Paired.mapP t f)
theorem ObjOk.stay(x:ObjOk P w H h a o)(k:∀b u,(b=a∨H b=some (.own a))→h.get? b=some u→h'.get? b=some u)
 (ho:∀b,H b=some (.own a)→H' b=some (.own a)) (ht:∀b xs,H b=some (.tup xs)→H' b=some (.tup xs)):ObjOk P w H' h' a o:=by
 induction o with
 | lst xs=>obtain ⟨z,its,n,r,e⟩:=x;exact ⟨z,its,n,r,k _ _ (.inl rfl) e⟩
 | tup xs=>obtain ⟨z,its,r,ob,e,c⟩:=x;exact ⟨z,its,r,ob,k _ _ (.inl rfl) e,c⟩
 | dK kvs=>obtain ⟨z,y,vs,r,ob,es,ep,e,c⟩:=x;exact ⟨z,y,vs,r,ob,es,ep,k _ _ (.inl rfl) e,c⟩
 | dT kvs=>
  obtain ⟨z,y,xs,r,ob,es,ep,e,c⟩:=x
  exact ⟨z,y,xs,Paired.mapP r fun p q z=>⟨z.1,ht _ _ z.2.1,z.2.2⟩,ob,es,ep,k _ _ (.inl rfl) e,c⟩
 | set S n=>obtain ⟨ob,es,ep,t,e,c⟩:=x;exact ⟨ob,es,ep,t,k _ _ (.inl rfl) e,c⟩
 | ins C dx fs=>
  obtain ⟨d,z,ne,e,mA,⟨od,es,ep,e2,c⟩,r⟩:=x
  exact ⟨ho _ d,z,ne,k _ _ (.inl rfl) e,mA,⟨od,es,ep,k _ _ (.inr d) e2,c⟩,r⟩
 | own y=>obtain ⟨ob,e⟩:=x;exact ⟨ob,k _ _ (.inl rfl) e⟩
 | xd fs=>obtain ⟨mA,⟨od,es,ep,e,c⟩,r⟩:=x;exact ⟨mA,⟨od,es,ep,k _ _ (.inl rfl) e,c⟩,r⟩
 | rng lo hi=>obtain ⟨t,u,v,e⟩:=x;exact ⟨t,u,v,k _ _ (.inl rfl) e⟩
 | frz ob u ih=>obtain ⟨e,q⟩:=x;exact ⟨k _ _ (.inl rfl) e,ih q⟩
 | tbl ps=>
  have e:h.get? a=some {cls:= .none,data:= .fields ps}:=x
  show h'.get? a=some {cls:= .none,data:= .fields ps}
  exact k a _ (.inl rfl) e
 | met f y=>
  have e:h.get? a=some (PySem.W.methodObj (.ref f) (.ref y)):=x
  show h'.get? a=some (PySem.W.methodObj (.ref f) (.ref y))
  exact k a _ (.inl rfl) e
 | ext φ=>obtain ⟨p,⟨o,e⟩,st⟩:=x;exact ⟨st _ _ p fun o q=>k _ _ (.inl rfl) q,⟨o,k _ _ (.inl rfl) e⟩,st⟩
theorem HOk.lt(x:HOk P w H h)(e:H a=some o):a < h.objs.size:=(x a o e).lt
theorem HOk.fresh(x:HOk P w H h)(e:h.objs.size≤a):H a=none:=by
 cases q:H a with
 | none=>rfl
 | some u=>exact absurd (Nat.lt_of_lt_of_le (x.lt q) e) (Nat.lt_irrefl _)
theorem HOk.kept(x:HOk P w H h)(k:∀b u,h.get? b=some u→h'.get? b=some u):HOk P w H h':=fun a o e=>
 (x a o e).stay (fun b u _ q=>k b u q) (fun _ q=>q) fun _ _ q=>q
theorem HOk.laid(x:HOk P w H h)(k:∀b u,h.get? b=some u→h'.get? b=some u)(hp:h.objs.size≤a)(new:ObjOk P w (upd H a o) h' a o):HOk P w (upd H a o) h':=fun b u e=>by
 have hn:=x.fresh hp
 by_cases hb:b=a
 · subst hb;rw [upd_same]at e;cases e;exact new
 · rw [upd_ne hb]at e
   exact (x b u e).stay (fun c v _ q=>k c v q) (fun c q=>by rw [upd_ne (ne_of_none q hn)];exact q) fun c xs q=>by rw [upd_ne (ne_of_none q hn)];exact q
end
noncomputable def Rd(H:Hp)(a:Addr)(u:HO):Prop:=H a=some u∨∃o,H a=some (.frz o u)
theorem Rd.ok{P:Program}{w:World}{H:Hp}{h:Heap}{a:Addr}{u:HO}(r:Rd H a u)(x:HOk P w H h):ObjOk P w H h a u:=by
 rcases r with r | ⟨o,r⟩
 · exact x a u r
 · obtain ⟨_,q⟩:=x a _ r
   exact q
noncomputable def Mut:Option HO→Prop
 | some (.lst _)=>True
 | some (.dK _)=>True
 | some (.dT _)=>True
 | some (.set _ _)=>True
 | some (.ins _ _ _)=>True
 | some (.ext _)=>True
 | _=>False
section
variable {P:Program} {w:World} {H:Hp} {h h':Heap} {x e:Addr} {o':HO}
theorem HOk.write(ok:HOk P w H h)(mu:Mut (H x))(he:e=x∨H e=some (.own x))(k:∀b u,b≠e→h.get? b=some u→h'.get? b=some u)(heo:∃u,h'.get? e=some u)
 (new:ObjOk P w (upd H x o') h' x o'):HOk P w (upd H x o') h':=fun b u q=>by
 have nown:∀c y,H c=some (.own y)→c≠x:=fun c y r z=>by subst z;rw [r]at mu;exact mu
 have ntup:∀c xs,H c=some (.tup xs)→c≠x:=fun c xs r z=>by subst z;rw [r]at mu;exact mu
 by_cases hb:b=x
 · subst hb;rw [upd_same]at q;cases q;exact new
 · rw [upd_ne hb]at q
   by_cases hbe:b=e
   · have q':H b=some (.own x):=by
      rcases he with z | z
      · exact absurd (hbe.trans z) hb
      · rw [hbe];exact z
     rw [q]at q';cases q'
     obtain ⟨v,hv⟩:=heo
     exact ⟨v,by rw [hbe];exact hv⟩
   · refine (ok b u q).stay (fun c v hc r=>k c v ?_ r) (fun c r=>by rw [upd_ne (nown c b r)];exact r) fun c xs r=>by rw [upd_ne (ntup c xs r)];exact r
     rcases hc with rfl | hc
     · exact hbe
     · rintro rfl
       rcases he with z | z
       · exact nown c b hc z
       · rw [hc]at z;cases z;exact hb rfl
end
structure Un(fs ex:List Addr)(H H':Hp)(h h':Heap):Prop where
 keep:∀b o,h.get? b=some o→H b=none→b∉fs→b∉ex→h'.get? b=some o
 slot:∀b o,h.get? b=some o→H b=none→b∈fs→b∉ex→∃sl,h'.get? b=some {o with slots:=sl}
 free:∀b o,h.get? b=some o→H b=none→b∉ex→H' b=none
 there:∀b o,h.get? b=some o→b∉ex→∃o',h'.get? b=some o'
 tups:∀b xs,H b=some (.tup xs)→H' b=some (.tup xs)
 frzs:∀b o u,H b=some (.frz o u)→H' b=some (.frz o u)
 tbls:∀b ps,H b=some (.tbl ps)→∃more,H' b=some (.tbl (ps++more))
section
variable {fs fs' ex ex':List Addr} {H H1 H2:Hp} {h h1 h2 h':Heap} {a x e:Addr} {o:HO}
theorem Un.any(u:Un fs ex H H1 h h1){b:Addr}{ob:Obj}(q:h.get? b=some ob)(n:H b=none)(hx:b∉ex):∃sl,h1.get? b=some {ob with slots:=sl}:=by
 by_cases hb:b∈fs
 · exact u.slot b ob q n hb hx
 · exact ⟨ob.slots,u.keep b ob q n hb hx⟩
theorem Un.kept(k:∀b u,h.get? b=some u→h'.get? b=some u):Un fs ex H H h h':=
 ⟨fun b ob q _ _ _=>k b ob q,fun b ob q _ _ _=>⟨ob.slots,k b ob q⟩,fun _ _ _ n _=>n,fun b ob q _=>⟨ob,k b ob q⟩,fun _ _ q=>q,fun _ _ _ q=>q,fun _ ps q=>⟨#[],by rw [q];simp⟩⟩
theorem Un.refl:Un fs ex H H h h:=Un.kept fun _ _ q=>q
theorem Un.laid(k:∀b u,h.get? b=some u→h'.get? b=some u)(hp:h.objs.size≤a)(hn:H a=none):Un fs ex H (upd H a o) h h' where
 keep:=fun b u q _ _ _=>k b u q
 slot:=fun b u q _ _ _=>⟨u.slots,k b u q⟩
 free:=fun b u q n _=>by rw [upd_ne (Nat.ne_of_lt (Nat.lt_of_lt_of_le (Heap.lt_size q) hp))];exact n
 there:=fun b u q _=>⟨u,k b u q⟩
 tups:=fun b xs q=>by rw [upd_ne (ne_of_none q hn)];exact q
 frzs:=fun b u xs q=>by rw [upd_ne (ne_of_none q hn)];exact q
 tbls:=fun b ps q=>⟨#[],by rw [upd_ne (ne_of_none q hn),q];simp⟩
theorem Un.write(mu:Mut (H x))(he:e=x∨H e=some (.own x))(k:∀b u,b≠e→h.get? b=some u→h'.get? b=some u)(heo:∃u,h'.get? e=some u):Un fs ex H (upd H x o) h h':=by
 have hx:∀b,H b=none→b≠x:=fun b n z=>by subst z;rw [n]at mu;exact mu
 have hb:∀b,H b=none→b≠e:=fun b n z=>by
  subst z
  rcases he with r | r
  · exact hx b n r
  · rw [n]at r;cases r
 have hm:∀b u,H b=some u→¬Mut (some u)→b≠x:=fun b u q nm z=>by subst z;rw [q]at mu;exact nm mu
 refine ⟨fun b u q n _ _=>k b u (hb b n) q,fun b u q n _ _=>⟨u.slots,k b u (hb b n) q⟩,fun b u q n _=>by rw [upd_ne (hx b n)];exact n,fun b u q _=>?_,
  fun b xs q=>by rw [upd_ne (hm b _ q fun z=>z)];exact q,fun b u xs q=>by rw [upd_ne (hm b _ q fun z=>z)];exact q,fun b ps q=>⟨#[],by rw [upd_ne (hm b _ q fun z=>z),q];simp⟩⟩
 by_cases hbe:b=e
 · subst hbe;exact heo
 · exact ⟨u,k b u hbe q⟩
end
noncomputable def trk(h:Heap)(H:Hp):List Addr:=(List.range h.objs.size).filter fun a=>(H a).isSome
noncomputable def hidT(h:Heap)(H:Hp):Heap:=PySem.W.hideAll h (trk h H)
theorem hidT_size(h:Heap)(H:Hp):(hidT h H).objs.size=h.objs.size:=PySem.W.hideAll_size _ _
theorem hidT_get{h:Heap}{H:Hp}{b:Addr}{o:Obj}(e:h.get? b=some o)(n:H b=none):(hidT h H).get? b=some o:=
 PySem.W.hideAll_get _ e fun hm=>by
  have q:(H b).isSome=true:=(List.mem_filter.mp hm).2
  rw [n]at q;simp at q
theorem of_hidT{h:Heap}{H:Hp}{b:Addr}{o:Obj}(e:(hidT h H).get? b=some o):h.get? b=some o∧H b=none:=by
 have e':h.get? b=some o:=PySem.W.of_hideAll (trk h H) e
 refine ⟨e',?_⟩
 cases q:H b with
 | none=>rfl
 | some x=>
  have hm:b∈trk h H:=List.mem_filter.mpr ⟨List.mem_range.mpr (Heap.lt_size e'),by simp [q]⟩
  have z:(hidT h H).get? b=none:=PySem.W.hideAll_none (trk h H) hm
  rw [z]at e;cases e
noncomputable def allNews(g h:Heap)(L:Addr):List (Addr×Obj):=(List.range h.objs.size).filterMap fun a=>if a=L∨(g.get? a).isSome=true then none else (h.get? a).map fun o=>(a,o)
noncomputable def rest(g h:Heap)(L d:Addr):List (Addr×Obj):=(allNews g h L).filter fun p=>decide (p.1≠d)
end L2
namespace L2
structure Mod(K:PySem.W.Frag)(mg:Str→Option Value)(base:Heap):Prop where
 kin:K.In base
 glob:base.Ns mainGlobals mg
 blt:∃mb,base.Ns builtinsNs mb∧∀x:Str,x≠"__name__"→mb x=bootBuiltins x
 nolimit:base.NoLimit
structure Cx where
 prog:Program
 w:World
 K:PySem.W.Frag
 mg:Str→Option Value
 base:Heap
 A:Around
 N:List Str
 s₀:Shared
 H₀:Hp
 env:Env
 outer:List Env
 stack:List Env
 ex:List Addr
 fn:Str→Bool
 calm:Bool
 pn:List (Addr×Obj)
 xe:Value→Shared→Prop
noncomputable def frs(l:List Env):List Addr:=l.filterMap (·.frame)
noncomputable abbrev Cx.fs(X:Cx):List Addr:=frs X.outer
noncomputable def Vis(sc:Scope)(x:Str):Prop:=sc.names.lookup x=some .local∨sc.names.lookup x=some .cell∨sc.names.lookup x=some .free
noncomputable def Loc(sc:Scope)(x:Str):Prop:=sc.names.lookup x=some .local∨sc.names.lookup x=some .cell
noncomputable def Look(env:Env)(h:Heap)(m:Str→Option Value)(x:Str)(u:Value):Prop:=
 (env.kindOf x=some .local∧m x=some u)∨((env.kindOf x=some .cell∨env.kindOf x=some .free)∧∃c,env.cells.lookup x=some c∧h.IsCell c (some u))
structure Cx.Ok(X:Cx):Prop where
 mod:Mod X.K X.mg X.base
 kind:X.env.scope.kind= .function
 glob:X.env.globals=mainGlobals
 blt:X.env.builtins=builtinsNs
 above:X.s₀.heap.objs.size≤X.env.locals
 inj:∀x y c,X.env.cells.lookup x=some c→X.env.cells.lookup y=some c→x=y
 has:∀x,(X.env.kindOf x=some .cell∨X.env.kindOf x=some .free)→∃c,X.env.cells.lookup x=some c
 cab:∀x c,X.fn x=true→X.env.cells.lookup x=some c→X.s₀.heap.objs.size≤c
 hd:X.calm=true→X.A.handled=none
 frames:X.A.frames=some X.stack
 stk:X.stack=X.outer∨(X.stack=X.env::X.outer∧X.env.frame=some X.env.locals)
 exf:∀b∈X.ex,b≠X.env.locals∧∀x c,X.env.cells.lookup x=some c→c≠b
 bs:∀b o,X.base.get? b=some o→X.s₀.heap.get? b=some o∧X.H₀ b=none
 bsz:X.base.objs.size≤X.s₀.heap.objs.size
 noex:∀b o,X.base.get? b=some o→b∉X.ex
 exfs:∀b∈X.ex,b∉X.fs
 funs:X.s₀.heap.FunFrames X.base X.outer
 frf:∀b∈X.fs,X.H₀ b=none
structure Inv(X:Cx)(pins:List (Addr×Obj))(σ:List (Option V))(H:Hp)(s:Shared):Prop where
 ok:X.Ok
 os:s.os=X.s₀.os
 bare:AllBare s.gens
 base:Un X.fs X.ex X.H₀ H X.s₀.heap s.heap
 loc:∃m,s.heap.Ns X.env.locals m∧∀(i:Nat) (x:Str) (v:V),X.N[i]?=some x→σ[i]?=some (some v)→Vis X.env.scope x→∃u,RelV v u∧Look X.env s.heap m x u
 cell:∀x c,X.env.cells.lookup x=some c→∃v,s.heap.IsCell c v
 free:H X.env.locals=none
 freeC:∀x c,X.env.cells.lookup x=some c→H c=none
 pin:∀p∈X.pn++pins,s.heap.get? p.1=some p.2∧H p.1=none∧p.1≠X.env.locals∧p.1∉X.fs∧∀v,p.2.data≠ .cell v
 hok:HOk X.prog X.w H s.heap
 len:σ.length=X.N.length
section
variable {X:Cx} {pins:List (Addr×Obj)} {σ:List (Option V)} {H H':Hp} {s:Shared} {h':Heap}
theorem Cx.Ok.nofr(ok:X.Ok){b:Addr}{o:Obj}(e:X.base.get? b=some o):b∉X.fs:=fun hb=>by
 have:=(ok.funs.mem hb).1
 rw [e]at this;cases this
theorem Inv.bs(I:Inv X pins σ H s):∀b o,X.base.get? b=some o→s.heap.get? b=some o∧H b=none:=fun b o e=>
 ⟨I.base.keep b o (I.ok.bs b o e).1 (I.ok.bs b o e).2 (I.ok.nofr e) (I.ok.noex b o e),I.base.free b o (I.ok.bs b o e).1 (I.ok.bs b o e).2 (I.ok.noex b o e)⟩
theorem Inv.bk(I:Inv X pins σ H s):∀b o,X.base.get? b=some o→s.heap.get? b=some o:=fun b o e=>(I.bs b o e).1
theorem Inv.mod(I:Inv X pins σ H s):Mod X.K X.mg X.base:=I.ok.mod
theorem Inv.kIn(I:Inv X pins σ H s):X.K.In s.heap:=I.ok.mod.kin.keeps I.bk
theorem Inv.lt(I:Inv X pins σ H s):X.env.locals < s.heap.objs.size:=let ⟨_,hn,_⟩:=I.loc;hn.lt
theorem Inv.sz(I:Inv X pins σ H s):X.s₀.heap.objs.size≤s.heap.objs.size:=Nat.le_trans I.ok.above (Nat.le_of_lt I.lt)
theorem Inv.nofs(I:Inv X pins σ H s){a:Addr}(h:s.heap.objs.size≤a):a∉X.fs:=fun hb=>by
 obtain ⟨_,o,ho,_⟩:=I.ok.funs.mem hb
 exact absurd (Nat.lt_of_lt_of_le (Heap.lt_size ho) (Nat.le_trans I.sz h)) (Nat.lt_irrefl _)
theorem Inv.cne(I:Inv X pins σ H s):∀x c,X.env.cells.lookup x=some c→c≠X.env.locals:=fun x c e z=>by
 obtain ⟨v,o,ho,hd⟩:=I.cell x c e
 obtain ⟨m,⟨o',es,ep,ho',hd',_⟩,_⟩:=I.loc
 rw [z,ho']at ho;cases ho;rw [hd']at hd;cases hd
theorem Inv.funs(I:Inv X pins σ H s):s.heap.FunFrames X.base X.outer:=by
 have all:∀(l:List Env),(∀b∈frs l,b∈X.fs)→X.s₀.heap.FunFrames X.base l→s.heap.FunFrames X.base l:=by
  intro l
  induction l with
  | nil=>intro _ _;trivial
  | cons env r ih=>
   intro hs hl
   obtain ⟨hk,⟨L,o,hf,hn,ho,hd⟩,hr⟩:=hl
   have hL:L∈X.fs:=hs L (by unfold frs;rw [List.filterMap_cons,hf];exact List.mem_cons_self)
   obtain ⟨sl,e⟩:=I.base.slot L o ho (I.ok.frf L hL) hL fun z=>I.ok.exfs L z hL
   exact ⟨hk,⟨L,_,hf,hn,e,hd⟩,ih (fun b hb=>hs b (by unfold frs;rw [List.filterMap_cons,hf];exact List.mem_cons_of_mem _ hb)) hr⟩
 exact all X.outer (fun _ hb=>hb) I.ok.funs
theorem Inv.stack(I:Inv X pins σ H s):s.heap.FunFrames X.base X.stack:=by
 rcases I.ok.stk with e | ⟨e,hf⟩
 · rw [e];exact I.funs
 · rw [e]
   obtain ⟨m,hn,_⟩:=I.loc
   refine .cons (by rw [I.ok.kind];decide) hf hn ?_ I.funs
   exact Heap.get?_none_of_le (Nat.le_trans I.ok.bsz I.ok.above)
theorem Inv.stkSub(I:Inv X pins σ H s):∀b∈frs X.stack,b∈X.env.locals::X.fs:=fun b hb=>by
 rcases I.ok.stk with e | ⟨e,hf⟩
 · rw [e]at hb;exact List.mem_cons_of_mem _ hb
 · rw [e]at hb
   unfold frs at hb
   rw [List.filterMap_cons,hf]at hb
   exact hb
theorem Inv.stkFree(I:Inv X pins σ H s):∀b∈frs X.stack,H b=none:=fun b hb=>by
 rcases List.mem_cons.mp (I.stkSub b hb) with e | hb
 · rw [e];exact I.free
 · obtain ⟨_,o,ho,_⟩:=I.ok.funs.mem hb
   exact I.base.free b o ho (I.ok.frf b hb) fun z=>I.ok.exfs b z hb
theorem Inv.step{g':Array GenState}{t':Nat}{d':Drawn}{ch:List Addr}(I:Inv X pins σ H s)
 (hch:∀b∈ch,(b∈X.ex∨X.s₀.heap.objs.size≤b)∧b≠X.env.locals∧(∀x c,X.env.cells.lookup x=some c→c≠b)∧∀p∈X.pn++pins,p.1≠b)
 (keep:∀b o,b≠X.env.locals→b∉X.fs→b∉ch→s.heap.get? b=some o→H b=none→h'.get? b=some o)
 (slot:∀b o,b≠X.env.locals→b∈X.fs→b∉ch→s.heap.get? b=some o→H b=none→∃sl,h'.get? b=some {o with slots:=sl}) (free:∀b o,b∉ch→s.heap.get? b=some o→H b=none→H' b=none)
 (there:∀b o,b∉ch→s.heap.get? b=some o→∃o',h'.get? b=some o')
 (tups:∀b xs,H b=some (.tup xs)→H' b=some (.tup xs)) (frzs:∀b o u,H b=some (.frz o u)→H' b=some (.frz o u)) (tbls:∀b ps,H b=some (.tbl ps)→∃more,H' b=some (.tbl (ps++more)))
 (ns:∀m,s.heap.Ns X.env.locals m→h'.Ns X.env.locals m) (hok:HOk X.prog X.w H' h') (hg:AllBare g'):
 Inv X pins σ H' {s with heap:=h',gens:=g',drawn:=d',toks:=t'}:=by
 have neL:∀b o,X.s₀.heap.get? b=some o→b≠X.env.locals:=fun b o e=>Nat.ne_of_lt (Nat.lt_of_lt_of_le (Heap.lt_size e) I.ok.above)
 have neC:∀b o,X.s₀.heap.get? b=some o→b∉X.ex→b∉ch:=fun b o e hx hb=>by
  rcases (hch b hb).1 with z | z
  · exact hx z
  · exact absurd (Nat.lt_of_lt_of_le (Heap.lt_size e) z) (Nat.lt_irrefl _)
 have cellK:∀x c,X.env.cells.lookup x=some c→∀v,s.heap.IsCell c v→h'.IsCell c v:=fun x c e v ⟨o,ho,hd⟩=>by
  have nch:c∉ch:=fun z=>(hch c z).2.2.1 x c e rfl
  by_cases hc:c∈X.fs
  · obtain ⟨sl,q⟩:=slot c o (I.cne x c e) hc nch ho (I.freeC x c e)
    exact ⟨_,q,hd⟩
  · exact ⟨o,keep c o (I.cne x c e) hc nch ho (I.freeC x c e),hd⟩
 refine ⟨I.ok,I.os,hg,⟨fun b o e n hb hx=>?_,fun b o e n hb hx=>?_,fun b o e n hx=>?_,fun b o e hx=>?_,fun b xs e=>tups b xs (I.base.tups b xs e),fun b o xs e=>frzs b o xs (I.base.frzs b o xs e),fun b ps e=>?_⟩,?_,fun x c e=>?_,?_,fun x c e=>?_,fun p hp=>?_,hok,I.len⟩
 · exact keep b o (neL b o e) hb (neC b o e hx) (I.base.keep b o e n hb hx) (I.base.free b o e n hx)
 · obtain ⟨sl,e1⟩:=I.base.slot b o e n hb hx
   obtain ⟨sl',e2⟩:=slot b _ (neL b o e) hb (neC b o e hx) e1 (I.base.free b o e n hx)
   exact ⟨sl',e2⟩
 · obtain ⟨o',e1⟩:=I.base.there b o e hx
   exact free b o' (neC b o e hx) e1 (I.base.free b o e n hx)
 · obtain ⟨o',e1⟩:=I.base.there b o e hx
   exact there b o' (neC b o e hx) e1
 · obtain ⟨m1,e1⟩:=I.base.tbls b ps e
   obtain ⟨m2,e2⟩:=tbls b _ e1
   exact ⟨m1++m2,by rw [e2,Array.append_assoc]⟩
 · obtain ⟨m,hn,hl⟩:=I.loc
   refine ⟨m,ns m hn,fun i x v e1 e2 e3=>?_⟩
   obtain ⟨u,r,l⟩:=hl i x v e1 e2 e3
   refine ⟨u,r,?_⟩
   rcases l with l | ⟨k,c,e,z⟩
   · exact .inl l
   · exact .inr ⟨k,c,e,cellK x c e _ z⟩
 · obtain ⟨v,z⟩:=I.cell x c e
   exact ⟨v,cellK x c e v z⟩
 · obtain ⟨m,⟨o,_,_,ho,_⟩,_⟩:=I.loc
   exact free _ o (fun z=>(hch _ z).2.1 rfl) ho I.free
 · obtain ⟨v,o,ho,hd⟩:=I.cell x c e
   exact free c o (fun z=>(hch c z).2.2.1 x c e rfl) ho (I.freeC x c e)
 · obtain ⟨e,n,ne,nf,d⟩:=I.pin p hp
   have nch:p.1∉ch:=fun z=>(hch p.1 z).2.2.2 p hp rfl
   exact ⟨keep p.1 p.2 ne nf nch e n,free p.1 p.2 nch e n,ne,nf,d⟩
theorem Inv.un{t':Nat}(I:Inv X pins σ H s)(u:Un X.fs [] H H' s.heap h')(hok:HOk X.prog X.w H' h'):Inv X pins σ H' {s with heap:=h',toks:=t'}:=by
 obtain ⟨m,⟨o,es,ep,ho,r⟩,_⟩:=id I.loc
 obtain ⟨sl,hL⟩:=u.any ho I.free (by simp)
 exact I.step (g':=s.gens) (d':=s.drawn) (ch:=[]) (fun _ z=>nomatch z) (fun b o _ hb _ e n=>u.keep b o e n hb (by simp)) (fun b o _ hb _ e n=>u.slot b o e n hb (by simp)) (fun b o _ e n=>u.free b o e n (by simp)) (fun b o _ e=>u.there b o e (by simp)) u.tups u.frzs u.tbls (fun m' hm=>by
  obtain ⟨o',es',ep',ho',r'⟩:=hm
  rw [ho]at ho';cases ho'
  exact ⟨_,es',ep',hL,r'⟩) hok I.bare
theorem Inv.call{g':Array GenState}{t':Nat}{d':Drawn}{ch:List Addr}(I:Inv X pins σ H s)(u:Un (frs X.stack) ch H H' s.heap h')(hok:HOk X.prog X.w H' h')(hg:AllBare g')
 (hch:∀b∈ch,(b∈X.ex∨X.s₀.heap.objs.size≤b)∧b≠X.env.locals∧(∀x c,X.env.cells.lookup x=some c→c≠b)∧∀p∈X.pn++pins,p.1≠b):
 Inv X pins σ H' {s with heap:=h',gens:=g',drawn:=d',toks:=t'}:=by
 obtain ⟨m,⟨o,es,ep,ho,r⟩,_⟩:=id I.loc
 obtain ⟨sl,hL⟩:=u.any ho I.free fun z=>(hch _ z).2.1 rfl
 exact I.step (ch:=ch) hch (fun b o hL hb hc e n=>u.keep b o e n (fun z=>(List.mem_cons.mp (I.stkSub b z)).elim hL hb) hc) (fun b o _ _ hc e n=>u.any e n hc) (fun b o hc e n=>u.free b o e n hc) (fun b o hc e=>u.there b o e hc) u.tups u.frzs u.tbls (fun m' hm=>by
  obtain ⟨o',es',ep',ho',r'⟩:=hm
  rw [ho]at ho';cases ho'
  exact ⟨_,es',ep',hL,r'⟩) hok hg
theorem Inv.turned{t':Nat}{it:Addr}(I:Inv X pins σ H s)(k:∀b o,b≠it→s.heap.get? b=some o→h'.get? b=some o)(hn:H it=none)(hL:it≠X.env.locals)
 (h1:it∈X.ex∨X.s₀.heap.objs.size≤it) (h2:∀x c,X.env.cells.lookup x=some c→c≠it) (h3:∀p∈X.pn++pins,p.1≠it):Inv X pins σ H {s with heap:=h',toks:=t'}:=by
 have nit:∀b u,H b=some u→b≠it:=fun b u e z=>by rw [z,hn]at e;cases e
 refine I.step (g':=s.gens) (d':=s.drawn) (ch:=[it]) (fun b hb=>?_) (fun b o _ _ hc e _=>k b o (fun z=>hc (by simp [z])) e) (fun b o _ _ hc e _=>⟨o.slots,k b o (fun z=>hc (by simp [z])) e⟩) (fun _ _ _ _ n=>n)
  (fun b o hc e=>⟨o,k b o (fun z=>hc (by simp [z])) e⟩) (fun _ _ e=>e) (fun _ _ _ e=>e) (fun b ps e=>⟨#[],by rw [e];simp⟩) (fun m hm=>?_) (fun b u e=>?_) I.bare
 · have e:b=it:=by simpa using hb
   subst e
   exact ⟨h1,hL,h2,h3⟩
 · obtain ⟨o,es,ep,ho,r⟩:=hm
   exact ⟨o,es,ep,k _ o (Ne.symm hL) ho,r⟩
 · refine (I.hok b u e).stay (fun c v hc q=>k c v ?_ q) (fun _ q=>q) fun _ _ q=>q
   rcases hc with z | z
   · rw [z];exact nit b u e
   · exact nit c _ z
theorem Inv.tok(I:Inv X pins σ H s)(t:Nat):Inv X pins σ H {s with toks:=t}:=I.un (h':=s.heap) (t':=t) Un.refl I.hok
theorem Inv.kept{t':Nat}(I:Inv X pins σ H s)(k:∀b u,s.heap.get? b=some u→h'.get? b=some u):Inv X pins σ H {s with heap:=h',toks:=t'}:=I.un (Un.kept k) (I.hok.kept k)
theorem Inv.laid{a:Addr}{o:HO}{t':Nat}(I:Inv X pins σ H s)(k:∀b u,s.heap.get? b=some u→h'.get? b=some u)(hp:s.heap.objs.size≤a)(new:ObjOk X.prog X.w (upd H a o) h' a o):
 Inv X pins σ (upd H a o) {s with heap:=h',toks:=t'}:=I.un (Un.laid k hp (I.hok.fresh hp)) (I.hok.laid k hp new)
theorem Inv.write{x e:Addr}{o:HO}{t':Nat}(I:Inv X pins σ H s)(mu:Mut (H x))(he:e=x∨H e=some (.own x))(k:∀b u,b≠e→s.heap.get? b=some u→h'.get? b=some u)(heo:∃u,h'.get? e=some u)
 (new:ObjOk X.prog X.w (upd H x o) h' x o):Inv X pins σ (upd H x o) {s with heap:=h',toks:=t'}:=I.un (Un.write mu he k heo) (I.hok.write mu he k heo new)
theorem Inv.weak{σ':List (Option V)}(I:Inv X pins σ H s)(hl:σ'.length=σ.length)(w:∀(i:Nat) v,σ'[i]?=some (some v)→σ[i]?=some (some v)):Inv X pins σ' H s:=
 ⟨I.ok,I.os,I.bare,I.base,let ⟨m,hn,hl'⟩:=I.loc;⟨m,hn,fun i x v e1 e2 e3=>hl' i x v e1 (w i v e2) e3⟩,I.cell,I.free,I.freeC,I.pin,I.hok,hl.trans I.len⟩
theorem Inv.pins_of{pins':List (Addr×Obj)}(I:Inv X pins σ H s)(h:∀p∈pins',s.heap.get? p.1=some p.2∧H p.1=none∧p.1≠X.env.locals∧p.1∉X.fs∧∀v,p.2.data≠ .cell v):Inv X pins' σ H s:=
 ⟨I.ok,I.os,I.bare,I.base,I.loc,I.cell,I.free,I.freeC,fun p hp=>(List.mem_append.mp hp).elim (fun z=>I.pin p (List.mem_append_left _ z)) (h p),I.hok,I.len⟩
theorem nodup_ix{N:List Str}(hN:N.Nodup){i j:Nat}{x:Str}(a:N[i]?=some x)(b:N[j]?=some x):i=j:=by
 obtain ⟨h1,e1⟩:=List.getElem?_eq_some_iff.mp a
 obtain ⟨h2,e2⟩:=List.getElem?_eq_some_iff.mp b
 exact (List.getElem_inj hN).mp (e1.trans e2.symm)
theorem store_ok2{M:Model}{A:Around}{E:Value→Shared→Prop}{i:Nat}{x:Str}{v:V}{u:Value}{Q:Unit→Shared→Prop}(I:Inv X pins σ H s)(hN:X.N.Nodup)(hi:X.N[i]?=some x)(hx:Loc X.env.scope x)(r:RelV v u)
 (h:∀s',Inv X pins (σ.set i (some v)) H s'→(∃a,Heap.SameBut a s.heap s'.heap∧(a=X.env.locals∨X.env.cells.lookup x=some a))→Q () s') (hf:X.fn x=true∨X.env.scope.names.lookup x=some .local:=by first | exact .inl rfl | exact .inr rfl | assumption):wpAny M A (storeName X.env x u) Q E s:=by
 obtain ⟨m,hn,hl⟩:=id I.loc
 have hcls:(X.env.scope.kind== .class || (X.env.scope.kind== .module && X.env.locals !=X.env.globals))=false:=by rw [I.ok.kind];rfl
 have hiσ:i < σ.length:=by rw [I.len];exact (List.getElem?_eq_some_iff.mp hi).1
 have cne:=I.cne
 have tracked:∀{a:Addr} {h':Heap},(∃o,s.heap.get? a=some o∧H a=none)→Heap.SameBut a s.heap h'→HOk X.prog X.w H h':=fun {a h'} ha hs b ob e=>by
  obtain ⟨_,_,hfree⟩:=ha
  refine (I.hok b ob e).stay (fun c w' hc q=>(hs.2 c ?_).trans q) (fun _ q=>q) fun _ _ q=>q
  rintro rfl
  rcases hc with rfl | hc
  · rw [hfree]at e;cases e
  · rw [hfree]at hc;cases hc
 rcases hx with hk | hk
 · refine wpAny_storeName_local hk hn (fun h' hn' hs=>?_) hcls
   obtain ⟨oL,_,_,hoL,_⟩:=id hn
   refine h _ ⟨I.ok,I.os,I.bare,⟨fun b o e n hb hx=>?_,fun b o e n hb hx=>?_,I.base.free,fun b o e hx=>?_,I.base.tups,I.base.frzs,I.base.tbls⟩,⟨_,hn',fun j y v' e1 e2 e3=>?_⟩,fun y c e=>?_,I.free,I.freeC,fun p hp=>?_,tracked ⟨oL,hoL,I.free⟩ hs,by simpa using I.len⟩ ⟨_,hs,.inl rfl⟩
   · exact (hs.2 b (Nat.ne_of_lt (Nat.lt_of_lt_of_le (Heap.lt_size e) I.ok.above))).trans (I.base.keep b o e n hb hx)
   · obtain ⟨sl,e1⟩:=I.base.slot b o e n hb hx
     exact ⟨sl,(hs.2 b (Nat.ne_of_lt (Nat.lt_of_lt_of_le (Heap.lt_size e) I.ok.above))).trans e1⟩
   · obtain ⟨o',e1⟩:=I.base.there b o e hx
     exact ⟨o',(hs.2 b (Nat.ne_of_lt (Nat.lt_of_lt_of_le (Heap.lt_size e) I.ok.above))).trans e1⟩
   · by_cases hj:j=i
     · subst hj
       rw [hi]at e1;cases e1
       rw [List.getElem?_set_self hiσ]at e2
       cases e2
       exact ⟨u,r,.inl ⟨hk,by simp⟩⟩
     · rw [List.getElem?_set_ne (Ne.symm hj)]at e2
       obtain ⟨u',r',q⟩:=hl j y v' e1 e2 e3
       refine ⟨u',r',?_⟩
       rcases q with ⟨k,e⟩ | ⟨k,c,e,z⟩
       · refine .inl ⟨k,?_⟩
         have:y≠x:=fun e=>hj (nodup_ix hN e1 (e▸hi))
         simp [this,e]
       · exact .inr ⟨k,c,e,z.sameBut hs (cne y c e)⟩
   · obtain ⟨w',z⟩:=I.cell y c e
     exact ⟨w',z.sameBut hs (cne y c e)⟩
   · obtain ⟨e,n,ne,nf,d⟩:=I.pin p hp
     exact ⟨(hs.2 p.1 ne).trans e,n,ne,nf,d⟩
 · have hfn:X.fn x=true:=by
    rcases hf with z | z
    · exact z
    · rw [z]at hk;cases hk
   obtain ⟨c,hc⟩:=I.ok.has x (.inl hk)
   obtain ⟨w',z⟩:=I.cell x c hc
   refine wpAny_storeName_cell I.ok.kind hk hc z (fun h' hc' hs=>?_)
   obtain ⟨oc,hoc,hocd⟩:=id z
   refine h {s with heap:=h'} ⟨I.ok,I.os,I.bare,⟨fun b o e n hb hx=>?_,fun b o e n hb hx=>?_,I.base.free,fun b o e hx=>?_,I.base.tups,I.base.frzs,I.base.tbls⟩,⟨m,hn.sameBut hs (Ne.symm (cne x c hc)),fun j y v' e1 e2 e3=>?_⟩,fun y c' e=>?_,I.free,I.freeC,fun p hp=>?_,tracked ⟨oc,hoc,I.freeC x c hc⟩ hs,by simpa using I.len⟩ ⟨c,hs,.inr hc⟩
   · exact (hs.2 b (Nat.ne_of_lt (Nat.lt_of_lt_of_le (Heap.lt_size e) (I.ok.cab x c hfn hc)))).trans (I.base.keep b o e n hb hx)
   · obtain ⟨sl,e1⟩:=I.base.slot b o e n hb hx
     exact ⟨sl,(hs.2 b (Nat.ne_of_lt (Nat.lt_of_lt_of_le (Heap.lt_size e) (I.ok.cab x c hfn hc)))).trans e1⟩
   · obtain ⟨o',e1⟩:=I.base.there b o e hx
     exact ⟨o',(hs.2 b (Nat.ne_of_lt (Nat.lt_of_lt_of_le (Heap.lt_size e) (I.ok.cab x c hfn hc)))).trans e1⟩
   · by_cases hj:j=i
     · subst hj
       rw [hi]at e1;cases e1
       rw [List.getElem?_set_self hiσ]at e2
       cases e2
       exact ⟨u,r,.inr ⟨.inl hk,c,hc,hc'⟩⟩
     · rw [List.getElem?_set_ne (Ne.symm hj)]at e2
       obtain ⟨u',r',q⟩:=hl j y v' e1 e2 e3
       refine ⟨u',r',?_⟩
       rcases q with q | ⟨k,c',e,z'⟩
       · exact .inl q
       · refine .inr ⟨k,c',e,z'.sameBut hs ?_⟩
         rintro rfl
         exact hj (nodup_ix hN e1 (I.ok.inj _ _ _ e hc▸hi))
   · by_cases hcc:c'=c
     · subst hcc;exact ⟨_,hc'⟩
     · obtain ⟨w2,z2⟩:=I.cell y c' e
       exact ⟨w2,z2.sameBut hs hcc⟩
   · obtain ⟨e,n,ne,nf,d⟩:=I.pin p hp
     refine ⟨(hs.2 p.1 ?_).trans e,n,ne,nf,d⟩
     intro q
     rw [q,hoc]at e
     have q':oc=p.2:=Option.some.inj e
     exact d w' (by rw [← q'];exact hocd)
theorem store_ok{M:Model}{A:Around}{E:Value→Shared→Prop}{i:Nat}{x:Str}{v:V}{u:Value}{Q:Unit→Shared→Prop}(I:Inv X pins σ H s)(hN:X.N.Nodup)(hi:X.N[i]?=some x)(hx:Loc X.env.scope x)(r:RelV v u)
 (h:∀s',Inv X pins (σ.set i (some v)) H s'→Q () s') (hf:X.fn x=true∨X.env.scope.names.lookup x=some .local:=by first | exact .inl rfl | exact .inr rfl | assumption):wpAny M A (storeName X.env x u) Q E s:=
 store_ok2 I hN hi hx r (fun s' I' _=>h s' I') hf
theorem Inv.call'{s':Shared}{ch:List Addr}(I:Inv X pins σ H s)(ho:s'.os=s.os)(u:Un (frs X.stack) ch H H' s.heap s'.heap)(hok:HOk X.prog X.w H' s'.heap)(hg:AllBare s'.gens)
 (hch:∀b∈ch,(b∈X.ex∨X.s₀.heap.objs.size≤b)∧b≠X.env.locals∧(∀x c,X.env.cells.lookup x=some c→c≠b)∧∀p∈X.pn++pins,p.1≠b):Inv X pins σ H' s':=by
 obtain ⟨h',g',d',t',o'⟩:=s'
 have e:o'=s.os:=ho
 subst e
 exact I.call (g':=g') (t':=t') (d':=d') u hok hg hch
end
noncomputable abbrev XK:=Value→Option Addr→Hp→Prop
noncomputable abbrev St:=List (Option V)
noncomputable abbrev VK:=V→Hp→Prop
noncomputable abbrev TE:=St→Hp→VK→Prop
noncomputable abbrev TT:=St→Hp→(Bool→Hp→Prop)→Prop
noncomputable abbrev TA:=St→Hp→(List V→Hp→Prop)→Prop
structure Ends where
 nx:St→Hp→Prop
 rt:VK
 bk:St→Hp→Prop:=fun _ _=>False
 ct:St→Hp→Prop:=fun _ _=>False
noncomputable abbrev TS:=Ends→St→Hp→Prop
noncomputable def EP(X:Cx)(pins:List (Addr×Obj))(σ:St)(Q:VK)(u:Value)(s':Shared):Prop:=∃v H',Inv X pins σ H' s'∧RelV v u∧Q v H'
noncomputable def TP(X:Cx)(pins:List (Addr×Obj))(σ:St)(Q:Bool→Hp→Prop)(b:Bool)(s':Shared):Prop:=∃H',Inv X pins σ H' s'∧Q b H'
noncomputable def AP(X:Cx)(pins:List (Addr×Obj))(σ:St)(Q:List V→Hp→Prop)(us:List Value)(s':Shared):Prop:=∃vs H',Inv X pins σ H' s'∧Vals vs us∧Q vs H'
noncomputable def SP(X:Cx)(pins:List (Addr×Obj))(D:Ends)(f:Flow)(s':Shared):Prop:=
 match f with
 | .next=>∃σ' H',Inv X pins σ' H' s'∧D.nx σ' H'
 | .brk=>∃σ' H',Inv X pins σ' H' s'∧D.bk σ' H'
 | .cont=>∃σ' H',Inv X pins σ' H' s'∧D.ct σ' H'
 | .ret u=>∃v σ' H',Inv X pins σ' H' s'∧RelV v u∧D.rt v H'
noncomputable def PE(X:Cx)(e:Expr)(t:TE):Prop:=
 ∀(pins:List (Addr×Obj)) (s:Shared) (σ:St) (H:Hp) (Q:VK),Inv X pins σ H s→t σ H Q→wpAny (model X.prog X.w) X.A (eval e X.env) (EP X pins σ Q) X.xe s
noncomputable def PT(X:Cx)(e:Expr)(t:TT):Prop:=
 ∀(pins:List (Addr×Obj)) (s:Shared) (σ:St) (H:Hp) (Q:Bool→Hp→Prop),Inv X pins σ H s→t σ H Q→wpAny (model X.prog X.w) X.A (isTrue e X.env (eval e X.env)) (TP X pins σ Q) X.xe s
noncomputable def PW(X:Cx)(e:Expr)(t:TT):Prop:=
 ∀(whole:Sem Value) (pins:List (Addr×Obj)) (s:Shared) (σ:St) (H:Hp) (Q:Bool→Hp→Prop),Inv X pins σ H s→t σ H Q→wpAny (model X.prog X.w) X.A (isTrue e X.env whole) (TP X pins σ Q) X.xe s
theorem PW.pt{X:Cx}{e:Expr}{t:TT}(h:PW X e t):PT X e t:=h _
noncomputable def PA(X:Cx)(es:List Expr)(t:TA):Prop:=
 ∀(pos:Pos) (pins:List (Addr×Obj)) (s:Shared) (σ:St) (H:Hp) (Q:List V→Hp→Prop),Inv X pins σ H s→t σ H Q→wpAny (model X.prog X.w) X.A (spliced (backTo pos (starEach es X.env))) (AP X pins σ Q) X.xe s
noncomputable def PS(X:Cx)(st:Stmt)(t:TS):Prop:=
 ∀(pins:List (Addr×Obj)) (s:Shared) (σ:St) (H:Hp) (D:Ends),Inv X pins σ H s→t D σ H→wpAny (model X.prog X.w) X.A (exec st X.env) (SP X pins D) X.xe s
noncomputable def PSs(X:Cx)(st:List Stmt)(t:TS):Prop:=
 ∀(pins:List (Addr×Obj)) (s:Shared) (σ:St) (H:Hp) (D:Ends),Inv X pins σ H s→t D σ H→wpAny (model X.prog X.w) X.A (execs st X.env) (SP X pins D) X.xe s
theorem thn{α:Type}{t:Sem α}{Q Q':α→Shared→Prop}{M:Model}{A:Around}{E:Value→Shared→Prop}{s:Shared}(h:wpAny M A t Q E s)(hQ:∀a s,Q a s→Q' a s):wpAny M A t Q' E s:=wpAny_mono h hQ fun _ _ x=>x
end L2
namespace L2
section
variable {X:Cx}
noncomputable def tVar(i:Nat):TE:=fun σ H Q=>∃v,σ[i]?=some (some v)∧Q v H
noncomputable def tC(v:V):TE:=fun _ H Q=>Q v H
theorem pe_var{i:Nat}{x:Str}{pos:Pos}(hN:X.N[i]?=some x)(hv:Vis X.env.scope x)(hd:(x==("__debug__":Str))=false:=by decide)(hcd:(x==("__classdict__":Str))=false:=by decide):PE X (.Name x pos) (tVar i):=by
 intro pins s σ H Q I h
 obtain ⟨v,e,h⟩:=h
 obtain ⟨m,hn,hl⟩:=I.loc
 obtain ⟨u,r,l⟩:=hl i x v hN e hv
 have fin:EP X pins σ Q u s:=⟨v,H,I,r,h⟩
 rcases l with ⟨hk,hm⟩ | ⟨hk,c,hc,hcell⟩
 · exact wpAny_Name (wpAny_loadName_local I.ok.kind hk hn hm fin) hd
 · rcases hk with hk | hk
   · exact wpAny_Name (wpAny_loadName_cell I.ok.kind hk hc hcell fin) hd
   · exact wpAny_Name (wpAny_loadName_free I.ok.kind hk hc hcell fin hcd) hd
theorem pe_int{i j pos}:PE X (.Constant (.int i) j pos) (tC (.int i)):=fun _ _ _ H _ I h=>wpAny_Constant_int ⟨.int i,H,I.tok _,⟨_,rfl⟩,h⟩
theorem pe_bl{b j pos}:PE X (.Constant (.bool b) j pos) (tC (.bl b)):=fun _ _ _ H _ I h=>Constant_bool ⟨.bl b,H,I,rfl,h⟩
theorem pe_non{j pos}:PE X (.Constant .none j pos) (tC .non):=fun _ _ _ H _ I h=>Constant_none ⟨.non,H,I,rfl,h⟩
theorem pe_str{x j pos}:PE X (.Constant (.str x) j pos) (tC (.str x)):=fun _ _ _ H _ I h=>Calls.Constant_str ⟨.str x,H,I.tok _,⟨_,rfl⟩,h⟩
noncomputable def Gl(X:Cx)(x:Str):Prop:=X.env.kindOf x=some .globalImplicit
theorem ld_glob{E:Value→Shared→Prop}{pins:List (Addr×Obj)}{s:Shared}{σ:St}{H:Hp}{x:Str}{u:Value}{pos:Pos}{Q:Value→Shared→Prop}(I:Inv X pins σ H s)(hg:Gl X x)(hm:X.mg x=some u)(h:Q u s)
 (hd:(x==("__debug__":Str))=false:=by decide):wpAny (model X.prog X.w) X.A (eval (.Name x pos) X.env) Q E s:=
 Calls.Name_function_global I.ok.kind hg (Calls.loadGlobal_global (by rw [I.ok.glob];exact I.mod.glob.keeps I.bk) hm h) hd
theorem ld_blt{E:Value→Shared→Prop}{pins:List (Addr×Obj)}{s:Shared}{σ:St}{H:Hp}{x:Str}{u:Value}{pos:Pos}{Q:Value→Shared→Prop}(I:Inv X pins σ H s)(hg:Gl X x)(hm:X.mg x=none)(hv:bootBuiltins x=some u)(h:Q u s)
 (hn:x≠"__name__":=by decide) (hd:(x==("__debug__":Str))=false:=by decide):wpAny (model X.prog X.w) X.A (eval (.Name x pos) X.env) Q E s:=by
 obtain ⟨mb,h1,h2⟩:=I.mod.blt
 exact Calls.Name_function_global I.ok.kind hg (Calls.loadGlobal_builtin (by rw [I.ok.glob];exact I.mod.glob.keeps I.bk) hm (by rw [I.ok.blt];exact h1.keeps I.bk) ((h2 x hn).trans hv) h) hd
theorem pe_glob{x:Str}{v:V}{u:Value}{pos:Pos}(hg:Gl X x)(hm:X.mg x=some u)(r:RelV v u)(hd:(x==("__debug__":Str))=false:=by decide):PE X (.Name x pos) (tC v):=
 fun _ _ _ H _ I h=>ld_glob I hg hm ⟨v,H,I,r,h⟩ hd
theorem pe_bltn{x:Str}{v:V}{u:Value}{pos:Pos}(hg:Gl X x)(hm:X.mg x=none)(hv:bootBuiltins x=some u)(r:RelV v u)(hn:x≠"__name__":=by decide)(hd:(x==("__debug__":Str))=false:=by decide):PE X (.Name x pos) (tC v):=
 fun _ _ _ H _ I h=>ld_blt I hg hm hv ⟨v,H,I,r,h⟩ hn hd
variable {a b:Expr} {ta tb:TE} {pos:Pos}
noncomputable def PC(X:Cx)(op:CmpOp)(a b:Expr)(t:TE):Prop:=
 ∀(pins:List (Addr×Obj)) (s:Shared) (σ:St) (H:Hp) (Q:VK),Inv X pins σ H s→t σ H Q→
   wpAny (model X.prog X.w) X.A (eval a X.env) (fun v s₁=>wpAny (model X.prog X.w) X.A (eval b X.env) (fun u s₂=>wpAny (model X.prog X.w) X.A (compareOp op v u) (EP X pins σ Q) X.xe s₂) X.xe s₁) X.xe s
theorem nobehind(b:Expr){op:CmpOp}(h:op≠ .In)(h2:op≠ .NotIn):behindInMarks op b=false:=by
 have e1:(op==CmpOp.In)=false:=by cases op <;> first | rfl | exact absurd rfl h
 have e2:(op==CmpOp.NotIn)=false:=by cases op <;> first | rfl | exact absurd rfl h2
 cases b <;> simp [behindInMarks,e1,e2]
noncomputable def tB(t:TE):TT:=fun σ H Q=>t σ H fun x H1=>∃c,x= .bl c∧Q c H1
theorem pe_cmp{op:CmpOp}{t:TE}(h:PC X op a b t)(h1:behindInMarks op b=false:=by first | exact nobehind _ (by decide) (by decide) | rfl):PE X (.Compare a [op] [b] pos) t:=fun pins s σ H Q I hw=>wpAny_Compare1 (h pins s σ H Q I hw) h1
theorem pt_cmp{op:CmpOp}{t:TE}(h:PC X op a b t)(h1:behindInMarks op b=false:=by first | exact nobehind _ (by decide) (by decide) | rfl):PT X (.Compare a [op] [b] pos) (tB t):=by
 intro pins s σ H Q I hw
 refine wpAny_isTrue_Compare1 (thn (h pins s σ H _ I hw) fun v s1 h1=>thn h1 fun u s2 h2=>thn h2 fun c s3 hq_=>?_) h1
 obtain ⟨x,H1,I1,r1,q1⟩:=hq_
 obtain ⟨d,rfl,q⟩:=q1
 cases r1
 exact wpAny_truthy_bool ⟨H1,I1,q⟩
theorem pt_val{e:Expr}{t:TE}(h:PE X e t)(he:∀whole,isTrue e X.env whole=(do let v ← whole;standAt e.pos;holding [v] (truthy v)):=by intro _;rfl):PT X e (tB t):=by
 intro pins s σ H Q I hw
 refine isTrue_plain (thn (h pins s σ H _ I hw) fun v s1 hq_=>?_) (he _)
 obtain ⟨x,H1,I1,r1,q1⟩:=hq_
 obtain ⟨d,rfl,q⟩:=q1
 cases r1
 exact wpAny_truthy_bool ⟨H1,I1,q⟩
variable {tA tB':TT} {rest:List Expr}
noncomputable def tAnd(t u:TT):TT:=fun σ H Q=>t σ H fun c H1=>if c=true then u σ H1 Q else Q false H1
noncomputable def tOr(t u:TT):TT:=fun σ H Q=>t σ H fun c H1=>if c=true then Q true H1 else u σ H1 Q
noncomputable def tNot(t:TT):TT:=fun σ H Q=>t σ H fun c H1=>Q (!c) H1
theorem pw_and1(ha:PT X a tA):PW X (.BoolOp .And [a] pos) tA:=by
 intro wh pins s σ H Q I h
 refine isTrue_and (thn (ha pins s σ H Q I h) fun c s1 e=>?_)
 cases c with
 | true=>exact isTrue_and_nil e
 | false=>exact e
theorem pw_or1(ha:PT X a tA):PW X (.BoolOp .Or [a] pos) tA:=by
 intro wh pins s σ H Q I h
 refine isTrue_or (thn (ha pins s σ H Q I h) fun c s1 e=>?_)
 cases c with
 | false=>exact isTrue_or_nil e
 | true=>exact e
theorem pw_and(ha:PT X a tA)(hb:PW X (.BoolOp .And (b::rest) pos) tB'):PW X (.BoolOp .And (a::b::rest) pos) (tAnd tA tB'):=by
 intro wh pins s σ H Q I h
 refine isTrue_and (thn (ha pins s σ H _ I h) fun c s1 ⟨H1,I1,q1⟩=>?_)
 cases c with
 | true=>exact hb wh pins s1 σ H1 Q I1 q1
 | false=>exact ⟨H1,I1,q1⟩
theorem pw_or(ha:PT X a tA)(hb:PW X (.BoolOp .Or (b::rest) pos) tB'):PW X (.BoolOp .Or (a::b::rest) pos) (tOr tA tB'):=by
 intro wh pins s σ H Q I h
 refine isTrue_or (thn (ha pins s σ H _ I h) fun c s1 ⟨H1,I1,q1⟩=>?_)
 cases c with
 | true=>exact ⟨H1,I1,q1⟩
 | false=>exact hb wh pins s1 σ H1 Q I1 q1
theorem pt_not(ha:PT X a tA):PT X (.UnaryOp .Not a pos) (tNot tA):=by
 intro pins s σ H Q I h
 exact isTrue_not (ha pins s σ H (fun c H1=>Q (!c) H1) I h)
noncomputable def tAndV(ta tb:TE):TE:=fun σ H Q=>ta σ H fun x H1=>∃c,x= .bl c∧if c=true then tb σ H1 Q else Q (.bl false) H1
noncomputable def tOrV(ta tb:TE):TE:=fun σ H Q=>ta σ H fun x H1=>∃c,x= .bl c∧if c=true then Q (.bl true) H1 else tb σ H1 Q
noncomputable def tNotV(ta:TE):TE:=fun σ H Q=>ta σ H fun x H1=>∃c,x= .bl c∧Q (.bl (!c)) H1
theorem pe_one{op}{t:TE}(h:PE X a t):PE X (.BoolOp op [a] pos) t:=fun pins s σ H Q I hw=>BoolOp_one (h pins s σ H Q I hw)
theorem pe_and(ha:PE X a ta)(hb:PE X (.BoolOp .And (b::rest) pos) tb):PE X (.BoolOp .And (a::b::rest) pos) (tAndV ta tb):=by
 intro pins s σ H Q I h
 refine BoolOp_and (thn (ha pins s σ H _ I h) fun v s1 hq_=>?_)
 obtain ⟨x,H1,I1,r1,q1⟩:=hq_
 obtain ⟨c,rfl,q1⟩:=q1
 cases r1
 refine wpAny_truthy_bool ?_
 cases c with
 | true=>exact hb pins s1 σ H1 Q I1 q1
 | false=>exact ⟨.bl false,H1,I1,rfl,q1⟩
theorem pe_not(ha:PE X a ta):PE X (.UnaryOp .Not a pos) (tNotV ta):=by
 intro pins s σ H Q I h
 refine UnaryOp_ (thn (ha pins s σ H _ I h) fun v s1 hq_=>?_)
 obtain ⟨x,H1,I1,r1,q1⟩:=hq_
 obtain ⟨c,rfl,q1⟩:=q1
 cases r1
 exact not_of (wpAny_truthy_bool ⟨.bl (!c),H1,I1,rfl,q1⟩)
noncomputable def tIf(t:TT)(ta tb:TE):TE:=fun σ H Q=>t σ H fun c H1=>if c=true then ta σ H1 Q else tb σ H1 Q
theorem pe_ifExp{c:Expr}(hc:PT X c tA)(ha:PE X a ta)(hb:PE X b tb):PE X (.IfExp c a b pos) (tIf tA ta tb):=by
 intro pins s σ H Q I h
 refine wpAny_IfExp (thn (hc pins s σ H _ I h) fun d s1 ⟨H1,I1,q1⟩=>?_)
 cases d with
 | true=>exact ha pins s1 σ H1 Q I1 q1
 | false=>exact hb pins s1 σ H1 Q I1 q1
end
end L2
namespace L2
noncomputable def SqL(K:PySem.W.Frag)(H:Hp)(a:Addr)(xs:List V):Prop:=
 Rd H a (.lst xs)∨
  ∃(o:Obj) (its:Array Value) (n:Nat),K.lookup a=some o∧o.cls= .type "list"∧o.dict=none∧o.data= .seq its n∧its.size≤sizeLine∧Vals xs its.toList
noncomputable def SqT(K:PySem.W.Frag)(H:Hp)(a:Addr)(xs:List V):Prop:=
 Rd H a (.tup xs)∨
  ∃(o:Obj) (its:Array Value) (n:Nat),K.lookup a=some o∧o.cls= .type "tuple"∧o.data= .seq its n∧its.size≤sizeLine∧Vals xs its.toList
noncomputable def absV:Value→Option V
 | .none=>some .non
 | .bool b=>some (.bl b)
 | .int i _=>some (.int i)
 | .str x _=>some (.str x)
 | .bytes b _=>some (.byt b)
 | .float b _=>some (.flt b)
 | .ref a=>some (.ref a)
 | .type n=>some (.ty n)
 | _=>none
theorem RelV.abs{x:V}{u:Value}(r:RelV x u):absV u=some x:=by
 cases x with
 | non=>cases r;rfl
 | bl _=>cases r;rfl
 | int _=>obtain ⟨t,rfl⟩:=r;rfl
 | str _=>obtain ⟨t,rfl⟩:=r;rfl
 | byt _=>obtain ⟨t,rfl⟩:=r;rfl
 | flt _=>obtain ⟨t,rfl⟩:=r;rfl
 | ref _=>cases r;rfl
 | ty _=>cases r;rfl
theorem RelV.inj{x y:V}{u:Value}(r:RelV x u)(q:RelV y u):x=y:=Option.some.inj (r.abs.symm.trans q.abs)
theorem Vals.inj:∀{xs ys:List V} {us:List Value},Vals xs us→Vals ys us→xs=ys
 | _,_,_,.nil,.nil=>rfl
 | _,_,_,.cons r t,.cons r' t'=>by rw [r.inj r',Vals.inj t t']
section
variable {X:Cx} {pins:List (Addr×Obj)} {σ:St} {H:Hp} {s:Shared} {a:Addr} {xs ys:List V}
theorem SqL.of{K:PySem.W.Frag}(h:H a=some (.lst xs)):SqL K H a xs:= .inl (.inl h)
theorem SqT.of{K:PySem.W.Frag}(h:H a=some (.tup xs)):SqT K H a xs:= .inl (.inl h)
theorem Inv.list(I:Inv X pins σ H s)(h:SqL X.K H a xs):∃its:List Value,Vals xs its∧PlainL s.heap a its.toArray∧xs.length≤sizeLine:=by
 rcases h with h | ⟨o,its,n,hk,hc,hd,hs,hz,r⟩
 · obtain ⟨z,its,n,r,e⟩:=h.ok I.hok
   exact ⟨its,r,⟨_,n,e,rfl,rfl,rfl⟩,z⟩
 · refine ⟨its.toList,r,⟨o,n,I.kIn a o hk,hc,hd,by simpa using hs⟩,?_⟩
   have e:=r.length
   simp only [Array.length_toList]at e
   omega
theorem Inv.tuple(I:Inv X pins σ H s)(h:SqT X.K H a xs):∃its:List Value,Vals xs its∧IsTup s.heap a its.toArray∧xs.length≤sizeLine:=by
 rcases h with h | ⟨o,its,n,hk,hc,hs,hz,r⟩
 · obtain ⟨z,its,r,p⟩:=h.ok I.hok
   exact ⟨its,r,p,z⟩
 · refine ⟨its.toList,r,⟨o,I.kIn a o hk,hc,n,by simpa using hs⟩,?_⟩
   have e:=r.length
   simp only [Array.length_toList]at e
   omega
theorem Inv.list_inj(I:Inv X pins σ H s)(h:SqL X.K H a xs)(h':SqL X.K H a ys):xs=ys:=by
 obtain ⟨its,r,⟨o,n,e,_,_,d⟩,_⟩:=I.list h
 obtain ⟨its',r',⟨o',n',e',_,_,d'⟩,_⟩:=I.list h'
 rw [e]at e';cases e'
 rw [d]at d'
 injection d' with d1 _
 have:its=its':=by simpa using congrArg Array.toList d1
 subst this
 exact r.inj r'
end
noncomputable abbrev Cx.wish(X:Cx)(E:Value→Shared→Prop):Cx:={X with xe:=E}
noncomputable abbrev Cx.nox(X:Cx):Cx:=X.wish fun _ _=>False
theorem Cx.Ok.wish{X:Cx}(ok:X.Ok)(E:Value→Shared→Prop):(X.wish E).Ok:=
 ⟨ok.mod,ok.kind,ok.glob,ok.blt,ok.above,ok.inj,ok.has,ok.cab,ok.hd,ok.frames,ok.stk,ok.exf,ok.bs,ok.bsz,ok.noex,ok.exfs,ok.funs,ok.frf⟩
theorem Cx.Ok.unwish{X:Cx}{E:Value→Shared→Prop}(ok:(X.wish E).Ok):X.Ok:=
 ⟨ok.mod,ok.kind,ok.glob,ok.blt,ok.above,ok.inj,ok.has,ok.cab,ok.hd,ok.frames,ok.stk,ok.exf,ok.bs,ok.bsz,ok.noex,ok.exfs,ok.funs,ok.frf⟩
section
variable {X:Cx} {pins:List (Addr×Obj)} {σ:St} {H:Hp} {s:Shared} {E:Value→Shared→Prop}
theorem Inv.wish(I:Inv X pins σ H s)(E:Value→Shared→Prop):Inv (X.wish E) pins σ H s:=⟨I.ok.wish E,I.os,I.bare,I.base,I.loc,I.cell,I.free,I.freeC,I.pin,I.hok,I.len⟩
theorem Inv.unwish(I:Inv (X.wish E) pins σ H s):Inv X pins σ H s:=⟨I.ok.unwish,I.os,I.bare,I.base,I.loc,I.cell,I.free,I.freeC,I.pin,I.hok,I.len⟩
theorem SP.unwish{D:Ends}{f:Flow}{s':Shared}(h:SP (X.wish E) pins D f s'):SP X pins D f s':=by
 cases f with
 | next=>obtain ⟨σ',H',I,q⟩:=h;exact ⟨σ',H',I.unwish,q⟩
 | brk=>obtain ⟨σ',H',I,q⟩:=h;exact ⟨σ',H',I.unwish,q⟩
 | cont=>obtain ⟨σ',H',I,q⟩:=h;exact ⟨σ',H',I.unwish,q⟩
 | ret u=>obtain ⟨v,σ',H',I,r,q⟩:=h;exact ⟨v,σ',H',I.unwish,r,q⟩
theorem PSs.nox{st:List Stmt}{t:TS}(h:PSs X.nox st t):PSs X st t:=fun pins s σ H D I hw=>
 wpAny_mono (h pins s σ H D (I.wish _) hw) (fun _ _ q=>q.unwish) fun _ _ z=>False.elim z
end
section
variable {X:Cx} {st:Stmt} {rest:List Stmt} {t u:TS} {e:Expr} {te:TE} {pos:Pos}
noncomputable def tNext:TS:=fun D σ H=>D.nx σ H
noncomputable def tSeq(t u:TS):TS:=fun D σ H=>t {D with nx:=u D} σ H
theorem pss_nil:PSs X [] tNext:=fun _ _ σ H _ I h=>wpAny_execs_nil ⟨σ,H,I,h⟩
theorem pss_cons(h1:PS X st t)(h2:PSs X rest u):PSs X (st::rest) (tSeq t u):=by
 intro pins s σ H D I h
 refine wpAny_execs_cons (thn (h1 pins s σ H {D with nx:=u D} I h) fun f s1 q=>?_)
 cases f with
 | next=>
  obtain ⟨σ',H',I',q⟩:=q
  exact h2 pins s1 σ' H' D I' q
 | ret v=>exact q
 | brk=>exact q
 | cont=>exact q
theorem pss_one(h1:PS X st t):PSs X [st] t:=by
 intro pins s σ H D I h
 refine wpAny_execs_cons (thn (h1 pins s σ H D I h) fun f s1 q=>?_)
 cases f with
 | next=>exact wpAny_execs_nil q
 | ret v=>exact q
 | brk=>exact q
 | cont=>exact q
noncomputable def tBreak:TS:=fun D σ H=>D.bk σ H
noncomputable def tCont:TS:=fun D σ H=>D.ct σ H
theorem Inv.quiet{pins:List (Addr×Obj)}{σ:St}{H:Hp}{s:Shared}(I:Inv X pins σ H s):interactive X.env=false:=by simp [interactive,I.ok.kind]
noncomputable def tDrop(te:TE):TS:=fun D σ H=>te σ H fun _ H1=>D.nx σ H1
theorem ps_expr(he:PE X e te)(hs:swapsWith e none pos.line X.env=pure false:=by rfl):PS X (.Expr e pos) (tDrop te):=by
 intro pins s σ H D I h
 exact wpAny_Expr_any (thn (he pins s σ H _ I h) fun v s1 ⟨x,H1,I1,r1,q1⟩=>⟨σ,H1,I1,q1⟩) I.quiet hs
noncomputable def tRet(te:TE):TS:=fun D σ H=>te σ H D.rt
theorem ps_ret(he:PE X e te):PS X (.Return (some e) pos) (tRet te):=by
 intro pins s σ H D I h
 exact wpAny_Return_some (thn (he pins s σ H _ I h) fun v s1 ⟨x,H1,I1,r1,q1⟩=>⟨x,σ,H1,I1,r1,q1⟩)
noncomputable def tRetN:TS:=fun D _ H=>D.rt .non H
noncomputable def tIfS(c:TT)(t u:TS):TS:=fun D σ H=>c σ H fun b H1=>if b=true then t D σ H1 else u D σ H1
theorem ps_if{c:Expr}{a b:List Stmt}{tc:TT}(hc:PT X c tc)(ha:PSs X a t)(hb:PSs X b u):PS X (.If c a b pos) (tIfS tc t u):=by
 intro pins s σ H D I h
 refine wpAny_If (thn (hc pins s σ H _ I h) fun d s1 ⟨H1,I1,q1⟩=>?_)
 cases d with
 | true=>exact ha pins s1 σ H1 D I1 q1
 | false=>exact hb pins s1 σ H1 D I1 q1
noncomputable def tNever:TS:=fun _ _ _=>False
theorem ps_never:PS X st tNever:=fun _ _ _ _ _ _ h=>h.elim
end
noncomputable abbrev TG:=V→St→Hp→(St→Hp→Prop)→Prop
noncomputable abbrev TGs:=List V→St→Hp→(St→Hp→Prop)→Prop
noncomputable def PG(X:Cx)(target:Expr)(t:TG):Prop:=
 ∀(pins:List (Addr×Obj)) (s:Shared) (σ:St) (H:Hp) (v:V) (u:Value) (Q:St→Hp→Prop),Inv X pins σ H s→RelV v u→t v σ H Q→
   wpAny (model X.prog X.w) X.A (assign target X.env u) (fun _ s'=>∃σ' H',Inv X pins σ' H' s'∧Q σ' H') X.xe s
noncomputable def PGs(X:Cx)(ts:List Expr)(t:TGs):Prop:=
 ∀(pins:List (Addr×Obj)) (s:Shared) (σ:St) (H:Hp) (vs:List V) (us:List Value) (Q:St→Hp→Prop),Inv X pins σ H s→Vals vs us→t vs σ H Q→
   wpAny (model X.prog X.w) X.A (assignInOrder ((assignEach ts X.env).map (·.2)) us) (fun _ s'=>∃σ' H',Inv X pins σ' H' s'∧Q σ' H') X.xe s
noncomputable abbrev TSet:=V→V→V→Hp→(Hp→Prop)→Prop
noncomputable abbrev TIp:=V→V→Hp→VK→Prop
noncomputable def PIp(X:Cx)(op:Operator)(t:TIp):Prop:=
 ∀(pins:List (Addr×Obj)) (s:Shared) (σ:St) (H:Hp) (x y:V) (v u:Value) (Q:VK),Inv X pins σ H s→RelV x v→RelV y u→t x y H Q→
   wpAny (model X.prog X.w) X.A (inplaceOp op v u) (EP X pins σ Q) X.xe s
section
variable {X:Cx} {pos:Pos}
noncomputable def gName(i:Nat):TG:=fun v σ H Q=>Q (σ.set i (some v)) H
theorem pg_name{i:Nat}{x:Str}(hN:X.N.Nodup)(hi:X.N[i]?=some x)(hx:Loc X.env.scope x)(hf:X.fn x=true∨X.env.scope.names.lookup x=some .local:=by first | exact .inl rfl | exact .inr rfl | assumption):PG X (.Name x pos) (gName i):=by
 intro pins s σ H v u Q I r h
 exact wpAny_assign_Name (store_ok I hN hi hx r (fun s' I'=>⟨_,H,I',h⟩) hf)
noncomputable def gNil:TGs:=fun vs σ H Q=>vs=[]∧Q σ H
noncomputable def gCons(t:TG)(u:TGs):TGs:=fun vs σ H Q=>∃v r,vs=v::r∧t v σ H fun σ' H'=>u r σ' H' Q
theorem pgs_nil:PGs X [] gNil:=by
 intro pins s σ H vs us Q I r h
 obtain ⟨e,h⟩:=h
 subst e
 cases r
 exact assignInOrder_nil ⟨σ,H,I,h⟩
theorem pgs_cons{e:Expr}{es:List Expr}{t:TG}{u:TGs}(h1:PG X e t)(h2:PGs X es u)
 (hs:(assignEach (e::es) X.env).map (·.2)=assign e X.env::(assignEach es X.env).map (·.2):=by rfl):PGs X (e::es) (gCons t u):=by
 intro pins s σ H vs us Q I r h
 obtain ⟨v,vr,e1,h⟩:=h
 subst e1
 cases r with
 | cons r rr=>
  rw [hs]
  refine assignInOrder_cons (thn (h1 pins s σ H _ _ _ I r h) fun _ s1 hq_=>?_)
  obtain ⟨σ1,H1,I1,q1⟩:=hq_
  exact h2 pins s1 σ1 H1 _ _ Q I1 rr q1
noncomputable def gTup(K:PySem.W.Frag)(n:Nat)(t:TGs):TG:=fun v σ H Q=>∃a xs,v= .ref a∧SqT K H a xs∧xs.length=n∧t xs σ H Q
theorem pg_tup{es:List Expr}{k:Nat}{t:TGs}{n:Nat}(hc:X.calm=true)(h:PGs X es t)
 (hn:(assignEach es X.env).length=n:=by rfl) (hst:(assignEach es X.env).findIdx? (·.1)=none:=by rfl):PG X (.Tuple es k pos) (gTup X.K n t):=by
 intro pins s σ H v u Q I r hw
 obtain ⟨a,xs,e1,hq,hl,hw⟩:=hw
 subst e1
 cases r
 obtain ⟨its,rv,ht,hz⟩:=I.tuple hq
 refine assign_Tuple_tuple (I.ok.hd hc) ht (by simp [hn,← hl,rv.length]) hst fun h' hx=>?_
 have I1:Inv X pins σ H {s with heap:=h'}:=I.kept (t':=s.toks) fun b o e=>hx b o (Nat.ne_of_lt (Heap.lt_size e)) e
 exact h pins _ σ H xs _ Q I1 (by simpa using rv) hw
noncomputable def gSub(to ti:TE)(t:TSet):TG:=fun v σ H Q=>to σ H fun o H1=>ti σ H1 fun i H2=>t o i v H2 fun H3=>Q σ H3
noncomputable def tAsg(te:TE)(g:TG):TS:=fun D σ H=>te σ H fun x H1=>g x σ H1 D.nx
theorem ps_set{i:Nat}{x:Str}{e:Expr}{te:TE}{pos':Pos}(hN:X.N.Nodup)(hi:X.N[i]?=some x)(hx:Loc X.env.scope x)(he:PE X e te)(hs:swapsWith e (some (.Name x pos')) pos.line X.env=pure false:=by rfl)(hf:X.fn x=true∨X.env.scope.names.lookup x=some .local:=by first | exact .inl rfl | exact .inr rfl | assumption):
 PS X (.Assign [.Name x pos'] e pos) (tAsg te (gName i)):=by
 intro pins s σ H D I h
 refine wpAny_Assign_Name (thn (he pins s σ H _ I h) fun v s1 hq_=>?_) hs
 obtain ⟨y,H1,I1,r1,q1⟩:=hq_
 exact store_ok I1 hN hi hx r1 (fun s2 I2=>⟨_,H1,I2,q1⟩) hf
noncomputable def tPar(i j:Nat)(ta:TA):TS:=fun D σ H=>ta σ H fun vs H1=>∃v w,vs=[v,w]∧D.nx ((σ.set i (some v)).set j (some w)) H1
noncomputable def tAug(i:Nat)(te:TE)(ti:TIp):TS:=fun D σ H=>∃x,σ[i]?=some (some x)∧te σ H fun y H1=>ti x y H1 fun z H2=>D.nx (σ.set i (some z)) H2
theorem ps_aug{i:Nat}{x:Str}{e:Expr}{te:TE}{op:Operator}{ti:TIp}{pos':Pos}(hN:X.N.Nodup)(hi:X.N[i]?=some x)(hx:Loc X.env.scope x)(he:PE X e te)(ho:PIp X op ti)(hf:X.fn x=true∨X.env.scope.names.lookup x=some .local:=by first | exact .inl rfl | exact .inr rfl | assumption):
 PS X (.AugAssign (.Name x pos') op e pos) (tAug i te ti):=by
 intro pins s σ H D I h
 obtain ⟨v,e1,h⟩:=h
 obtain ⟨m,hn,hl⟩:=I.loc
 have vis:Vis X.env.scope x:=by rcases hx with k | k;exact .inl k;exact .inr (.inl k)
 obtain ⟨u,r,l⟩:=hl i x v hi e1 vis
 refine wpAny_AugAssign_Name ?_
 have go:wpAny (model X.prog X.w) X.A (eval e X.env) (fun w s₂=>wpAny (model X.prog X.w) X.A (inplaceOp op u w) (fun r s₃=>wpAny (model X.prog X.w) X.A (storeName X.env x r) (fun _=>SP X pins D .next) X.xe s₃) X.xe s₂) X.xe s:=by
  refine thn (he pins s σ H _ I h) fun w s1 hq_=>?_
  obtain ⟨y,H1,I1,r1,q1⟩:=hq_
  refine thn (ho pins s1 σ H1 v y u w _ I1 r r1 q1) fun z s2 hq_=>?_
  obtain ⟨zv,H2,I2,r2,q2⟩:=hq_
  exact store_ok I2 hN hi hx r2 (fun s3 I3=>⟨_,H2,I3,q2⟩) hf
 rcases l with ⟨hk,hm⟩ | ⟨hk,c,hc,hcell⟩
 · exact wpAny_loadName_local I.ok.kind hk hn hm go
 · rcases hk with hk | hk
   · exact wpAny_loadName_cell I.ok.kind hk hc hcell go
   · rcases hx with k | k
     · have:X.env.scope.names.lookup x=some .free:=hk
       rw [k]at this;cases this
     · have:X.env.scope.names.lookup x=some .free:=hk
       rw [k]at this;cases this
noncomputable def ipI(f:Int→Int→Int):TIp:=fun x y H Q=>∃i j,x= .int i∧y= .int j∧Q (.int (f i j)) H
end
structure It where
 go:Nat→Hp→Prop
 yld:Nat→Hp→V→Hp→Prop
 stop:Nat→Hp→Prop
noncomputable def FpOk(X:Cx)(pins:List (Addr×Obj))(H:Hp)(b:Addr):Prop:=
 H b=none∧b≠X.env.locals∧b∉X.fs∧(b∈X.ex∨X.s₀.heap.objs.size≤b)∧(∀x c,X.env.cells.lookup x=some c→c≠b)∧∀p∈X.pn++pins,p.1≠b
theorem Inv.fpOk{X:Cx}{pins:List (Addr×Obj)}{σ:St}{H H':Hp}{s:Shared}{b:Addr}(I:Inv X pins σ H s)(hb:s.heap.objs.size≤b)(hn:H' b=none):FpOk X pins H' b:=by
 refine ⟨hn,Nat.ne_of_gt (Nat.lt_of_lt_of_le I.lt hb),I.nofs hb,.inr (Nat.le_trans I.sz hb),fun x c e z=>?_,fun p hp z=>?_⟩
 · obtain ⟨v,q⟩:=I.cell x c e
   exact absurd (Nat.lt_of_lt_of_le q.lt (by rw [z];exact hb)) (Nat.lt_irrefl _)
 · exact absurd (Nat.lt_of_lt_of_le (Heap.lt_size (I.pin p hp).1) (by rw [z];exact hb)) (Nat.lt_irrefl _)
structure Turn(P:Program)(w:World)(K:PySem.W.Frag)(tg:Expr)(J:It)(fp:List Addr)(it:Addr)(tn:Nat→Heap→Prop):Prop where
 mem:it∈fp
 obj:∀i h,tn i h→∀b∈fp,∃o,h.get? b=some o∧∀v,o.data≠ .cell v
 keep:∀i h h',tn i h→(∀b∈fp,∀o,h.get? b=some o→h'.get? b=some o)→tn i h'
 item:∀(X:Cx),X.prog=P→X.w=w→X.K=K→X.calm=true→∀(i:Nat) (pins:List (Addr×Obj)) (s:Shared) (σ:St) (H:Hp) (E:Value→Shared→Prop),Inv X pins σ H s→(∀b∈fp,FpOk X pins H b)→tn i s.heap→J.go i H→
  wpAny (model P w) X.A (pyNext (.ref it)) (fun r s1=>∃u,r=some u∧
   wpAny (model P w) X.A (letOwnedTupleGo tg (.ref it) u) (fun _ s2=>∃x H',Inv X pins σ H' s2∧RelV x u∧J.yld i H x H'∧tn (i+1) s2.heap∧∀b∈fp,H' b=none) E s1) E s
 done:∀(X:Cx),X.prog=P→X.w=w→X.K=K→X.calm=true→∀(i:Nat) (pins:List (Addr×Obj)) (s:Shared) (σ:St) (H:Hp) (E:Value→Shared→Prop),Inv X pins σ H s→(∀b∈fp,FpOk X pins H b)→tn i s.heap→J.stop i H→
   wpAny (model P w) X.A (pyNext (.ref it)) (fun r s1=>r=none∧Inv X pins σ H s1) E s
 self:∀(A:Around) (i:Nat) (s:Shared) (Q:Value→Shared→Prop) (E:Value→Shared→Prop),tn i s.heap→Q (.ref it) s→wpAny (model P w) A (pyIter (.ref it)) Q E s
noncomputable abbrev TI:=St→Hp→(It→Hp→Prop)→Prop
noncomputable def PIE(X:Cx)(pins:List (Addr×Obj))(σ:St)(tg:Expr)(R:It→Hp→Prop)(itv:Value)(s2:Shared):Prop:=
 ∃(it:Addr) (fp:List Addr) (tn:Nat→Heap→Prop) (J:It) (H':Hp),itv= .ref it∧Inv X pins σ H' s2∧Turn X.prog X.w X.K tg J fp it tn∧tn 0 s2.heap∧(∀b∈fp,FpOk X pins H' b)∧R J H'
noncomputable def PI(X:Cx)(tg iter:Expr)(wi:TI):Prop:=
 ∀(pins:List (Addr×Obj)) (s:Shared) (σ:St) (H:Hp) (R:It→Hp→Prop),Inv X pins σ H s→wi σ H R→
   wpAny (model X.prog X.w) X.A (eval iter X.env) (fun v s1=>wpAny (model X.prog X.w) X.A (pyIter v) (PIE X pins σ tg R) X.xe s1) X.xe s
theorem go_of{M:Model}{A:Around}{E:Value→Shared→Prop}{s:Shared}{tg:Expr}{it:Addr}{u:Value}{o:Obj}{n:String}{vs:Array Value}{Q:Unit→Shared→Prop}(ho:s.heap.get? it=some o)(hc:o.cls= .type n)(hd:o.data= .fields vs)
 (hn:["enumerate","zip","dict_itemiterator","dict_reverseitemiterator","odict_iterator","itertools.zip_longest","itertools.pairwise"].contains n=false) (hQ:Q () s):wpAny M A (letOwnedTupleGo tg (.ref it) u) Q E s:=by
 unfold letOwnedTupleGo
 cases tg <;> first
  | exact wpAny_pure hQ
  | (cases u <;> first
   | exact wpAny_pure hQ
   | (refine wpAny_bind (wpAny_load ho ?_)
      rw [hc,hd]
      show wpAny M A (if (["enumerate","zip","dict_itemiterator","dict_reverseitemiterator","odict_iterator","itertools.zip_longest","itertools.pairwise"].contains n && vs[0]?==some (rawInt _))=true then _ else _) Q E s
      rw [if_neg (by intro h;rw [hn,Bool.false_and]at h;cases h)]
      exact wpAny_pure hQ))
noncomputable def Itl(K:PySem.W.Frag)(a:Addr):It:=
 ⟨fun i H=>∃xs x,SqL K H a xs∧xs[i]?=some x,fun i H x H'=>H'=H∧∀xs,SqL K H a xs→xs[i]?=some x,fun i H=>∃xs,SqL K H a xs∧xs.length≤i⟩
noncomputable def Itt(K:PySem.W.Frag)(a:Addr):It:=
 ⟨fun i H=>∃xs x,SqT K H a xs∧xs[i]?=some x,fun i H x H'=>H'=H∧∀xs,SqT K H a xs→xs[i]?=some x,fun i H=>∃xs,SqT K H a xs∧xs.length≤i⟩
noncomputable def Itr(lo:Int)(n:Nat):It:=⟨fun i _=>i < n,fun i H x H'=>H'=H∧x= .int (lo+i),fun i _=>n≤i⟩
theorem turn_list{P:Program}{w:World}{K:PySem.W.Frag}{tg:Expr}(a it:Addr):Turn P w K tg (Itl K a) [it] it (fun i h=>h.IsListIter it a i) where
 mem:=by simp
 obj:=fun i h st b hb=>by
  have e:b=it:=by simpa using hb
  subst e
  obtain ⟨o,e,c,d⟩:=st
  exact ⟨o,e,fun v z=>by rw [d]at z;cases z⟩
 keep:=fun i h h' st k=>st.at fun o e=>k it (by simp) o e
 item:=by
  intro X hP hw hK hc i pins s σ H E I hf st hg
  subst hP hw hK
  obtain ⟨xs,x,hq,hx⟩:=hg
  obtain ⟨its,rv,p,hz⟩:=I.list hq
  obtain ⟨u,hu,ru⟩:=rv.get hx
  obtain ⟨f0,f1,f2,f3,f4,f5⟩:=hf it (by simp)
  refine wpAny_pyNext_list_item st p.isList (x:=u) (by simpa using hu) fun h' st' sb=>?_
  have I1:Inv X pins σ H {s with heap:=h'}:=I.turned (t':=s.toks) (fun b o hb e=>(sb.2 b hb).trans e) f0 f1 f3 f4 f5
  obtain ⟨o,e,c,d⟩:=id st'
  exact ⟨u,rfl,go_of (s:={s with heap:=h'}) e c d (by decide) ⟨x,H,I1,ru,⟨rfl,fun ys hy=>by rw [I.list_inj hy hq];exact hx⟩,st',fun b hb=>(hf b hb).1⟩⟩
 done:=by
   intro X hP hw hK hc i pins s σ H E I hf st hg
   subst hP hw hK
   obtain ⟨xs,hq,hx⟩:=hg
   obtain ⟨its,rv,p,hz⟩:=I.list hq
   obtain ⟨f0,f1,f2,f3,f4,f5⟩:=hf it (by simp)
   have hl:=rv.length
   exact wpAny_pyNext_list_end (I.ok.hd hc) st p.isList (by simp;omega) fun h' eb=>⟨rfl,I.turned (t':=s.toks) (fun b o hb e=>eb b o hb e) f0 f1 f3 f4 f5⟩
 self:=fun _ _ _ _ _ st h=>wpAny_pyIter_listiter st h
theorem turn_range{P:Program}{w:World}{K:PySem.W.Frag}{tg:Expr}(it:Addr)(lo:Int)(n:Nat):Turn P w K tg (Itr lo n) [it] it (fun i h=>IsRangeIter h it (lo+(i:Nat) * 1) ((n:Int) - (i:Nat)) 1) where
 mem:=by simp
 obj:=fun i h st b hb=>by
  have e:b=it:=by simpa using hb
  subst e
  exact ⟨_,st,fun v z=>by
   have z':Data.fields _=Data.cell v:=z
   cases z'⟩
 keep:=fun i h h' st k=>k it (by simp) _ st
 item:=by
  intro X hP hw hK hc i pins s σ H E I hf st hg
  subst hP hw hK
  obtain ⟨f0,f1,f2,f3,f4,f5⟩:=hf it (by simp)
  have W:=Walks.range (prog:=X.prog) (w:=X.w) (I.ok.hd hc) it lo 1 n
  refine W.item i s _ _ hg st fun v h' tk hv st' kk=>?_
  obtain ⟨t,rfl⟩:=hv
  have I1:Inv X pins σ H {s with heap:=h',toks:=tk}:=I.turned (fun b o hb e=>kk b o (by simpa using hb) e) f0 f1 f3 f4 f5
  refine ⟨_,rfl,go_of (s:={s with heap:=h',toks:=tk}) (n:="range_iterator") st' rfl rfl (by decide) ⟨.int (lo+i),H,I1,⟨t,?_⟩,⟨rfl,rfl⟩,st',fun b hb=>(hf b hb).1⟩⟩
  rw [Int.mul_one]
 done:=by
   intro X hP hw hK hc i pins s σ H E I hf st hg
   subst hP hw hK
   obtain ⟨f0,f1,f2,f3,f4,f5⟩:=hf it (by simp)
   exact wpAny_pyNext_range_end (I.ok.hd hc) st (by have:n≤i:=hg;omega) fun h' eb=>⟨rfl,I.turned (t':=s.toks) (fun b o hb e=>eb b o hb e) f0 f1 f3 f4 f5⟩
 self:=fun _ _ _ _ _ st h=>wpAny_pyIter_rangeiter st h
end L2
namespace L2
section
variable {X:Cx} {tg:Expr}
noncomputable def iList(K:PySem.W.Frag)(tl:TE):TI:=fun σ H R=>tl σ H fun x H1=>∃a,x= .ref a∧(∃xs,SqL K H1 a xs)∧R (Itl K a) H1
noncomputable def iTup(K:PySem.W.Frag)(tl:TE):TI:=fun σ H R=>tl σ H fun x H1=>∃a,x= .ref a∧(∃xs,SqT K H1 a xs)∧R (Itt K a) H1
theorem pi_list{l:Expr}{tl:TE}(hl:PE X l tl):PI X tg l (iList X.K tl):=by
 intro pins s σ H R I h
 refine thn (hl pins s σ H _ I h) fun v s1 hq_=>?_
 obtain ⟨x,H1,I1,r1,q1⟩:=hq_
 obtain ⟨a,e,⟨xs,hq⟩,q⟩:=q1
 subst e
 cases r1
 obtain ⟨its,rv,p,hz⟩:=I1.list hq
 refine wpAny_pyIter_list p.isList ?_
 refine ⟨s1.heap.objs.size,[s1.heap.objs.size],_,_,H1,rfl,I1.kept (t':=s1.toks) fun b o e=>Heap.get?_push_of_some _ e,turn_list a _,⟨_,Heap.get?_push_size _ rfl,rfl,rfl⟩,fun b hb=>?_,q⟩
 have e:b=s1.heap.objs.size:=by simpa using hb
 subst e
 exact I1.fpOk (Nat.le_refl _) (I1.hok.fresh (Nat.le_refl _))
theorem range_it{pins:List (Addr×Obj)}{σ:St}{H:Hp}{s:Shared}{R:It→Hp→Prop}{E:Value→Shared→Prop}{lo hi:Int}{t u v:Tok}{tk:Nat}(I:Inv X pins σ H s)(h1:-(2 ^ 62)≤lo)(h2:lo < 2 ^ 62)(h3:-(2 ^ 62)≤hi)(h4:hi < 2 ^ 62)
 (q:R (Itr lo (hi - lo).toNat) H):wpAny (model X.prog X.w) X.A (pyIter (.ref s.heap.objs.size)) (PIE X pins σ tg R) E {s with heap:=s.heap.push {cls:= .type "range",data:= .fields #[.int lo t,.int hi u,.int 1 v]},toks:=tk}:=by
 refine wpAny_pyIter_range (IsRange.new ..) (small_one h1 h2 h3 h4) ?_
 have I1:Inv X pins σ H {s with heap:=s.heap.push {cls:= .type "range",data:= .fields #[.int lo t,.int hi u,.int 1 v]},toks:=tk}:=I.kept fun b o e=>Heap.get?_push_of_some _ e
 refine ⟨(s.heap.push {cls:= .type "range",data:= .fields #[.int lo t,.int hi u,.int 1 v]}).objs.size,[(s.heap.push {cls:= .type "range",data:= .fields #[.int lo t,.int hi u,.int 1 v]}).objs.size],_,_,H,rfl,
  I1.kept (t':=tk) fun b o e=>Heap.get?_push_of_some _ e,turn_range _ lo (hi - lo).toNat,?_,fun b hb=>?_,q⟩
 · have e1:lo+((0:Nat):Int) * 1=lo:=by simp
   have e2:(((hi - lo).toNat:Nat):Int) - ((0:Nat):Int)=Builtin.Range.rangeSize lo hi 1:=by rw [rangeSize_one];split <;> omega
   show IsRangeIter _ _ (lo+((0:Nat):Int) * 1) ((((hi - lo).toNat:Nat):Int) - ((0:Nat):Int)) 1
   rw [e1,e2]
   exact Heap.get?_push_size _ rfl
 · have e:b=(s.heap.push {cls:= .type "range",data:= .fields #[.int lo t,.int hi u,.int 1 v]}).objs.size:=by simpa using hb
   subst e
   exact I1.fpOk (Nat.le_refl _) (I1.hok.fresh (Nat.le_refl _))
noncomputable def iRng1(ta:TA):TI:=fun σ H R=>ta σ H fun vs H1=>∃j:Int,vs=[.int j]∧-(2 ^ 62)≤j∧j < 2 ^ 62∧R (Itr 0 j.toNat) H1
noncomputable def iRng2(ta:TA):TI:=fun σ H R=>ta σ H fun vs H1=>∃i j:Int,vs=[.int i,.int j]∧(-(2 ^ 62)≤i∧i < 2 ^ 62∧-(2 ^ 62)≤j∧j < 2 ^ 62)∧R (Itr i (j - i).toNat) H1
theorem pi_range1{a:Expr}{ta:TA}{p pos:Pos}(hg:Gl X "range")(hm:X.mg "range"=none)(ha:PA X [a] ta)(hs:starEach [a] X.env=[(false,eval a X.env)]:=by rfl):PI X tg (.Call (.Name "range" p) [a] [] pos) (iRng1 ta):=by
 intro pins s σ H R I h
 refine Call_ (ld_blt I hg hm boot_range (PyProof.Rows.callWith_type1 (thn (ha pos pins s σ H _ I h) fun us s1 hq_=>?_) hs rfl))
 obtain ⟨vs,H1,I1,r1,q1⟩:=hq_
 obtain ⟨j,e,q1,q2,q⟩:=q1
 subst e
 cases r1 with
 | cons r rr=>
  cases rr
  obtain ⟨t,rfl⟩:=r
  exact call_range_1 (range_it I1 (by omega) (by omega) q1 q2 (by simpa using q))
theorem pi_range2{a b:Expr}{ta:TA}{p pos:Pos}(hg:Gl X "range")(hm:X.mg "range"=none)(ha:PA X [a,b] ta)(hs:starEach [a,b] X.env=[(false,eval a X.env),(false,eval b X.env)]:=by rfl)(hs2:starEach [b] X.env=[(false,eval b X.env)]:=by rfl):
 PI X tg (.Call (.Name "range" p) [a,b] [] pos) (iRng2 ta):=by
 intro pins s σ H R I h
 refine Call_ (ld_blt I hg hm boot_range (PyProof.Rows.callWith_type1 (thn (ha pos pins s σ H _ I h) fun us s1 ⟨vs,H1,I1,r1,q1⟩=>?_) (by rw [hs,hs2]) (by rw [hs2];rfl)))
 obtain ⟨i,j,e,⟨q1,q2,q3,q4⟩,q⟩:=q1
 subst e
 cases r1 with
 | cons r rr=>
  cases rr with
  | cons r' rr=>
   cases rr
   obtain ⟨t,rfl⟩:=r
   obtain ⟨t',rfl⟩:=r'
   exact call_range_2 (range_it I1 q1 q2 q3 q4 q)
noncomputable def tFor(wi:TI)(g:TG)(tb:TS):TS:=fun D σ H=>wi σ H fun J H1=>∃W:Nat→Nat→St→Hp→Prop,(∃m,W 0 m σ H1)∧∀i m σ H,W i m σ H→
 (J.stop i H∧D.nx σ H)∨(J.go i H∧∃N:St→Hp→Prop,(∀σ' H',N σ' H'→∃m',m' < m∧W (i+1) m' σ' H')∧∀x H',J.yld i H x H'→g x σ H' fun σ2 H2=>tb {D with nx:=N,ct:=N,bk:=D.nx} σ2 H2)
noncomputable def pinsAt(fp:List Addr)(h:Heap):List (Addr×Obj):=fp.filterMap fun b=>(h.get? b).map fun o=>(b,o)
theorem mem_pinsAt{fp:List Addr}{h:Heap}{b:Addr}{o:Obj}(hb:b∈fp)(e:h.get? b=some o):(b,o)∈pinsAt fp h:=List.mem_filterMap.mpr ⟨b,hb,by rw [e];rfl⟩
theorem of_pinsAt{fp:List Addr}{h:Heap}{p:Addr×Obj}(hp:p∈pinsAt fp h):p.1∈fp∧h.get? p.1=some p.2:=by
 obtain ⟨b,hb,e⟩:=List.mem_filterMap.mp hp
 cases q:h.get? b with
 | none=>rw [q]at e;cases e
 | some o=>
  rw [q]at e
  have e':(b,o)=p:=Option.some.inj e
  subst e'
  exact ⟨hb,q⟩
theorem Inv.pinned{pins:List (Addr×Obj)}{σ:St}{H:Hp}{s:Shared}{fp:List Addr}(I:Inv X pins σ H s)(hf:∀b∈fp,FpOk X pins H b)(ho:∀b∈fp,∃o,s.heap.get? b=some o∧∀v,o.data≠ .cell v):Inv X (pins++pinsAt fp s.heap) σ H s:=
 I.pins_of fun p hp=>(List.mem_append.mp hp).elim (fun z=>I.pin p (List.mem_append_right _ z)) fun z=>by
  obtain ⟨hb,e⟩:=of_pinsAt z
  obtain ⟨f0,f1,f2,_⟩:=hf p.1 hb
  obtain ⟨o,e',d⟩:=ho p.1 hb
  rw [e]at e';cases e'
  exact ⟨e,f0,f1,f2,d⟩
theorem Inv.unpinned{pins pl:List (Addr×Obj)}{σ:St}{H:Hp}{s:Shared}(I:Inv X (pins++pl) σ H s):Inv X pins σ H s:=I.pins_of fun p hp=>I.pin p (List.mem_append_right _ (List.mem_append_left _ hp))
theorem ps_for{iter:Expr}{body:List Stmt}{wi:TI}{g:TG}{tb:TS}{pos:Pos}(hp:PassesOwn (model X.prog X.w) X.A X.env X.xe)(hc:X.calm=true)(hi:PI X tg iter wi)(hg:PG X tg g)(hb:PSs X body tb)
 (hs:∀x,foldedSetIterable iter X.env x=pure x:=by intro _;rfl):PS X (.For tg iter body [] pos) (tFor wi g tb):=by
 intro pins s σ H D I h
 refine wpAny_For (thn (hi pins s σ H _ I h) fun v s1 h1=>thn h1 fun itv s2 h2=>?_) hs
 obtain ⟨it,fp,tn,J,H2,e,I2,T,st2,f2,W,⟨m0,w0⟩,turn⟩:=h2
 subst e
 have stat:∀{H':Hp},(∀b∈fp,H' b=none)→∀b∈fp,FpOk X pins H' b:=fun hn b hb=>⟨hn b hb,(f2 b hb).2⟩
 refine codeAny_forLoop_any (fun n s'=>∃i σ' H',Inv X pins σ' H' s'∧tn i s'.heap∧(∀b∈fp,H' b=none)∧W i n σ' H') ?_ m0 ⟨0,σ,H2,I2,st2,fun b hb=>(f2 b hb).1,w0⟩
 rintro n s3 ⟨i,σ3,H3,I3,st3,fr3,w3⟩
 rcases turn i n σ3 H3 w3 with ⟨stop,qn⟩ | ⟨go,N,hN,step⟩
 · refine wpAny_passesOwn hp (thn (T.done X rfl rfl rfl hc i pins s3 σ3 H3 X.xe I3 (stat fr3) st3 stop) fun r s4 ⟨hr,I4⟩=>?_)
   subst hr
   exact wpAny_execs_nil ⟨σ3,H3,I4,qn⟩
 · refine wpAny_passesOwn hp (thn (T.item X rfl rfl rfl hc i pins s3 σ3 H3 X.xe I3 (stat fr3) st3 go) fun r s4 ⟨u,hr,h4⟩=>?_)
   subst hr
   refine wpAny_passesOwn hp (thn h4 fun _ s5 hq_=>?_)
   obtain ⟨x,H5,I5,r5,y5,st5,fr5⟩:=hq_
   have I5':=I5.pinned (stat fr5) (T.obj _ _ st5)
   refine wpAny_passesOwn hp (thn (hg _ s5 σ3 H5 x u _ I5' r5 (step x H5 y5)) fun _ s6 hq_=>?_)
   obtain ⟨σ6,H6,I6,q6⟩:=hq_
   refine wpAny_passesOwn hp (thn (hb _ s6 σ6 H6 _ I6 q6) fun f s7 q7=>?_)
   have again:∀{σ7:St} {H7:Hp},Inv X (pins++pinsAt fp s5.heap) σ7 H7 s7→N σ7 H7→∃m,m < n∧∃i σ' H',Inv X pins σ' H' s7∧tn i s7.heap∧(∀b∈fp,H' b=none)∧W i m σ' H':=fun {σ7 H7} I7 n7=>by
    obtain ⟨m',hm,w7⟩:=hN σ7 H7 n7
    refine ⟨m',hm,i+1,σ7,H7,I7.unpinned,T.keep _ _ _ st5 fun b hb o e=>(I7.pin (b,o) (List.mem_append_right _ (List.mem_append_right _ (mem_pinsAt hb e)))).1,fun b hb=>?_,w7⟩
    obtain ⟨o,e,d⟩:=T.obj _ _ st5 b hb
    exact (I7.pin (b,o) (List.mem_append_right _ (List.mem_append_right _ (mem_pinsAt hb e)))).2.1
   cases f with
   | next=>obtain ⟨σ7,H7,I7,n7⟩:=q7;exact again I7 n7
   | cont=>obtain ⟨σ7,H7,I7,n7⟩:=q7;exact again I7 n7
   | brk=>obtain ⟨σ7,H7,I7,q7⟩:=q7;exact ⟨σ7,H7,I7.unpinned,q7⟩
   | ret v=>obtain ⟨x7,σ7,H7,I7,r7,q7⟩:=q7;exact ⟨x7,σ7,H7,I7.unpinned,r7,q7⟩
end
theorem for_list{K:PySem.W.Frag}{a:Addr}{xs:List V}{g:TG}{tb:TS}{D:Ends}{σ:St}{H:Hp}(Pv:Nat→St→Hp→Prop)(h0:Pv 0 σ H)(hl:∀i σ H,i≤xs.length→Pv i σ H→SqL K H a xs)
 (hs:∀i x σ H,xs[i]?=some x→Pv i σ H→g x σ H fun σ2 H2=>tb {D with nx:=Pv (i+1),ct:=Pv (i+1),bk:=D.nx} σ2 H2) (hd:∀σ H,Pv xs.length σ H→D.nx σ H):
 ∃W:Nat→Nat→St→Hp→Prop,(∃m,W 0 m σ H)∧∀i m σ H,W i m σ H→
  ((Itl K a).stop i H∧D.nx σ H)∨((Itl K a).go i H∧∃N:St→Hp→Prop,(∀σ' H',N σ' H'→∃m',m' < m∧W (i+1) m' σ' H')∧∀x H',(Itl K a).yld i H x H'→g x σ H' fun σ2 H2=>tb {D with nx:=N,ct:=N,bk:=D.nx} σ2 H2):=by
 refine ⟨fun i m σ H=>m=xs.length - i∧i≤xs.length∧Pv i σ H,⟨xs.length,by simp,Nat.zero_le _,h0⟩,?_⟩
 rintro i m σ H ⟨rfl,hi,p⟩
 have q:=hl i σ H hi p
 by_cases hlt:i < xs.length
 · refine .inr ⟨⟨xs,xs[i],q,by simp [hlt]⟩,Pv (i+1),fun σ' H' p'=>⟨xs.length - (i+1),by omega,rfl,hlt,p'⟩,fun x H' y=>?_⟩
   obtain ⟨e,y⟩:=y
   subst e
   exact hs i x σ _ (y xs q) p
 · have e:i=xs.length:=by omega
   subst e
   exact .inl ⟨⟨xs,q,Nat.le_refl _⟩,hd σ H p⟩
theorem for_range{lo:Int}{n:Nat}{g:TG}{tb:TS}{D:Ends}{σ:St}{H:Hp}(Pv:Nat→St→Hp→Prop)(h0:Pv 0 σ H)
 (hs:∀i σ H,i < n→Pv i σ H→g (.int (lo+i)) σ H fun σ2 H2=>tb {D with nx:=Pv (i+1),ct:=Pv (i+1),bk:=D.nx} σ2 H2) (hd:∀σ H,Pv n σ H→D.nx σ H):
 ∃W:Nat→Nat→St→Hp→Prop,(∃m,W 0 m σ H)∧∀i m σ H,W i m σ H→
  ((Itr lo n).stop i H∧D.nx σ H)∨((Itr lo n).go i H∧∃N:St→Hp→Prop,(∀σ' H',N σ' H'→∃m',m' < m∧W (i+1) m' σ' H')∧∀x H',(Itr lo n).yld i H x H'→g x σ H' fun σ2 H2=>tb {D with nx:=N,ct:=N,bk:=D.nx} σ2 H2):=by
 refine ⟨fun i m σ H=>m=n - i∧i≤n∧Pv i σ H,⟨n,by simp,Nat.zero_le _,h0⟩,?_⟩
 rintro i m σ H ⟨rfl,hi,p⟩
 by_cases hlt:i < n
 · refine .inr ⟨hlt,Pv (i+1),fun σ' H' p'=>⟨n - (i+1),by omega,rfl,hlt,p'⟩,fun x H' y=>?_⟩
   obtain ⟨e,y⟩:=y
   subst e y
   exact hs i σ _ hlt p
 · have e:i=n:=by omega
   subst e
   exact .inl ⟨Nat.le_refl _,hd σ H p⟩
end L2
namespace L2
noncomputable abbrev R2:=V→V→Hp→VK→Prop
noncomputable def OpR(X:Cx)(f:Value→Value→Sem Value)(r:R2):Prop:=
 ∀(pins:List (Addr×Obj)) (s:Shared) (σ:St) (H:Hp) (x y:V) (v u:Value) (Q:VK),Inv X pins σ H s→RelV x v→RelV y u→r x y H Q→
   wpAny (model X.prog X.w) X.A (f v u) (EP X pins σ Q) X.xe s
noncomputable def UnR(X:Cx)(f:Value→Sem Value)(r:V→Hp→VK→Prop):Prop:=
 ∀(pins:List (Addr×Obj)) (s:Shared) (σ:St) (H:Hp) (x:V) (v:Value) (Q:VK),Inv X pins σ H s→RelV x v→r x H Q→
   wpAny (model X.prog X.w) X.A (f v) (EP X pins σ Q) X.xe s
noncomputable def CallR(X:Cx)(f:Value)(r:List V→Hp→VK→Prop):Prop:=
 ∀(pins:List (Addr×Obj)) (s:Shared) (σ:St) (H:Hp) (xs:List V) (us:List Value) (Q:VK),Inv X pins σ H s→Vals xs us→r xs H Q→
   wpAny (model X.prog X.w) X.A (call f us) (EP X pins σ Q) X.xe s
noncomputable def tOp(r:R2)(ta tb:TE):TE:=fun σ H Q=>ta σ H fun x H1=>tb σ H1 fun y H2=>r x y H2 Q
noncomputable def tUn(r:V→Hp→VK→Prop)(ta:TE):TE:=fun σ H Q=>ta σ H fun x H1=>r x H1 Q
noncomputable def rI(C:Int→Int→Prop)(g:Int→Int→V):R2:=fun x y H Q=>∃i j,x= .int i∧y= .int j∧C i j∧Q (g i j) H
noncomputable def rI0(g:Int→Int→V):R2:=fun x y H Q=>∃i j,x= .int i∧y= .int j∧Q (g i j) H
noncomputable def rU(g:Int→V):V→Hp→VK→Prop:=fun x H Q=>∃i,x= .int i∧Q (g i) H
section
variable {X:Cx} {a b c:Expr} {ta tb tc:TE} {pos:Pos}
theorem binT(ha:PE X a ta)(hb:PE X b tb){pins:List (Addr×Obj)}{s:Shared}{σ:St}{H:Hp}{R:V→V→Hp→Prop}(I:Inv X pins σ H s)
 (h:ta σ H fun x H1=>tb σ H1 fun y H2=>R x y H2) {Q:Value→Shared→Prop} {f:Value→Value→Sem Value}
 (hf:∀v u s2 x y H2,Inv X pins σ H2 s2→RelV x v→RelV y u→R x y H2→wpAny (model X.prog X.w) X.A (f v u) Q X.xe s2):
 wpAny (model X.prog X.w) X.A (eval a X.env) (fun v s₁=>wpAny (model X.prog X.w) X.A (eval b X.env) (fun u s₂=>wpAny (model X.prog X.w) X.A (f v u) Q X.xe s₂) X.xe s₁) X.xe s:=by
 refine thn (ha pins s σ H _ I h) fun v s1 hq_=>?_
 obtain ⟨x,H1,I1,r1,q1⟩:=hq_
 refine thn (hb pins s1 σ H1 _ I1 q1) fun u s2 hq_=>?_
 obtain ⟨y,H2,I2,r2,q2⟩:=hq_
 exact hf v u s2 x y H2 I2 r1 r2 q2
theorem pe_op{op:Operator}{r:R2}(ho:OpR X (binaryOp op) r)(ha:PE X a ta)(hb:PE X b tb):PE X (.BinOp a op b pos) (tOp r ta tb):=by
 intro pins s σ H Q I h
 exact wpAny_BinOp (binT ha hb I h fun v u s2 x y H2 I2 rx ry q=>ho pins s2 σ H2 x y v u Q I2 rx ry q)
theorem pe_un{op:UnaryOp}{r:V→Hp→VK→Prop}(ho:UnR X (unaryOp op) r)(ha:PE X a ta):PE X (.UnaryOp op a pos) (tUn r ta):=by
 intro pins s σ H Q I h
 exact UnaryOp_ (thn (ha pins s σ H _ I h) fun v s1 ⟨x,H1,I1,r1,q1⟩=>ho pins s1 σ H1 x v Q I1 r1 q1)
theorem opI{f:Value→Value→Sem Value}{C:Int→Int→Prop}{g:Int→Int→Int}
 (rule:∀(i j:Int) (t u:Tok) (s:Shared) (Q:Value→Shared→Prop) (E:Value→Shared→Prop),C i j→Q (.int (g i j) s.toks) {s with toks:=s.toks+1}→wpAny (model X.prog X.w) X.A (f (.int i t) (.int j u)) Q E s):
 OpR X f (rI C fun i j=> .int (g i j)):=by
 intro pins s σ H x y v u Q I rx ry h
 obtain ⟨i,j,rfl,rfl,hc,q⟩:=h
 obtain ⟨t,rfl⟩:=rx
 obtain ⟨t',rfl⟩:=ry
 exact rule i j t t' s _ _ hc ⟨.int (g i j),H,I.tok _,⟨_,rfl⟩,q⟩
theorem opI0{f:Value→Value→Sem Value}{g:Int→Int→Int}
 (rule:∀(i j:Int) (t u:Tok) (s:Shared) (Q:Value→Shared→Prop) (E:Value→Shared→Prop),Q (.int (g i j) s.toks) {s with toks:=s.toks+1}→wpAny (model X.prog X.w) X.A (f (.int i t) (.int j u)) Q E s):
 OpR X f (rI0 fun i j=> .int (g i j)):=by
 intro pins s σ H x y v u Q I rx ry h
 obtain ⟨i,j,rfl,rfl,q⟩:=h
 obtain ⟨t,rfl⟩:=rx
 obtain ⟨t',rfl⟩:=ry
 exact rule i j t t' s _ _ ⟨.int (g i j),H,I.tok _,⟨_,rfl⟩,q⟩
theorem opB0{f:Value→Value→Sem Value}{g:Int→Int→Bool}
 (rule:∀(i j:Int) (t u:Tok) (s:Shared) (Q:Value→Shared→Prop) (E:Value→Shared→Prop),Q (.bool (g i j)) s→wpAny (model X.prog X.w) X.A (f (.int i t) (.int j u)) Q E s):
 OpR X f (rI0 fun i j=> .bl (g i j)):=by
 intro pins s σ H x y v u Q I rx ry h
 obtain ⟨i,j,rfl,rfl,q⟩:=h
 obtain ⟨t,rfl⟩:=rx
 obtain ⟨t',rfl⟩:=ry
 exact rule i j t t' s _ _ ⟨.bl (g i j),H,I,rfl,q⟩
noncomputable def CDiv(i j:Int):Prop:=0 < j∧j < 1073741824
noncomputable def CPow(i j:Int):Prop:=0≤j∧j≤1000000∧i.natAbs < 2 ^ 64
noncomputable def CMul(i j:Int):Prop:=(-(2 ^ 64) < i∧i < 2 ^ 64)∨(-(2 ^ 64) < j∧j < 2 ^ 64)
theorem CMul.ok{i j:Int}(h:CMul i j):IntMulOk i j:=by
 rcases h with ⟨h1,h2⟩ | ⟨h1,h2⟩
 · exact .of_left (intBits_le_64 h1 h2)
 · exact .of_right (intBits_le_64 h1 h2)
theorem op_add:OpR X (binaryOp .Add) (rI0 fun i j=> .int (i+j)):=opI0 fun _ _ _ _ _ _ _ q=>add_int q
theorem op_sub:OpR X (binaryOp .Sub) (rI0 fun i j=> .int (i - j)):=opI0 fun _ _ _ _ _ _ _ q=>sub_int q
theorem op_mul:OpR X (binaryOp .Mult) (rI CMul fun i j=> .int (i * j)):=opI fun _ _ _ _ _ _ _ hc q=>mul_int q hc.ok
theorem op_fdiv:OpR X (binaryOp .FloorDiv) (rI CDiv fun i j=> .int (i / j)):=opI fun i j _ _ _ _ _ hc q=>by
 have h1:(0:Int) < j:=hc.1
 have h2:j < 1073741824:=hc.2
 exact floordiv_int (by omega) (by rw [Int.fdiv_eq_ediv_of_nonneg i (by omega)];exact q) (.inl (PyProof.noPylong_small (by omega)))
theorem op_mod:OpR X (binaryOp .Mod) (rI (fun _ j=>0 < j) fun i j=> .int (i % j)):=opI fun i j _ _ _ _ _ hc q=>by
 have h1:(0:Int) < j:=hc
 exact mod_int' (by omega) (by rw [Int.fmod_eq_emod_of_nonneg i (by omega)];exact q)
theorem op_pow:OpR X (binaryOp .Pow) (rI CPow fun i j=> .int (i ^ j.toNat)):=opI fun _ _ _ _ _ _ _ hc q=>pow_int_small hc.1 hc.2.1 hc.2.2 q
theorem op_and:OpR X (binaryOp .BitAnd) (rI0 fun i j=> .int (Builtin.bitAnd i j)):=opI0 fun _ _ _ _ _ _ _ q=>and_int q
theorem op_or:OpR X (binaryOp .BitOr) (rI0 fun i j=> .int (Builtin.bitOr i j)):=opI0 fun _ _ _ _ _ _ _ q=>or_int q
theorem unI{f:Value→Sem Value}{g:Int→Int}
 (rule:∀(i:Int) (t:Tok) (s:Shared) (Q:Value→Shared→Prop) (E:Value→Shared→Prop),Q (.int (g i) s.toks) {s with toks:=s.toks+1}→wpAny (model X.prog X.w) X.A (f (.int i t)) Q E s):
 UnR X f (rU fun i=> .int (g i)):=by
 intro pins s σ H x v Q I rx h
 obtain ⟨i,rfl,q⟩:=h
 obtain ⟨t,rfl⟩:=rx
 exact rule i t s _ _ ⟨.int (g i),H,I.tok _,⟨_,rfl⟩,q⟩
theorem un_neg:UnR X (unaryOp .USub) (rU fun i=> .int (-i)):=unI fun _ _ _ _ _ q=>neg_int q
end
noncomputable def scal:V→V→Bool
 | .non,.non=>true | .non,.int _=>true | .int _,.non=>true | .non,.bl _=>true | .bl _,.non=>true | .non,.str _=>true | .str _,.non=>true
 | .int _,.int _=>true | .bl _,.bl _=>true | .str _,.str _=>true | .byt _,.byt _=>true
 | .int _,.str _=>true | .str _,.int _=>true | .bl _,.str _=>true | .str _,.bl _=>true
 | _,_=>false
noncomputable def rEq:R2:=fun x y H Q=>scal x y=true∧Q (.bl (decide (x=y))) H
noncomputable def rNe:R2:=fun x y H Q=>scal x y=true∧Q (.bl (!decide (x=y))) H
theorem dec_int{i j:Int}:decide (V.int i=V.int j)=(i==j):=by
 rw [Bool.eq_iff_iff]
 simp
theorem dec_bl{i j:Bool}:decide (V.bl i=V.bl j)=(i==j):=by
 rw [Bool.eq_iff_iff]
 simp
theorem dec_str{i j:Str}:decide (V.str i=V.str j)=(i==j):=by
 rw [Bool.eq_iff_iff]
 simp
theorem dec_byt{i j:Array UInt8}:decide (V.byt i=V.byt j)=(i.toList==j.toList):=by
 rw [Bool.eq_iff_iff]
 cases i
 cases j
 simp
section
variable {X:Cx} {a b c:Expr} {ta tb tc:TE} {pos:Pos}
theorem fin_bl{pins:List (Addr×Obj)}{σ:St}{H:Hp}{s:Shared}{Q:VK}{k k':Bool}(I:Inv X pins σ H s)(q:Q (.bl k) H)(e:k=k'):EP X pins σ Q (.bool k') s:=by
 subst e
 exact ⟨.bl k,H,I,rfl,q⟩
theorem op_eq:OpR X (compareOp .Eq) rEq:=by
 intro pins s σ H x y v u Q I rx ry h
 obtain ⟨hs,q⟩:=h
 cases x with
 | non=>
  cases rx
  cases y with
  | non=>cases ry;exact PySem.EqNone.eq_none_none (fin_bl I q (by simp))
  | bl j=>cases ry;exact PySem.EqNone.eq_none_bool (fin_bl I q (by simp))
  | int j=>obtain ⟨t',rfl⟩:=ry;exact PySem.EqNone.eq_none_int (fin_bl I q (by simp))
  | str j=>obtain ⟨t',rfl⟩:=ry;exact PySem.EqNone.eq_none_str (fin_bl I q (by simp))
  | _=>exact absurd (show false=true from hs) Bool.false_ne_true
 | bl i=>
  cases rx
  cases y with
  | non=>cases ry;exact PySem.EqNone.eq_bool_none (fin_bl I q (by simp))
  | bl j=>cases ry;exact eq_bool (fin_bl I q dec_bl)
  | str j=>obtain ⟨t',rfl⟩:=ry;exact PySem.EqMixed.eq_bool_str (fin_bl I q (by simp))
  | _=>exact absurd (show false=true from hs) Bool.false_ne_true
 | int i=>
  obtain ⟨t,rfl⟩:=rx
  cases y with
  | non=>cases ry;exact PySem.EqNone.eq_int_none (fin_bl I q (by simp))
  | int j=>obtain ⟨t',rfl⟩:=ry;exact eq_int (fin_bl I q dec_int)
  | str j=>obtain ⟨t',rfl⟩:=ry;exact PySem.EqMixed.eq_int_str (fin_bl I q (by simp))
  | _=>exact absurd (show false=true from hs) Bool.false_ne_true
 | str i=>
  obtain ⟨t,rfl⟩:=rx
  cases y with
  | non=>cases ry;exact PySem.EqNone.eq_str_none (fin_bl I q (by simp))
  | bl j=>cases ry;exact PySem.EqMixed.eq_str_bool (fin_bl I q (by simp))
  | int j=>obtain ⟨t',rfl⟩:=ry;exact PySem.EqMixed.eq_str_int (fin_bl I q (by simp))
  | str j=>obtain ⟨t',rfl⟩:=ry;exact eq_str (fin_bl I q dec_str)
  | _=>exact absurd (show false=true from hs) Bool.false_ne_true
 | byt i=>
  obtain ⟨t,rfl⟩:=rx
  cases y with
  | byt j=>obtain ⟨t',rfl⟩:=ry;exact PySem.W.eq_bytes (fin_bl I q dec_byt)
  | _=>exact absurd (show false=true from hs) Bool.false_ne_true
 | _=>cases y <;> exact absurd (show false=true from hs) Bool.false_ne_true
theorem op_ne:OpR X (compareOp .NotEq) rNe:=by
 intro pins s σ H x y v u Q I rx ry h
 obtain ⟨hs,q⟩:=h
 cases x with
 | non=>
  cases rx
  cases y with
  | non=>cases ry;exact PySem.EqNone.ne_none_none (fin_bl I q (by simp))
  | bl j=>cases ry;exact PySem.EqNone.ne_none_bool (fin_bl I q (by simp))
  | int j=>obtain ⟨t',rfl⟩:=ry;exact PySem.EqNone.ne_none_int (fin_bl I q (by simp))
  | str j=>obtain ⟨t',rfl⟩:=ry;exact PySem.EqNone.ne_none_str (fin_bl I q (by simp))
  | _=>exact absurd (show false=true from hs) Bool.false_ne_true
 | bl i=>
  cases rx
  cases y with
  | non=>cases ry;exact PySem.EqNone.ne_bool_none (fin_bl I q (by simp))
  | bl j=>cases ry;exact ne_bool (fin_bl I q (congrArg not dec_bl))
  | str j=>obtain ⟨t',rfl⟩:=ry;exact PySem.EqMixed.ne_bool_str (fin_bl I q (by simp))
  | _=>exact absurd (show false=true from hs) Bool.false_ne_true
 | int i=>
  obtain ⟨t,rfl⟩:=rx
  cases y with
  | non=>cases ry;exact PySem.EqNone.ne_int_none (fin_bl I q (by simp))
  | int j=>obtain ⟨t',rfl⟩:=ry;exact ne_int (fin_bl I q (congrArg not dec_int))
  | str j=>obtain ⟨t',rfl⟩:=ry;exact PySem.EqMixed.ne_int_str (fin_bl I q (by simp))
  | _=>exact absurd (show false=true from hs) Bool.false_ne_true
 | str i=>
  obtain ⟨t,rfl⟩:=rx
  cases y with
  | non=>cases ry;exact PySem.EqNone.ne_str_none (fin_bl I q (by simp))
  | bl j=>cases ry;exact PySem.EqMixed.ne_str_bool (fin_bl I q (by simp))
  | int j=>obtain ⟨t',rfl⟩:=ry;exact PySem.EqMixed.ne_str_int (fin_bl I q (by simp))
  | str j=>obtain ⟨t',rfl⟩:=ry;exact ne_str (fin_bl I q (congrArg not dec_str))
  | _=>exact absurd (show false=true from hs) Bool.false_ne_true
 | byt i=>
  obtain ⟨t,rfl⟩:=rx
  cases y with
  | byt j=>obtain ⟨t',rfl⟩:=ry;exact PySem.W.ne_bytes (fin_bl I q (congrArg not dec_byt))
  | _=>exact absurd (show false=true from hs) Bool.false_ne_true
 | _=>cases y <;> exact absurd (show false=true from hs) Bool.false_ne_true
theorem op_lt:OpR X (compareOp .Lt) (rI0 fun i j=> .bl (decide (i < j))):=opB0 fun _ _ _ _ _ _ _ q=>lt_int q
theorem op_le:OpR X (compareOp .LtE) (rI0 fun i j=> .bl (decide (i≤j))):=opB0 fun _ _ _ _ _ _ _ q=>le_int q
theorem op_gt:OpR X (compareOp .Gt) (rI0 fun i j=> .bl (decide (j < i))):=opB0 fun _ _ _ _ _ _ _ q=>gt_int q
theorem op_in_str:OpR X (compareOp .In) (fun x y H Q=>∃i j,x= .str i∧y= .str j∧Q (.bl (!(Builtin.Str.occurrences j i 0 j.length 1).isEmpty)) H):=by
 intro pins s σ H x y v u Q I rx ry h
 obtain ⟨i,j,rfl,rfl,q⟩:=h
 obtain ⟨t,rfl⟩:=rx
 obtain ⟨t',rfl⟩:=ry
 exact in_str (fin_bl I q rfl)
theorem op_isN:OpR X (compareOp .Is) (fun x y H Q=>y= .non∧Q (.bl (decide (x= .non))) H):=by
 intro pins s σ H x y v u Q I rx ry h
 obtain ⟨rfl,q⟩:=h
 cases ry
 refine is_none_gen (fin_bl I q ?_)
 cases x <;> first
  | (cases rx;rfl)
  | (obtain ⟨t,rfl⟩:=rx;rfl)
theorem op_notN:OpR X (compareOp .IsNot) (fun x y H Q=>y= .non∧Q (.bl (!decide (x= .non))) H):=by
 intro pins s σ H x y v u Q I rx ry h
 obtain ⟨rfl,q⟩:=h
 cases ry
 refine isnot_none_gen (fin_bl I q ?_)
 cases x <;> first
  | (cases rx;rfl)
  | (obtain ⟨t,rfl⟩:=rx;rfl)
theorem nomark(b:Expr){op:CmpOp}(h:op≠ .In:=by decide)(h2:op≠ .NotIn:=by decide):behindInMarks op b=false:=by
 have e1:(op==CmpOp.In)=false:=by cases op <;> first | rfl | exact absurd rfl h
 have e2:(op==CmpOp.NotIn)=false:=by cases op <;> first | rfl | exact absurd rfl h2
 cases b <;> simp [behindInMarks,e1,e2]
theorem pe_cmpR{op:CmpOp}{r:R2}(ho:OpR X (compareOp op) r)(ha:PE X a ta)(hb:PE X b tb)(hm:behindInMarks op b=false):PE X (.Compare a [op] [b] pos) (tOp r ta tb):=by
 intro pins s σ H Q I h
 exact wpAny_Compare1 (binT ha hb I h fun v u s2 x y H2 I2 rx ry q=>ho pins s2 σ H2 x y v u Q I2 rx ry q) hm
noncomputable def tTest(t:TE):TT:=fun σ H Q=>t σ H fun x H'=>∃k,x= .bl k∧Q k H'
theorem pt_cmpR{op:CmpOp}{r:R2}(ho:OpR X (compareOp op) r)(ha:PE X a ta)(hb:PE X b tb)(hm:behindInMarks op b=false):PT X (.Compare a [op] [b] pos) (tTest (tOp r ta tb)):=by
 intro pins s σ H Q I h
 refine wpAny_isTrue_Compare1 (thn (ha pins s σ H _ I h) fun v s1 ⟨x,H1,I1,r1,q1⟩=>thn (hb pins s1 σ H1 _ I1 q1) fun u s2 ⟨y,H2,I2,r2,q2⟩=>
  thn (ho pins s2 σ H2 x y v u _ I2 r1 r2 q2) fun c s3 ⟨z,H3,I3,r3,k,e,q3⟩=>?_) hm
 subst e
 cases r3
 exact wpAny_truthy_bool ⟨H3,I3,q3⟩
noncomputable def tChain(r r':R2)(ta tb tc:TE):TE:=fun σ H Q=>ta σ H fun x H1=>tb σ H1 fun y H2=>r x y H2 fun z H3=>∃k,z= .bl k∧
 (if k=true then tc σ H3 fun w' H4=>r' y w' H4 Q else Q (.bl false) H3)
theorem pe_chain{op op':CmpOp}{r r':R2}(ho:OpR X (compareOp op) r)(ho':OpR X (compareOp op') r')(ha:PE X a ta)(hb:PE X b tb)(hc:PE X c tc)
 (hm:lastMarks [op,op'] [b,c]=false:=by with_unfolding_all rfl):PE X (.Compare a [op,op'] [b,c] pos) (tChain r r' ta tb tc):=by
 intro pins s σ H Q I h
 refine Compare_chain (thn (ha pins s σ H _ I h) fun v s1 ⟨x,H1,I1,r1,q1⟩=>chain_link (thn (hb pins s1 σ H1 _ I1 q1) fun u s2 ⟨y,H2,I2,r2,q2⟩=>
  thn (ho pins s2 σ H2 x y v u _ I2 r1 r2 q2) fun d s3 ⟨z,H3,I3,r3,k,e,q3⟩=>?_)) hm
 subst e
 cases r3
 refine wpAny_truthy_bool ?_
 cases k with
 | false=>exact ite_ff ⟨.bl false,H3,I3,rfl,q3⟩
 | true=>exact ite_tt (chain_last (thn (hc pins s3 σ H3 _ I3 q3) fun w' s4 ⟨z',H4,I4,r4,q4⟩=>ho' pins s4 σ H4 y z' u w' Q I4 r2 r4 q4))
theorem line63:(sizeLine:Nat) < 2 ^ 63:=by rw [sizeLine_eq];decide
theorem op_add_str:OpR X (binaryOp .Add) (fun x y H Q=>∃i j,x= .str i∧y= .str j∧i.length+j.length≤sizeLine∧Q (.str (i++j)) H):=by
 intro pins s σ H x y v u Q I rx ry h
 obtain ⟨i,j,rfl,rfl,hz,q⟩:=h
 obtain ⟨t,rfl⟩:=rx
 obtain ⟨t',rfl⟩:=ry
 exact add_str (fun t' tk=>⟨.str (i++j),H,I.tok _,⟨_,rfl⟩,q⟩) hz
theorem vals1{x:V}{us:List Value}(r:Vals [x] us):∃u,us=[u]∧RelV x u:=by
 cases r with
 | cons r1 r2=>cases r2;exact ⟨_,rfl,r1⟩
theorem vals2{x y:V}{us:List Value}(r:Vals [x,y] us):∃u w',us=[u,w']∧RelV x u∧RelV y w':=by
 cases r with
 | cons r1 r2=>
  cases r2 with
  | cons r3 r4=>cases r4;exact ⟨_,_,rfl,r1,r3⟩
theorem call_int1:CallR X (.type "int") (fun xs H Q=>(∃i,xs=[.int i]∧Q (.int i) H)∨∃k,xs=[.bl k]∧Q (.int (if k then 1 else 0)) H):=by
 intro pins s σ H xs us Q I r h
 rcases h with ⟨i,rfl,q⟩ | ⟨k,rfl,q⟩
 · obtain ⟨u,rfl,t,rfl⟩:=vals1 r
   exact call_int_int ⟨.int i,H,I,⟨_,rfl⟩,q⟩
 · obtain ⟨u,rfl,r1⟩:=vals1 r
   cases r1
   exact call_int_bool ⟨.int (if k then 1 else 0),H,I.tok _,⟨_,rfl⟩,q⟩
end
end L2
namespace L2
structure ObjM(h:Heap)(x dx C:Addr)(mA:Str→Option Value):Prop where
 obj:h.get? x=some (PySem.W.instObj C dx)
 ns:h.Ns1 dx mA
 ne:dx≠x
theorem lookIn_ns{h:Heap}{dx:Addr}{mA:Str→Option Value}(n:h.Ns1 dx mA):∃od,h.get? dx=some od∧∀name,PySem.W.lookIn name od=some (mA name):=by
 obtain ⟨o,es,ep,ho,hd,hk,_,hm⟩:=n
 refine ⟨o,ho,fun name=>?_⟩
 have e:=hm name
 unfold nsFind findBy at e
 rw [← Array.find?_toList]at e
 unfold PySem.W.lookIn
 rw [hd]
 dsimp only
 split
 · rename_i y q
   rw [q]at e
   exact congrArg some e
 · rename_i q
   rw [q]at e
   have a:es.toList.any (·.refKey)=false:=by
    rw [List.any_eq_false]
    intro y hy
    obtain ⟨z,t,hkey⟩:=hk y (Array.mem_toList_iff.mp hy)
    simp [DictEntry.refKey,hkey]
   have a':¬es.toList.any (·.refKey)=true:=by rw [a];exact Bool.false_ne_true
   rw [if_neg a']
   exact congrArg some e
theorem ObjM.look{h:Heap}{x dx C:Addr}{mA:Str→Option Value}(I:ObjM h x dx C mA):∃od,PySem.W.InstAt h x (PySem.W.instObj C dx) C (some od)∧∀name,PySem.W.lookIn name od=some (mA name):=
 let ⟨od,ho,hl⟩:=lookIn_ns I.ns
 ⟨od,⟨I.obj,rfl,rfl,ho⟩,hl⟩
section
variable {prog:Program} {w:World} {A:Around} {E:Value→Shared→Prop} {s:Shared} {K:PySem.W.Frag} {x dx C f:Addr} {mA:Str→Option Value} {name:Str} {v:Value}
theorem get_map{expr:Bool}{Q:Value→Shared→Prop}(X:K.In s.heap)(I:ObjM s.heap x dx C mA)(hg:PySem.W.plainGet K C name=true)(hh:PySem.W.hasDictIn K C=true)
 (ha:PySem.W.findIn K (.ref C) name=some none) (hv:mA name=some v) (hv':PySem.W.handedIn v=true) (h:Q v {s with toks:=s.toks+1}):
 wpAny (model prog w) A (getAttr (.ref x) name expr) Q E s:=by
 obtain ⟨od,J,hl⟩:=I.look
 exact PySem.W.get_value X J (PySem.W.plainGet_of hg).1 (PySem.W.findObj_own hh ha rfl (by rw [hl,hv])) hv' h
theorem get_meth{pl:Sem Bool}{Q:Value×List Value→Shared→Prop}(X:K.In s.heap)(I:ObjM s.heap x dx C mA)(hg:PySem.W.plainGet K C name=true)
 (hf:PySem.W.findIn K (.ref C) name=some (some (.ref f))) (ht:PySem.W.isFn K (.ref f)=true) (hv:mA name=none) (h:Q (.ref f,[.ref x]) s):
 wpAny (model prog w) A (getMethod (.ref x) name pl) Q E s:=by
 obtain ⟨od,J,hl⟩:=I.look
 exact PySem.W.method_fn X J (PySem.W.plainGet_of hg).1 (PySem.W.plainGet_of hg).2 hf (beq_iff_eq.mp ht) (by show (PySem.W.lookIn name od).map (·.isSome)=some false;rw [hl,hv];rfl) h
theorem set_map{ns:List Str}{Q:Unit→Shared→Prop}(X:K.In s.heap)(I:ObjM s.heap x dx C mA)
 (hs:PySem.W.findIn K (.ref C) "__setattr__"=some (some (.builtin "object.__setattr__"))) (hp:PySem.W.plainOver K C=true) (ht:PySem.W.takerIn K C name=some none) (hh:PySem.W.hasDictIn K C=true)
 (hw:PySem.Within mA ns) (hsz:ns.length≤sizeLine)
 (h:∀h',ObjM h' x dx C (fun y=>if y=name then some v else mA y)→Heap.SameBut dx s.heap h'→Q () {s with heap:=h',toks:=s.toks+2}):
 wpAny (model prog w) A (setAttr (.ref x) name v) Q E s:=by
 obtain ⟨od,J,hl⟩:=I.look
 refine PySem.W.set_plain X J hs (PySem.W.osa_open (s:={s with toks:=s.toks+1}) (r:=none) X J hp ht fun b=>?_)
 obtain ⟨cd,hc,hd'⟩:=PySem.W.any_some hh
 have hx:s.heap.get? x=some ⟨.ref C,some dx,.plain,#[]⟩:=I.obj
 refine wpAny_bind (wpAny_pure (wpAny_bind (wpAny_bind (wpAny_loadPart hx (wpAny_bind (PySem.W.Looks.here (s:={s with toks:=s.toks+1}) (PySem.W.looks_clsIn X hc) ?_))))))
 rw [hd']
 refine wpAny_pure (a:=some dx) (wpAny_bind (wpAny_pure (wpAny_bind ?_)))
 refine wpAny_nsSet1 (s:={s with toks:=s.toks+1}) I.ns fun h' hn2 hs2=>?_
 obtain ⟨oD,esD,epD,hoD,hdD,hcD⟩:=hn2.count (PySem.Within.cons name v hw)
 refine wpAny_bind (wpAny_lookBehind hoD (by rw [hdD];exact pastItsLine_dict (Nat.le_trans hcD (by rw [List.length_cons];omega))) ?_)
 exact wpAny_pure (h _ ⟨(hs2.2 _ (Ne.symm I.ne)).trans I.obj,hn2,I.ne⟩ hs2)
theorem make_map{R:Result→Shared→Prop}{vs:List Value}{kw:List (Str×Value)}(X:K.In s.heap)(hm:PySem.W.makesIn K C=true)
 (hi:PySem.W.findIn K (.ref C) "__init__"=some (some (.ref f))) (hf:PySem.W.typeIn K (.ref f)=some (.type "function"))
 (h:codeAny (model prog w) (A.under (.builtin "type.__call__" ⟨.ref C::vs,kw⟩)) (.call (.ref f) ⟨.ref (s.heap.objs.size+1)::vs,kw⟩) (PySem.W.InitBack (s.heap.objs.size+1) R)
  {s with heap:=(s.heap.push PySem.W.emptyDict).push (PySem.W.instObj C s.heap.objs.size)}):
 codeAny (model prog w) A (.call (.ref C) ⟨vs,kw⟩) R s:=by
 obtain ⟨hh,g,d,t,os⟩:=s
 exact PySem.W.make_core (PySem.W.makes_of X hm) (PySem.W.looks_findIn X hi) (fun self=>PySem.W.bind_fn X self hf) (.inl rfl) h
end
noncomputable def putF(f:Str)(v:V):List (Str×V)→List (Str×V)
 | []=>[(f,v)]
 | (g,x)::r=>if g=f then (g,v)::r else (g,x)::putF f v r
theorem lookup_putF(f g:Str)(v:V):∀fs:List (Str×V),(putF f v fs).lookup g=if g=f then some v else fs.lookup g
 | []=>by
  show List.lookup g [(f,v)]=_
  by_cases h:g=f
  · have hb:(g==f)=true:=beq_iff_eq.mpr h
    simp only [List.lookup,hb,if_pos h]
  · have hb:(g==f)=false:=beq_eq_false_iff_ne.mpr h
    simp only [List.lookup,hb,if_neg h]
 | (k,x)::r=>by
  have ih:=lookup_putF f g v r
  rw [show putF f v ((k,x)::r)=(if k=f then (k,v)::r else (k,x)::putF f v r) from rfl]
  by_cases hk:k=f
  · rw [if_pos hk]
    by_cases h:g=k
    · have hb:(g==k)=true:=beq_iff_eq.mpr h
      simp only [List.lookup,hb,if_pos (h.trans hk)]
    · have hb:(g==k)=false:=beq_eq_false_iff_ne.mpr h
      simp only [List.lookup,hb,if_neg (fun e:g=f=>h (e.trans hk.symm))]
  · rw [if_neg hk]
    by_cases h:g=k
    · have hb:(g==k)=true:=beq_iff_eq.mpr h
      simp only [List.lookup,hb,if_neg (fun e:g=f=>hk (h.symm.trans e))]
    · have hb:(g==k)=false:=beq_eq_false_iff_ne.mpr h
      simp only [List.lookup,hb]
      exact ih
theorem keys_putF(f:Str)(v:V):∀fs:List (Str×V),f∈(putF f v fs).map (·.1)∧∀g,g∈fs.map (·.1)→g∈(putF f v fs).map (·.1)
 | []=>⟨by simp [putF],fun g h=>by simp at h⟩
 | (k,x)::r=>by
  obtain ⟨i1,i2⟩:=keys_putF f v r
  rw [show putF f v ((k,x)::r)=(if k=f then (k,v)::r else (k,x)::putF f v r) from rfl]
  by_cases hk:k=f
  · rw [if_pos hk]
    subst hk
    exact ⟨by simp,fun g h=>by simpa using h⟩
  · rw [if_neg hk]
    refine ⟨?_,fun g h=>?_⟩
    · rw [List.map_cons]
      exact List.mem_cons_of_mem _ i1
    · rw [List.map_cons]at h ⊢
      rcases List.mem_cons.mp h with e | e
      · exact List.mem_cons.mpr (.inl e)
      · exact List.mem_cons_of_mem _ (i2 g e)
theorem length_putF(f:Str)(v:V):∀fs:List (Str×V),(putF f v fs).length≤fs.length+1
 | []=>by simp [putF]
 | (k,x)::r=>by
  have ih:=length_putF f v r
  rw [show putF f v ((k,x)::r)=(if k=f then (k,v)::r else (k,x)::putF f v r) from rfl]
  by_cases hk:k=f
  · rw [if_pos hk,List.length_cons,List.length_cons];omega
  · rw [if_neg hk,List.length_cons,List.length_cons];omega
theorem RelO.some_of{v:V}{o:Option Value}(r:RelO (some v) o):∃u,o=some u∧RelV v u:=by
 cases o with
 | none=>exact (show False from r).elim
 | some u=>exact ⟨u,rfl,r⟩
theorem RelO.none_of{o:Option Value}(r:RelO none o):o=none:=by
 cases o with
 | none=>rfl
 | some u=>exact (show False from r).elim
theorem handed_of{v:V}{u:Value}(r:RelV v u):PySem.W.handedIn u=true:=by
 cases v with
 | non=>cases (show u=Value.none from r);rfl
 | bl b=>cases (show u=Value.bool b from r);rfl
 | int i=>obtain ⟨t,e⟩:=(show ∃t,u=Value.int i t from r);cases e;rfl
 | str x=>obtain ⟨t,e⟩:=(show ∃t,u=Value.str x t from r);cases e;rfl
 | byt b=>obtain ⟨t,e⟩:=(show ∃t,u=Value.bytes b t from r);cases e;rfl
 | flt b=>obtain ⟨t,e⟩:=(show ∃t,u=Value.float b t from r);cases e;rfl
 | ref a=>cases (show u=Value.ref a from r);rfl
 | ty n=>cases (show u=Value.type n from r);rfl
section
variable {P:Program} {w:World} {H H':Hp} {h h':Heap} {a C dx:Addr} {fs fs':List (Str×V)}
theorem ins_get(hok:HOk P w H h)(e:H a=some (.ins C dx fs)):∃mA,ObjM h a dx C mA∧(∀f,RelO (fs.lookup f) (mA f))∧PySem.Within mA (fs.map (·.1))∧fs.length≤1000∧H dx=some (.own a):=by
 obtain ⟨d,z,ne,ob,mA,n,r,q⟩:=(show ObjOk P w H h a (.ins C dx fs) from hok a _ e)
 exact ⟨mA,⟨ob,n,ne⟩,r,q,z,d⟩
end
structure Cls(K:PySem.W.Frag)(C:Addr):Prop where
 pg:PySem.W.plainGet K C Str.empty=true
 hd:PySem.W.hasDictIn K C=true
 po:PySem.W.plainOver K C=true
 sa:PySem.W.findIn K (.ref C) "__setattr__"=some (some (.builtin "object.__setattr__"))
theorem Cls.get{K:PySem.W.Frag}{C:Addr}(c:Cls K C)(f:Str):PySem.W.plainGet K C f=true:=c.pg
noncomputable def NoAttr(K:PySem.W.Frag)(C:Addr)(f:Str):Prop:=PySem.W.findIn K (.ref C) f=some none
theorem NoAttr.taker{K:PySem.W.Frag}{C:Addr}{f:Str}(n:NoAttr K C f):PySem.W.takerIn K C f=some none:=by
 unfold PySem.W.takerIn
 rw [show PySem.W.findIn K (.ref C) f=some none from n]
 rfl
structure Meth(K:PySem.W.Frag)(C:Addr)(m:Str)(f:Addr):Prop where
 at_:PySem.W.findIn K (.ref C) m=some (some (.ref f))
 fn:PySem.W.isFn K (.ref f)=true
 kp:PySem.W.keepIn K (.ref f)=true
section
variable {X:Cx} {pins:List (Addr×Obj)} {σ:St} {H:Hp} {s:Shared} {a C dx:Addr} {fs:List (Str×V)} {f:Str} {v:V} {A:Around} {E:Value→Shared→Prop}
theorem getattr_ok{b:Bool}{Q:Value→Shared→Prop}(I:Inv X pins σ H s)(e:H a=some (.ins C dx fs))(c:Cls X.K C)(n:NoAttr X.K C f)(l:fs.lookup f=some v)
 (h:∀u s',Inv X pins σ H s'→RelV v u→Q u s'):wpAny (model X.prog X.w) A (getAttr (.ref a) f b) Q E s:=by
 obtain ⟨mA,O,r,_,_,_⟩:=ins_get I.hok e
 obtain ⟨u,hu,ru⟩:=RelO.some_of (v:=v) (o:=mA f) (by rw [← l];exact r f)
 exact get_map I.kIn O (c.get f) c.hd n hu (handed_of ru) (h u _ (I.tok _) ru)
theorem getmeth_ok{m:Str}{g:Addr}{pl:Sem Bool}{Q:Value×List Value→Shared→Prop}(I:Inv X pins σ H s)(e:H a=some (.ins C dx fs))(c:Cls X.K C)(k:Meth X.K C m g)(l:fs.lookup m=none)
 (h:Q (.ref g,[.ref a]) s):wpAny (model X.prog X.w) A (getMethod (.ref a) m pl) Q E s:=by
 obtain ⟨mA,O,r,_,_,_⟩:=ins_get I.hok e
 have hn:mA m=none:=RelO.none_of (by rw [← l];exact r m)
 exact get_meth I.kIn O (c.get m) k.at_ k.fn hn h
theorem setattr_ok{y:V}{u:Value}{Q:Unit→Shared→Prop}(I:Inv X pins σ H s)(e:H a=some (.ins C dx fs))(c:Cls X.K C)(n:NoAttr X.K C f)(hl:fs.length < 1000)(ry:RelV y u)
 (h:∀s',Inv X pins σ (upd H a (.ins C dx (putF f y fs))) s'→Q () s'):wpAny (model X.prog X.w) A (setAttr (.ref a) f u) Q E s:=by
 obtain ⟨mA,O,r,wi,_,ho⟩:=ins_get I.hok e
 have hz:(fs.map (·.1)).length≤sizeLine:=by rw [List.length_map,sizeLine_eq];omega
 refine set_map I.kIn O c.sa c.po n.taker c.hd wi hz fun h' O' sb=>h _ ?_
 have hd:∃o,h'.get? dx=some o:=let ⟨o,_,_,e',_⟩:=O'.ns;⟨o,e'⟩
 refine I.write (x:=a) (e:=dx) (by rw [e];exact True.intro) (.inr ho) (fun b q hb z=>(sb.2 b hb).trans z) hd ?_
 refine ⟨by rw [upd_ne O.ne];exact ho,?_,O.ne,O'.obj,_,O'.ns,fun g=>?_,fun g hg=>?_⟩
 · have:=length_putF f y fs;omega
 · show RelO ((putF f y fs).lookup g) (if g=f then some u else mA g)
   rw [lookup_putF]
   by_cases q:g=f
   · rw [if_pos q,if_pos q];exact ry
   · rw [if_neg q,if_neg q];exact r g
 · by_cases q:g=f
   · rw [q];exact (keys_putF f y fs).1
   · refine (keys_putF f y fs).2 g (wi g fun z=>hg ?_)
     show (if g=f then some u else mA g)=none
     rw [if_neg q];exact z
theorem Inv.made(I:Inv X pins σ H s):Inv X pins σ (upd (upd H s.heap.objs.size (.own (s.heap.objs.size+1))) (s.heap.objs.size+1) (.ins C s.heap.objs.size []))
 {s with heap:=(s.heap.push PySem.W.emptyDict).push (PySem.W.instObj C s.heap.objs.size)}:=by
 have e1:(s.heap.push PySem.W.emptyDict).get? s.heap.objs.size=some PySem.W.emptyDict:=Heap.get?_push_size s.heap rfl
 have e2:((s.heap.push PySem.W.emptyDict).push (PySem.W.instObj C s.heap.objs.size)).get? (s.heap.objs.size+1)=some (PySem.W.instObj C s.heap.objs.size):=by
  have:=Heap.get?_push_size (s.heap.push PySem.W.emptyDict) (o:=PySem.W.instObj C s.heap.objs.size) rfl
  rwa [Heap.size_push]at this
 have e3:(s.heap.push PySem.W.emptyDict).Ns s.heap.objs.size (fun _=>none):=⟨PySem.W.emptyDict,#[],_,e1,rfl,(fun e he=>absurd he (by simp)),fun _=>rfl⟩
 have I1:=I.laid (a:=s.heap.objs.size) (o:= .own (s.heap.objs.size+1)) (h':=s.heap.push PySem.W.emptyDict) (t':=s.toks) (fun b u q=>Heap.get?_push_of_some _ q) (Nat.le_refl _) ⟨_,e1⟩
 refine I1.laid (a:=s.heap.objs.size+1) (o:= .ins C s.heap.objs.size []) (t':=s.toks) (fun b u q=>Heap.get?_push_of_some _ q) (Nat.le_of_eq (Heap.size_push _ _)) ?_
 have ne:s.heap.objs.size≠s.heap.objs.size+1:=Nat.ne_of_lt (Nat.lt_succ_self _)
 refine ⟨by rw [upd_ne ne,upd_same],Nat.zero_le _,ne,e2,fun _=>none,(Heap.Ns1.of_empty e3).at fun o q=>Heap.get?_push_of_some _ q,fun _=>True.intro,fun y hy=>absurd rfl hy⟩
theorem attr_of{prog:Program}{w:World}{env:Env}{e:Expr}{f:Str}{pos:Pos}{s:Shared}{Q:Value→Shared→Prop}(hb:attributeBase e f env (eval e env)=eval e env)
 (h:wpAny (model prog w) A (eval e env) (fun o s₁=>wpAny (model prog w) A (getAttr o f true) Q E s₁) E s):wpAny (model prog w) A (eval (.Attribute e f pos) env) Q E s:=
 Attribute_any_ h (by rw [arm_eval_Attribute,hb])
end
noncomputable def tFld(K:PySem.W.Frag)(ta:TE)(f:Str):TE:=fun σ H Q=>ta σ H fun x H1=>∃a C dx fs v,x= .ref a∧H1 a=some (.ins C dx fs)∧Cls K C∧NoAttr K C f∧fs.lookup f=some v∧Q v H1
noncomputable def sFld(K:PySem.W.Frag)(ta tv:TE)(f:Str):TS:=fun D σ H=>tv σ H fun y H1=>ta σ H1 fun x H2=>∃a C dx fs,x= .ref a∧H2 a=some (.ins C dx fs)∧Cls K C∧NoAttr K C f∧fs.length < 1000∧
 D.nx σ (upd H2 a (.ins C dx (putF f y fs)))
section
variable {X:Cx} {o e value:Expr} {f:Str} {pos pos' tpos:Pos} {ta tv:TE}
theorem pe_fld(he:PE X e ta)(hb:attributeBase e f X.env (eval e X.env)=eval e X.env):PE X (.Attribute e f pos) (tFld X.K ta f):=by
 intro pins s σ H Q I h
 refine attr_of hb (thn (he pins s σ H _ I h) fun u s1 hq_=>?_)
 obtain ⟨x,H1,I1,rx,a,C,dx,fs,v,ex,ea,c,n,l,q⟩:=hq_
 subst ex
 obtain rfl:u=Value.ref a:=rx
 exact getattr_ok I1 ea c n l fun u' s2 I2 ru=>⟨v,H1,I2,ru,q⟩
theorem ps_fld(ha:PE X o ta)(hv:PE X value tv)(hs:swapsWith value (some (.Attribute o f pos')) pos.line X.env=pure false):PS X (.Assign [.Attribute o f pos'] value pos) (sFld X.K ta tv f):=by
 intro pins s σ H D I h
 refine plainObj_wpAny_Assign_Attribute (thn (hv pins s σ H _ I h) fun u s1 ⟨y,H1,I1,ry,q⟩=>thn (ha pins s1 σ H1 _ I1 q) fun ov s2 hq_=>?_) hs
 obtain ⟨x,H2,I2,rx,a,C,dx,fs,ex,ea,c,n,l,q2⟩:=hq_
 subst ex
 obtain rfl:ov=Value.ref a:=rx
 exact setattr_ok I2 ea c n l ry fun s3 I3=>⟨σ,_,I3,q2⟩
end
section
variable {X:Cx} {pins:List (Addr×Obj)} {σ:St} {H:Hp} {s:Shared} {A:Around} {E:Value→Shared→Prop} {Q:Value→Shared→Prop} {c:Value} {b:Bool}
inductive TyOf(K:PySem.W.Frag)(H:Hp):V→Value→Prop where
 | non:TyOf K H .non (.type "NoneType")
 | bl (x:Bool):TyOf K H (.bl x) (.type "bool")
 | int (i:Int):TyOf K H (.int i) (.type "int")
 | str (x:Str):TyOf K H (.str x) (.type "str")
 | flt (x:UInt64):TyOf K H (.flt x) (.type "float")
 | lst {a:Addr} {xs:List V} (e:H a=some (.lst xs)):TyOf K H (.ref a) (.type "list")
 | frz {a:Addr} {o:Obj} {xs:List V} (e:H a=some (.frz o (.lst xs))):TyOf K H (.ref a) (.type "list")
 | tup {a:Addr} {xs:List V} (e:H a=some (.tup xs)):TyOf K H (.ref a) (.type "tuple")
 | dK {a:Addr} {kvs:List (Key×V)} (e:H a=some (.dK kvs)):TyOf K H (.ref a) (.type "dict")
 | dT {a:Addr} {kvs:List (List Key×V)} (e:H a=some (.dT kvs)):TyOf K H (.ref a) (.type "dict")
 | ins {a C dx:Addr} {fs:List (Str×V)} (e:H a=some (.ins C dx fs)) (cl:Cls K C) (ha:PySem.W.findIn K (.ref C) "__class__"=some (some (.builtin "object.__class__")))
  (hn:PySem.W.specialIn K (.builtin "object.__class__") "__get__"=some (some (.builtin "getset_descriptor.__get__"))) (htk:PySem.W.takesIn K (.builtin "object.__class__")=some true)
  (hm:PySem.W.mroIn K C (.type "object")=some true):TyOf K H (.ref a) (.ref C)
theorem isinst_ok{x:V}{u t:Value}(I:Inv X pins σ H s)(rx:RelV x u)(ty:TyOf X.K H x t)(e:PySem.W.kitOne X.K t c=some b)(h:∀tk,Q (.bool b) {s with toks:=tk}):
 wpAny (model X.prog X.w) A (call (.builtin "isinstance") [u,c]) Q E s:=by
 cases ty with
 | non=>cases (show u=Value.none from rx);exact PySem.W.kia_one PySem.W.kitx_none I.kIn True.intro e (fun z=>nomatch z) h
 | bl y=>cases (show u=Value.bool y from rx);exact PySem.W.kia_one PySem.W.kitx_bool I.kIn True.intro e (fun z=>nomatch z) h
 | int i=>obtain ⟨t,q⟩:=(show ∃t,u=Value.int i t from rx);cases q;exact PySem.W.kia_one PySem.W.kitx_int I.kIn True.intro e (fun z=>nomatch z) h
 | str y=>obtain ⟨t,q⟩:=(show ∃t,u=Value.str y t from rx);cases q;exact PySem.W.kia_one PySem.W.kitx_str I.kIn True.intro e (fun z=>nomatch z) h
 | flt y=>obtain ⟨t,q⟩:=(show ∃t,u=Value.float y t from rx);cases q;exact PySem.W.kia_one PySem.W.kitx_float I.kIn True.intro e (fun z=>nomatch z) h
 | @lst a xs ea=>
  cases (show u=Value.ref a from rx)
  obtain ⟨_,_,n,_,h1⟩:=(show ObjOk X.prog X.w H s.heap a (.lst xs) from I.hok a _ ea)
  exact PySem.W.kia_one PySem.W.kitx_list I.kIn ⟨_,h1,rfl⟩ e (fun z=>nomatch z) h
 | @frz a ob xs ea=>
  cases (show u=Value.ref a from rx)
  obtain ⟨_,_,_,n,_,h1⟩:=(show ObjOk X.prog X.w H s.heap a (.frz ob (.lst xs)) from I.hok a _ ea)
  exact PySem.W.kia_one PySem.W.kitx_list I.kIn ⟨_,h1,rfl⟩ e (fun z=>nomatch z) h
 | @tup a xs ea=>
  cases (show u=Value.ref a from rx)
  obtain ⟨_,_,_,p⟩:=(show ObjOk X.prog X.w H s.heap a (.tup xs) from I.hok a _ ea)
  obtain ⟨o,h1,h2,_⟩:=p
  exact PySem.W.kia_one PySem.W.kitx_tuple I.kIn ⟨o,h1,h2⟩ e (fun z=>nomatch z) h
 | @dK a kvs ea=>
  cases (show u=Value.ref a from rx)
  obtain ⟨_,_,vs,_,p⟩:=(show ObjOk X.prog X.w H s.heap a (.dK kvs) from I.hok a _ ea)
  obtain ⟨o,es,ep,h1,h2,_⟩:=p
  exact PySem.W.kia_one PySem.W.kitx_dict I.kIn ⟨o,h1,h2.1⟩ e (fun z=>nomatch z) h
 | @dT a kvs ea=>
  cases (show u=Value.ref a from rx)
  obtain ⟨_,_,xs,_,o,es,ep,h1,h2,_⟩:=(show ObjOk X.prog X.w H s.heap a (.dT kvs) from I.hok a _ ea)
  exact PySem.W.kia_one PySem.W.kitx_dict I.kIn ⟨o,h1,h2.1⟩ e (fun z=>nomatch z) h
 | @ins a C dx fs ea cl ha hn htk hm=>
  cases (show u=Value.ref a from rx)
  obtain ⟨mA,O,_⟩:=ins_get I.hok ea
  obtain ⟨od,J,_⟩:=O.look
  exact PySem.W.kia_one (PySem.W.kitx_own (cl.get _) cl.hd ha hn htk hm) I.kIn J e (fun z=>nomatch z) h
end
end L2
namespace L2
structure Room(k:Nat)(A:Around):Prop where
 hd:A.handled=none
 dp:A.depth+3 * k+5 < recursionLimit
 un:A.units+16 * k+200 < cLine
theorem Room.mono{j k:Nat}{A:Around}(r:Room k A)(h:j≤k):Room j A:=⟨r.hd,by have:=r.dp;omega,by have:=r.un;omega⟩
theorem Room.deeper{k:Nat}{A:Around}(r:Room (k+1) A)(env:Env):Room k (A.deeper env):=
 ⟨r.hd,by have:=r.dp;show A.depth+1+3 * k+5 < _;omega,by have:=r.un;show A.units+3+16 * k+200 < _;omega⟩
theorem make_depth{A:Around}{C:Addr}{us:List Value}{kw:List (Str×Value)}:(A.under (.builtin "type.__call__" ⟨.ref C::us,kw⟩)).depth=A.depth+1:=by
 first | rfl | simp [Around.under,Code.weight,Code.isCreation,Code.isGuard,Code.isCaller,Code.frames,Code.isFrame,guardIds]
theorem make_units{A:Around}{C:Addr}{us:List Value}{kw:List (Str×Value)}:(A.under (.builtin "type.__call__" ⟨.ref C::us,kw⟩)).units=A.units+1:=by
 first | rfl | simp [Around.under,Code.cUnits,Code.frames,Code.isFrame]
theorem Room.make{k:Nat}{A:Around}(r:Room (k+1) A)(C:Addr)(us:List Value)(kw:List (Str×Value)):Room k (A.under (.builtin "type.__call__" ⟨.ref C::us,kw⟩)):=
 ⟨r.hd,by have:=r.dp;rw [make_depth];omega,by have:=r.un;rw [make_units];omega⟩
theorem Room.depth{k:Nat}{A:Around}(r:Room k A):A.depth < recursionLimit:=by have:=r.dp;omega
theorem Room.units{k:Nat}{A:Around}(r:Room k A):A.units+64 < cLine:=by have:=r.un;omega
noncomputable def tNil:TA:=fun _ H Q=>Q [] H
noncomputable def tCons(ta:TE)(tr:TA):TA:=fun σ H Q=>ta σ H fun x H1=>tr σ H1 fun xs H2=>Q (x::xs) H2
section
variable {X:Cx} {e:Expr} {es:List Expr} {te:TE} {t:TA} {pos:Pos}
theorem pa_nil:PA X [] tNil:=fun _ _ _ _ H Q I h=>Calls.spliced_nil ⟨[],H,I,.nil,h⟩
theorem pa_cons(ha:PE X e te)(hr:PA X es t)(hs:starEach (e::es) X.env=(false,eval e X.env)::starEach es X.env:=by rfl):PA X (e::es) (tCons te t):=by
 intro pos pins s σ H Q I h
 rw [hs]
 show wpAny _ _ (spliced ((false,eval e X.env)::backTo pos (starEach es X.env))) _ _ s
 refine Calls.spliced_cons (thn (ha pins s σ H _ I h) fun u s1 hq_=>?_)
 obtain ⟨x,H1,I1,r1,q1⟩:=hq_
 exact thn (hr pos pins s1 σ H1 _ I1 q1) fun us s2 ⟨xs,H2,I2,r2,q2⟩=>⟨x::xs,H2,I2,.cons r1 r2,q2⟩
noncomputable def tTup(t:TA):TE:=fun σ H Q=>t σ H fun xs H1=>xs.length≤sizeLine∧∀p,H1 p=none→Q (.ref p) (upd H1 p (.tup xs))
noncomputable def tLst(t:TA):TE:=fun σ H Q=>t σ H fun xs H1=>xs.length≤sizeLine∧∀p,H1 p=none→Q (.ref p) (upd H1 p (.lst xs))
theorem pe_tup{x1}(h:PA X es t):PE X (.Tuple es x1 pos) (tTup t):=by
 intro pins s σ H Q I hq
 refine wpAny_Tuple_spliced (thn (h pos pins s σ H _ I hq) fun us s1 ⟨xs,H1,I1,r,z,q⟩=>⟨by rw [← r.length];exact z,?_⟩)
 have hf:H1 s1.heap.objs.size=none:=I1.hok.fresh (Nat.le_refl _)
 refine ⟨.ref s1.heap.objs.size,upd H1 s1.heap.objs.size (.tup xs),I1.laid (t':=s1.toks) (fun b u e=>Heap.get?_push_of_some _ e) (Nat.le_refl _) ?_,rfl,q _ hf⟩
 exact ⟨z,us,r,⟨_,Heap.get?_push_size _ rfl,rfl,_,rfl⟩⟩
theorem pe_lst(h:PA X es t):PE X (.List es pos) (tLst t):=by
 intro pins s σ H Q I hq
 refine wpAny_List_spliced (thn (h pos pins s σ H _ I hq) fun us s1 ⟨xs,H1,I1,r,z,q⟩=>⟨by rw [← r.length];exact z,?_⟩)
 have hf:H1 s1.heap.objs.size=none:=I1.hok.fresh (Nat.le_refl _)
 refine ⟨.ref s1.heap.objs.size,upd H1 s1.heap.objs.size (.lst xs),I1.laid (t':=s1.toks) (fun b u e=>Heap.get?_push_of_some _ e) (Nat.le_refl _) ?_,rfl,q _ hf⟩
 exact ⟨z,us,0,r,Heap.get?_push_size _ rfl⟩
end
noncomputable abbrev Sp:=List V→Hp→VK→XK→Prop
noncomputable abbrev CXT:=List Env→Hp→Shared→XK→Value→Shared→Prop
structure Env0(P:Program)(w:World)(K:PySem.W.Frag)(mg:Str→Option Value)(base:Heap)(A:Around)(outer:List Env)(s:Shared)(H:Hp):Prop where
 frames:A.frames=some outer
 mod:Mod K mg base
 bs:∀b o,base.get? b=some o→s.heap.get? b=some o∧H b=none
 bsz:base.objs.size≤s.heap.objs.size
 funs:s.heap.FunFrames base outer
 frf:∀b∈frs outer,H b=none
 hok:HOk P w H s.heap
 bare:AllBare s.gens
noncomputable def CE(outer:List Env)(P:Program)(w:World)(H:Hp)(s:Shared)(Q:VK)(u:Value)(s':Shared):Prop:=
 ∃v H',s'.os=s.os∧AllBare s'.gens∧Un (frs outer) [] H H' s.heap s'.heap∧HOk P w H' s'.heap∧RelV v u∧Q v H'
noncomputable def CR(CX:CXT)(outer:List Env)(P:Program)(w:World)(H:Hp)(s:Shared)(Q:VK)(E:XK)(r:Result)(s':Shared):Prop:=
 match r with
 | .ok (.ret u)=>CE outer P w H s Q u s'
 | .ok _=>False
 | .error e=>CX outer H s E e s'
structure FnOk(P:Program)(w:World)(K:PySem.W.Frag)(mg:Str→Option Value)(base:Heap)(CX:CXT)(k:Nat)(f:Addr)(fd:FuncData)(ps:List Str)(sp:Sp):Prop where
 len:∀vs H Q E,sp vs H Q E→vs.length=ps.length
 run:∀(A:Around) (outer:List Env) (s:Shared) (H:Hp) (args:Args) (us:List Value) (vs:List V) (Q:VK) (E:XK),Room k A→Env0 P w K mg base A outer s H→BindsTo s fd args (ps.zip us)→Vals vs us→sp vs H Q E→
  codeAny (model P w) A (.call (.ref f) args) (CR CX outer P w H s Q E) s
theorem FnOk.mono{P:Program}{w:World}{K:PySem.W.Frag}{mg:Str→Option Value}{base:Heap}{CX:CXT}{j k:Nat}{f:Addr}{fd:FuncData}{ps:List Str}{sp:Sp}(F:FnOk P w K mg base CX j f fd ps sp)(h:j≤k):
 FnOk P w K mg base CX k f fd ps sp:=⟨F.len,fun A outer s H args us vs Q E hr=>F.run A outer s H args us vs Q E (hr.mono h)⟩
theorem Env0.make{P:Program}{w:World}{K:PySem.W.Frag}{mg:Str→Option Value}{base:Heap}{A:Around}{outer:List Env}{s:Shared}{H:Hp}(e:Env0 P w K mg base A outer s H)(C:Addr)(us:List Value)(kw:List (Str×Value)):
 Env0 P w K mg base (A.under (.builtin "type.__call__" ⟨.ref C::us,kw⟩)) outer s H:=⟨by first | exact e.frames | (simpa [Around.under,Code.envs,Code.isFrame,pushEnvs] using e.frames),e.mod,e.bs,e.bsz,e.funs,e.frf,e.hok,e.bare⟩
section
variable {X:Cx} {pins:List (Addr×Obj)} {σ:St} {H:Hp} {s s':Shared}
theorem Inv.env0(I:Inv X pins σ H s):Env0 X.prog X.w X.K X.mg X.base X.A X.stack s H:=
 ⟨I.ok.frames,I.ok.mod,I.bs,Nat.le_trans I.ok.bsz I.sz,I.stack,I.stkFree,I.hok,I.bare⟩
theorem Inv.after{Q:VK}{u:Value}(I:Inv X pins σ H s)(h:CE X.stack X.prog X.w H s Q u s'):EP X pins σ Q u s':=by
 obtain ⟨v,H',os,bare,un,hok,r,q⟩:=h
 obtain ⟨hh,g,d,t,os'⟩:=s'
 obtain rfl:os'=s.os:=os
 exact ⟨v,H',I.call (h':=hh) (g':=g) (d':=d) (t':=t) (ch:=[]) un hok bare (fun b z=>absurd z (by simp)),r,q⟩
end
noncomputable def tCall(sp:Sp)(dvs:List V)(E:XK)(t:TA):TE:=fun σ H Q=>t σ H fun vs H1=>sp (vs++dvs) H1 Q E
noncomputable def Binds(K:PySem.W.Frag)(fd:FuncData)(ps:List Str)(ds:List Value):Prop:=
 ∀(s:Shared) (us:List Value),K.In s.heap→(us++ds).length=ps.length→BindsTo s fd ⟨us,[]⟩ (ps.zip (us++ds))
theorem Binds.all{K:PySem.W.Frag}{fd:FuncData}{ps:List Str}(h:∀us:List Value,us.length=ps.length→bindArgs fd ⟨us,[]⟩=pure (ps.zip us)):Binds K fd ps []:=fun s us _ hl=>by
 rw [List.append_nil]at hl ⊢
 exact .of_eq (h us hl)
noncomputable def Passes(CX:CXT)(X:Cx)(E:XK):Prop:=∀(pins:List (Addr×Obj)) (σ:St) (H:Hp) (s:Shared) (e:Value) (s':Shared),Inv X pins σ H s→CX X.stack H s E e s'→X.xe e s'
section
variable {X:Cx} {CX:CXT} {k:Nat} {f C:Addr} {fd:FuncData} {ps:List Str} {sp:Sp} {dvs:List V} {ds:List Value} {E:XK} {x m:Str} {p pos apos:Pos} {e o:Expr} {es:List Expr} {ta:TE} {t:TA}
theorem run_fn{pins:List (Addr×Obj)}{σ:St}{H:Hp}{s:Shared}{Q:VK}{us:List Value}{vs:List V}(F:FnOk X.prog X.w X.K X.mg X.base CX k f fd ps sp)(hr:Room k X.A)(hb:Binds X.K fd ps ds)(hd:Vals dvs ds)(hx:Passes CX X E)
 (I:Inv X pins σ H s) (r:Vals vs us) (h:sp (vs++dvs) H Q E):wpAny (model X.prog X.w) X.A (call (.ref f) us) (EP X pins σ Q) X.xe s:=by
 have r2:Vals (vs++dvs) (us++ds):=r.append hd
 have hl:(us++ds).length=ps.length:=by rw [← r2.length];exact F.len _ _ _ _ h
 refine wpAny_call (codeAny_mono (F.run X.A X.stack s H ⟨us,[]⟩ (us++ds) (vs++dvs) Q E hr I.env0 (hb s us I.kIn hl) r2 h) fun r s' hq=>?_)
 cases r with
 | error e=>exact hx pins σ H s e s' I hq
 | ok fl=>
  cases fl with
  | ret u=>exact I.after hq
  | next=>exact False.elim hq
  | brk=>exact False.elim hq
  | cont=>exact False.elim hq
theorem pe_call(F:FnOk X.prog X.w X.K X.mg X.base CX k f fd ps sp)(hr:Room k X.A)(hg:Gl X x)(hm:X.mg x=some (.ref f))(hk:PySem.W.keepIn X.K (.ref f)=true)(hb:Binds X.K fd ps ds)(hd:Vals dvs ds)(hx:Passes CX X E)
 (ha:PA X (e::es) t) (hdb:(x==("__debug__":Str))=false:=by decide) (he:starEach (e::es) X.env=(false,eval e X.env)::starEach es X.env:=by rfl) (hpl:(backTo pos (starEach es X.env)).any (·.1)=false:=by rfl):
 PE X (.Call (.Name x p) (e::es) [] pos) (tCall sp dvs E t):=by
 intro pins s σ H Q I h
 refine wpAny_Call_Name_kw (ld_glob I hg hm ?_ hdb)
 refine PySem.W.callWith_K (h₀:=X.base) I.ok.mod.kin hk (thn (ha pos pins s σ H _ I h) fun us s1 ⟨vs,H1,I1,r,q⟩=>⟨I1.kIn,?_⟩) he hpl
 exact run_fn F hr hb hd hx I1 r q
structure Mk(K:PySem.W.Frag)(C f:Addr):Prop where
 makes:PySem.W.makesIn K C=true
 init:PySem.W.findIn K (.ref C) "__init__"=some (some (.ref f))
 fn:PySem.W.isFn K (.ref f)=true
 kp:PySem.W.keepIn K (.ref C)=true
end
structure FnScope(N P:List Str)(sc:Scope):Prop where
 kind:sc.kind= .function
 co:sc.isCoroutine=false
 gen:sc.isGenerator=false
 nd:N.Nodup
 pre:N.take P.length=P
 par:∀x∈P,sc.names.lookup x=some .local∨sc.names.lookup x=some .cell
 nofree:∀y∈sc.names,y.2≠ .free
theorem bindL_out{kindOf:Str→Option NameKind}{x:Str}:∀{binds:List (Str×Value)} {m:Str→Option Value},(∀v,(x,v)∉binds)→bindL kindOf binds m x=m x
 | [],_,_=>rfl
 | (n,v)::r,m,h=>by
  unfold bindL
  rw [bindL_out fun w hw=>h w (List.mem_cons_of_mem _ hw)]
  split
  · have:x≠n:=by rintro rfl;exact h v List.mem_cons_self
    simp [this]
  · rfl
theorem bindC_out{kindOf:Str→Option NameKind}{x:Str}:∀{binds:List (Str×Value)} {m:Str→Option Value},(∀v,(x,v)∉binds)→bindC kindOf binds m x=m x
 | [],_,_=>rfl
 | (n,v)::r,m,h=>by
  unfold bindC
  rw [bindC_out fun w hw=>h w (List.mem_cons_of_mem _ hw)]
  split
  · rfl
  · have:x≠n:=by rintro rfl;exact h v List.mem_cons_self
    simp [this]
theorem bindL_get{kindOf:Str→Option NameKind}{x:Str}{v:Value}:∀{P:List Str} {vs:List Value} {i:Nat} {m:Str→Option Value},P.Nodup→P[i]?=some x→vs[i]?=some v→kindOf x=some .local→
 bindL kindOf (P.zip vs) m x=some v
 | [],_,_,_,_,h,_,_=>by simp at h
 | _::_,[],_,_,_,_,h,_=>by simp at h
 | p::P,w::vs,0,m,nd,h1,h2,hk=>by
  simp at h1 h2;subst h1;subst h2
  show bindL kindOf ((p,w)::P.zip vs) m p=_
  unfold bindL
  rw [bindL_out fun v hv=>(List.nodup_cons.mp nd).1 (List.of_mem_zip hv).1,if_pos hk]
  simp
 | p::P,w::vs,i+1,m,nd,h1,h2,hk=>by
  show bindL kindOf ((p,w)::P.zip vs) m x=_
  unfold bindL
  exact bindL_get (i:=i) (List.nodup_cons.mp nd).2 (by simpa using h1) (by simpa using h2) hk
theorem bindC_get{kindOf:Str→Option NameKind}{x:Str}{v:Value}:∀{P:List Str} {vs:List Value} {i:Nat} {m:Str→Option Value},P.Nodup→P[i]?=some x→vs[i]?=some v→kindOf x≠some .local→
 bindC kindOf (P.zip vs) m x=some v
 | [],_,_,_,_,h,_,_=>by simp at h
 | _::_,[],_,_,_,_,h,_=>by simp at h
 | p::P,w::vs,0,m,nd,h1,h2,hk=>by
  simp at h1 h2;subst h1;subst h2
  show bindC kindOf ((p,w)::P.zip vs) m p=_
  unfold bindC
  rw [bindC_out fun v hv=>(List.nodup_cons.mp nd).1 (List.of_mem_zip hv).1,if_neg hk]
  simp
 | p::P,w::vs,i+1,m,nd,h1,h2,hk=>by
  show bindC kindOf ((p,w)::P.zip vs) m x=_
  unfold bindC
  exact bindC_get (i:=i) (List.nodup_cons.mp nd).2 (by simpa using h1) (by simpa using h2) hk
noncomputable def start(N:List Str)(vs:List V):St:=vs.map some++List.replicate (N.length - vs.length) none
noncomputable def cxOf(CX:CXT)(P:Program)(w:World)(K:PySem.W.Frag)(mg:Str→Option Value)(base:Heap)(N:List Str)(qual:Str)(scope:Scope)(f:Addr)(cd:Value)(A:Around)(outer:List Env)(s:Shared)(H:Hp)(E:XK):Cx where
 prog:=P
 w:=w
 K:=K
 mg:=mg
 base:=base
 A:=A.deeper (envOfC qual scope s.heap.objs.size f cd)
 N:=N
 s₀:=s
 H₀:=H
 env:=envOfC qual scope s.heap.objs.size f cd
 outer:=outer
 stack:=envOfC qual scope s.heap.objs.size f cd::outer
 ex:=[]
 calm:=true
 fn:=fun _=>true
 pn:=[]
 xe:=fun e s'=>wpAny (model P w) (A.deeper (envOfC qual scope s.heap.objs.size f cd)) (leaving (envOfC qual scope s.heap.objs.size f cd) e) (fun _ s''=>CX outer H s E e s'') (fun e' s''=>CX outer H s E e' s'') s'
theorem cell_has{sc:Scope}{n:Nat}{x:Str}(h:sc.names.lookup x=some .cell):∃c,(cellsFrom n sc.names []).lookup x=some c:=by
 have q:=PySem.W.cellsFrom_some sc.names n [] (.inl h)
 exact Option.isSome_iff_exists.mp q
theorem inv_start{CX:CXT}{P:Program}{w:World}{K:PySem.W.Frag}{mg:Str→Option Value}{base:Heap}{N ps:List Str}{qual:Str}{scope:Scope}{f:Addr}{cd:Value}{A:Around}{outer:List Env}{s s1:Shared}{H:Hp}{E:XK}{us:List Value}{vs:List V}
 (S:FnScope N ps scope) (hd:A.handled=none) (e0:Env0 P w K mg base A outer s H) (hl:vs.length=ps.length) (r:Vals vs us)
 (x:InCallC s s.heap.objs.size (bindL (envOfC qual scope s.heap.objs.size f cd).kindOf (ps.zip us) fun _=>none) (cellsFrom (s.heap.objs.size+1) scope.names []) (bindC (envOfC qual scope s.heap.objs.size f cd).kindOf (ps.zip us) fun _=>none) s1):
 Inv (cxOf CX P w K mg base N qual scope f cd A outer s H E) [] (start N vs) H s1:=by
 have hpl:ps.length≤N.length:=by have:=congrArg List.length S.pre;rw [List.length_take]at this;omega
 obtain ⟨h1,tk,rfl,hk⟩:=x.done
 have noA:∀b:Addr,b∉(cxOf CX P w K mg base N qual scope f cd A outer s H E).ex:=fun b z=>absurd (show b∈([]:List Addr) from z) (by simp)
 refine ⟨⟨e0.mod,S.kind,rfl,rfl,Nat.le_refl _,fun y z c h1 h2=>?_,fun y hy=>?_,fun y c _ h=>?_,fun _=>hd,Around.frames_deeper e0.frames,.inr ⟨rfl,rfl⟩,fun b z=>absurd z (noA b),e0.bs,e0.bsz,fun b _ _=>noA b,fun b z=>absurd z (noA b),e0.funs,e0.frf⟩,
  rfl,e0.bare,Un.kept hk,⟨_,x.toInCall.ns,fun i y v h1 h2 h3=>?_⟩,fun y c h=>⟨_,x.cell y c h⟩,e0.hok.fresh (Nat.le_refl _),fun y c h=>?_,fun p hp=>absurd (show p∈([]:List (Addr×Obj)) from hp) (by simp),e0.hok.kept hk,?_⟩
 · exact name_of_addr x.apart (PySem.mem_of_lookup h1) (PySem.mem_of_lookup h2)
 · have hy:scope.names.lookup y=some .cell∨scope.names.lookup y=some .free:=hy
   rcases hy with hy | hy
   · exact cell_has hy
   · exact absurd rfl (S.nofree _ (PySem.mem_of_lookup hy))
 · exact Nat.le_of_lt (x.above y c (PySem.mem_of_lookup h))
 · have hi:i < vs.length:=by
    unfold start at h2
    by_cases hi:i < vs.length
    · exact hi
    · rw [List.getElem?_append_right (by simpa using hi)]at h2
      rw [List.getElem?_replicate]at h2
      split at h2 <;> cases h2
   have ha:vs[i]?=some v:=by
    unfold start at h2
    rw [List.getElem?_append_left (by simpa using hi),List.getElem?_map]at h2
    cases e:vs[i]? with
    | none=>rw [e]at h2;cases h2
    | some a=>rw [e]at h2;cases h2;rfl
   obtain ⟨u,hu,rv⟩:=r.get ha
   have hp:ps[i]?=some y:=by
    rw [← S.pre,List.getElem?_take_of_lt (by omega)];exact h1
   have ndP:ps.Nodup:=by rw [← S.pre];exact S.nd.sublist (List.take_sublist _ _)
   refine ⟨u,rv,?_⟩
   rcases S.par y (List.mem_of_getElem? hp) with k | k
   · exact .inl ⟨k,bindL_get ndP hp hu k⟩
   · obtain ⟨c,e⟩:=cell_has (n:=s.heap.objs.size+1) k
     refine .inr ⟨.inl k,c,e,?_⟩
     have q:=x.cell y c e
     rw [bindC_get ndP hp hu (by show scope.names.lookup y≠_;rw [k];decide)]at q
     exact q
 · exact e0.hok.fresh (Nat.le_of_lt (x.above y c (PySem.mem_of_lookup h)))
 · unfold start
   show _=N.length
   rw [List.length_append,List.length_map,List.length_replicate]
   omega
theorem fn_of{CX:CXT}{P:Program}{w:World}{K:PySem.W.Frag}{mg:Str→Option Value}{base:Heap}{k:Nat}{f:Addr}{name qual:Str}{params:Arguments}{body:List Stmt}{scope:Scope}{dV kV doc pm cdv ct oc:Value}{an od:Option Addr}
 {osl:Array (Option Value)} {N ps:List Str} {sp:Sp} (lk:K.lookup f=some ⟨oc,od,.func (PySem.W.fnOf name qual params body scope dV kV doc pm an cdv ct),osl⟩) (hcd:PySem.W.codeIn K cdv qual=true) (S:FnScope N ps scope)
 (len:∀vs H Q E,sp vs H Q E→vs.length=ps.length)
 (hbody:∀(A:Around) (outer:List Env) (s:Shared) (H:Hp) (vs:List V) (Q:VK) (E:XK),Room k (A.deeper (envOfC qual scope s.heap.objs.size f cdv))→sp vs H Q E→
  ∃t,PSs (cxOf CX P w K mg base N qual scope f cdv A outer s H E) body t∧t {nx:=fun _ H'=>Q .non H',rt:=Q} (start N vs) H):
 FnOk P w K mg base CX (k+1) f (PySem.W.fnOf name qual params body scope dV kV doc pm an cdv ct) ps sp:=by
 refine ⟨len,fun A outer s H args us vs Q E hr e0 hb r hsp=>?_⟩
 have hl:=len _ _ _ _ hsp
 have KX:K.In s.heap:=e0.mod.kin.keeps fun b o e=>(e0.bs b o e).1
 have lim:s.heap.NoLimit:=e0.mod.nolimit.keeps fun b o e=>(e0.bs b o e).1
 have hkind:∀y∈ps.zip us,scope.names.lookup y.1=some .local∨(scope.names.lookup y.1=some .cell∧((cellsFrom (s.heap.objs.size+1) scope.names []).lookup y.1).isSome=true):=fun ⟨n,v⟩ hy=>by
  rcases S.par n (List.of_mem_zip hy).1 with q | q
  · exact .inl q
  · exact .inr ⟨q,PySem.W.cellsFrom_some _ _ _ (.inl q)⟩
 refine codeAny_call_function hr.depth (KX _ _ lk) rfl S.co S.gen rfl (PySem.W.codeRec_of KX hcd) (hb _ _ _ _ ?_)
 refine wpAny_newFunctionEnv_cells S.kind hkind fun env he s1 x=>?_
 subst he
 refine ⟨lim.keeps x.toInCall.keep,codeAny_func ?_⟩
 obtain ⟨t,ht,hq⟩:=hbody A outer s H vs Q E (hr.deeper _) hsp
 have I:Inv (cxOf CX P w K mg base N qual scope f cdv A outer s H E) [] (start N vs) H s1:=inv_start S hr.hd e0 hl r x
 refine wpAny_mono (ht [] s1 (start N vs) H _ I hq) (fun fl s' hs=>?_) fun e s' hs=>hs
 have fin:∀{σ':St} {H':Hp} {v:V} {u:Value},Inv (cxOf CX P w K mg base N qual scope f cdv A outer s H E) [] σ' H' s'→RelV v u→Q v H'→CE outer P w H s Q u s':=
  fun {σ' H' v u} J rv q=>⟨v,H',J.os,J.bare,J.base,J.hok,rv,q⟩
 cases fl with
 | ret u=>
  obtain ⟨v,σ',H',J,rv,q⟩:=hs
  exact fin J rv q
 | next=>
  obtain ⟨σ',H',J,q⟩:=hs
  exact fin (v:=V.non) (u:=Value.none) J rfl q
 | brk=>
  obtain ⟨_,_,_,q⟩:=hs
  exact False.elim q
 | cont=>
  obtain ⟨_,_,_,q⟩:=hs
  exact False.elim q
end L2
namespace L2
section
variable {X:Cx} {x:Str} {p pos:Pos} {e:Expr} {es:List Expr} {t:TA} {id T:String} {r:List V→Hp→VK→Prop}
noncomputable def tCB(r:List V→Hp→VK→Prop)(t:TA):TE:=fun σ H Q=>t σ H fun vs H1=>r vs H1 Q
theorem pe_callB(hc:CallR X (.builtin id) r)(hg:Gl X x)(hm:X.mg x=none)(hv:bootBuiltins x=some (.builtin id))(ha:PA X (e::es) t)(hn:x≠"__name__":=by decide)(hdb:(x==("__debug__":Str))=false:=by decide)
 (he:starEach (e::es) X.env=(false,eval e X.env)::starEach es X.env:=by rfl) (hpl:(backTo pos (starEach es X.env)).any (·.1)=false:=by rfl):PE X (.Call (.Name x p) (e::es) [] pos) (tCB r t):=by
 intro pins s σ H Q I h
 refine wpAny_Call_Name_kw (ld_blt I hg hm hv ?_ hn hdb)
 exact PyProof.Rows.callWith_builtin1 (thn (ha pos pins s σ H _ I h) fun us s1 ⟨vs,H1,I1,r1,q1⟩=>hc pins s1 σ H1 vs us Q I1 r1 q1) he hpl
theorem pe_callTy(hc:CallR X (.type T) r)(hg:Gl X x)(hm:X.mg x=none)(hv:bootBuiltins x=some (.type T))(ha:PA X (e::es) t)(hn:x≠"__name__":=by decide)(hdb:(x==("__debug__":Str))=false:=by decide)
 (he:starEach (e::es) X.env=(false,eval e X.env)::starEach es X.env:=by rfl) (hpl:(backTo pos (starEach es X.env)).any (·.1)=false:=by rfl):PE X (.Call (.Name x p) (e::es) [] pos) (tCB r t):=by
 intro pins s σ H Q I h
 refine wpAny_Call_Name_kw (ld_blt I hg hm hv ?_ hn hdb)
 exact PyProof.Rows.callWith_type1 (thn (ha pos pins s σ H _ I h) fun us s1 ⟨vs,H1,I1,r1,q1⟩=>hc pins s1 σ H1 vs us Q I1 r1 q1) he hpl
end
end L2
namespace HT
open PySem PyProof.Rows
noncomputable def lexLt:List Int→List Int→Bool
 | [],[]=>false
 | [],_::_=>true
 | _::_,[]=>false
 | x::xs,y::ys=>if x=y then lexLt xs ys else decide (x < y)
theorem lexLt_cons(x y:Int)(xs ys:List Int):lexLt (x::xs) (y::ys)=if x=y then lexLt xs ys else decide (x < y):=rfl
theorem lexLt_nil_nil:lexLt [] []=false:=rfl
theorem lexLt_nil_cons(y:Int)(ys:List Int):lexLt [] (y::ys)=true:=rfl
theorem lexLt_cons_nil(x:Int)(xs:List Int):lexLt (x::xs) []=false:=rfl
theorem eqAt_int(A:Around)(s:Shared)(a:Int)(t:Tok)(c:Int)(u:Tok):∃e,SeqAt.EqAt A s (.int a t) (.int c u) e∧(e=true↔a=c):=
 ⟨(a==c),SeqAt.EqAt.int_int a t c u,by simp⟩
theorem rcLt_int(A:Around)(s:Shared)(a:Int)(t:Tok)(c:Int)(u:Tok)(prog:Program)(w:World)(E:Value→Shared→Prop)(Q:Value→Shared→Prop)(h:Q (.bool (decide (a < c))) s):
 wpAny (model prog w) A (richCompare .Lt (.int a t) (.int c u)) Q E s:=
 (PyProof.Rows.lt_int h:wpAny (model prog w) A (compareOp .Lt (.int a t) (.int c u)) Q E s)
section
open PySem.SeqAt
open PySem.AutoSeq1 (wpAny_loadPart')
open PySem.MeetsSeq PySem.MeetsSeq2 PySem.MeetsSeq3
theorem tuple_lt_ints(l b:Addr)(items items2:Array Value)(n n2:Nat)(dd dd2:Option Addr)(sl sl2:Array (Option Value))(ns ms:List Int)(hi:IntsAre items.toList ns)(hj:IntsAre items2.toList ms):
 Meets (Builtin.«tuple.__lt__» ⟨[.ref l,.ref b],[]⟩)
  (fun _ R s=>s.heap.get? l=some {cls:= .type "tuple",dict:=dd,data:= .seq items n,slots:=sl}∧s.heap.get? b=some {cls:= .type "tuple",dict:=dd2,data:= .seq items2 n2,slots:=sl2}∧
   R (.ok (.ret (.bool (lexLt ns ms)))) s):=
 .of_wp fun prog w A R s h=>by
  obtain ⟨hp,g,d,tk,os⟩:=s;obtain ⟨hl,hb,h⟩:=h
  have f2:=AutoSeq1.sub_tuple_tuple
  have z1:items.size=ns.length:=by rw [← hi.length];simp
  have z2:items2.size=ms.length:=by rw [← hj.length];simp
  wp_walk using wpAny_loadPart' hl,wpAny_loadPart' hb,wpAny_forIn_list _ (fun rest b s'=>b.1=none∧s'=⟨hp,g,d,tk,os⟩∧∃(vs ws:List Value) (ns' ms':List Int),rest=vs.zip ws∧
   IntsAre vs ns'∧IntsAre ws ms'∧ns'.length+items2.size=ms'.length+items.size∧R (.ok (.ret (.bool (lexLt ns' ms')))) ⟨hp,g,d,tk,os⟩) _
  case turn=>
   rintro ⟨y,x⟩ rest b s' ⟨hb',rfl,vs,ws,ns',ms',hz,hvi,hwi,hlen,hR⟩
   cases hvi with
   | nil=>rw [List.zip_nil_left]at hz;cases hz
   | cons a t hvi'=>
    cases hwi with
    | nil=>rw [List.zip_nil_right]at hz;cases hz
    | cons c u hwi'=>
     rw [List.zip_cons_cons]at hz
     injection hz with hyx hrest
     injection hyx with hy hx
     subst hy hx
     rw [lexLt_cons]at hR
     simp only [List.length_cons]at hlen
     obtain ⟨e,he,hiff⟩:=eqAt_int A.in1 ⟨hp,g,d,tk,os⟩ a t c u
     refine wpAny_bind (he prog w _ _ ?_)
     cases e with
     | true=>
      rw [if_pos (hiff.mp rfl)]at hR
      wp_walk
      exact ⟨rfl,rfl,_,_,_,_,hrest,hvi',hwi',by omega,hR⟩
     | false=>
      rw [if_neg (fun q=>absurd (hiff.mpr q) Bool.false_ne_true)]at hR
      have hri:=rcLt_int A.in1 ⟨hp,g,d,tk,os⟩ a t c u prog w
      wp_walk using hri
      exact ⟨_,rfl,by simpa using hR⟩
  case fin=>
   rintro ⟨b1,b2⟩ s' ⟨hb',rfl,vs,ws,ns',ms',hz,hvi,hwi,hlen,hR⟩
   simp only at hb'
   subst hb'
   have hv:lexLt ns' ms'=decide (items.size < items2.size):=by
    cases hvi with
    | nil=>
     cases hwi with
     | nil=>
      simp only [List.length_nil]at hlen
      rw [lexLt_nil_nil]
      exact (decide_eq_false (by omega)).symm
     | cons c u hw=>
      simp only [List.length_nil,List.length_cons]at hlen
      rw [lexLt_nil_cons]
      exact (decide_eq_true (by omega)).symm
    | cons a t hv=>
     cases hwi with
     | nil=>
      simp only [List.length_nil,List.length_cons]at hlen
      rw [lexLt_cons_nil]
      exact (decide_eq_false (by omega)).symm
     | cons c u hw=>
      rw [List.zip_cons_cons]at hz
      cases hz
   rw [hv]at hR
   wp_walk
   exact ⟨_,rfl,by simpa [Builtin.Tuple.tupleCompareSizes] using hR⟩
  case h=>
   exact ⟨rfl,rfl,items.toList,items2.toList,ns,ms,rfl,hi,hj,by omega,h⟩
end
section
variable {prog:Program} {w:World} {A:Around} {E:Value→Shared→Prop} {s:Shared}
theorem lt_tupInts{l b:Addr}{items items2:Array Value}{ns ms:List Int}{Q:Value→Shared→Prop}(hl:IsTup s.heap l items)(hb:IsTup s.heap b items2)(hi:IntsAre items.toList ns)(hj:IntsAre items2.toList ms)
 (hu:A.units < cLine) (h:Q (.bool (lexLt ns ms)) s):wpAny (model prog w) A (compareOp .Lt (.ref l) (.ref b)) Q E s:=by
 obtain ⟨⟨cls,dd,data,sl⟩,ho,hc,n,hd⟩:=id hl
 obtain ⟨⟨cls2,dd2,data2,sl2⟩,ho2,hc2,n2,hd2⟩:=id hb
 simp only at hc hd hc2 hd2
 subst hc hd hc2 hd2
 exact richCompare_meets_room (op:= .Lt) ⟨_,ho,rfl⟩ ⟨_,ho2,rfl⟩ PySem.F.slot_tuple_lt PySem.F.entry_tuple_lt (PySem.F.args_tuple_lt_2 _ _) (tuple_lt_ints l b items items2 n n2 dd dd2 sl sl2 ns ms hi hj)
  ⟨ho,ho2,show Value.bool (lexLt ns ms)≠Value.notImplemented∧Q (.bool (lexLt ns ms)) s from ⟨(fun x=>nomatch x),h⟩⟩ hu
noncomputable def sIx(n d:Nat):Option Int→Nat
 | none=>d
 | some v=>if v < 0 then (v+(n:Int)).toNat else min v.toNat n
theorem sIx_none(n d:Nat):sIx n d none=d:=rfl
theorem sIx_nat(n d k:Nat):sIx n d (some (k:Int))=min k n:=by
 show (if (k:Int) < 0 then ((k:Int)+(n:Int)).toNat else min (k:Int).toNat n)=min k n
 rw [if_neg (by omega),Int.toNat_natCast]
end
end HT
namespace L2
noncomputable abbrev TO:=St→Hp→(Option Int→Hp→Prop)→Prop
noncomputable def PO(X:Cx)(e:Option Expr)(t:TO):Prop:=
 ∀(pins:List (Addr×Obj)) (s:Shared) (σ:St) (H:Hp) (Q:Option Int→Hp→Prop),Inv X pins σ H s→t σ H Q→
   wpAny (model X.prog X.w) X.A (evalPart e X.env) (fun u s'=>∃o H',Inv X pins σ H' s'∧IsPart u o∧Q o H') X.xe s
noncomputable def tNoPart:TO:=fun _ H Q=>Q none H
noncomputable def tPart(t:TE):TO:=fun σ H Q=>t σ H fun x H1=>∃i,x= .int i∧Q (some i) H1
theorem intsAre_of{ns:List Int}:∀{us:List Value},Vals (ns.map V.int) us→IntsAre us ns:=by
 induction ns with
 | nil=>intro us r;rw [List.map_nil]at r;cases r;exact .nil
 | cons n ns ih=>
  intro us r
  rw [List.map_cons]at r
  cases r with
  | cons r1 r2=>
   obtain ⟨t,e⟩:=r1
   subst e
   exact .cons n t (ih r2)
section
variable {X:Cx} {e:Expr} {te:TE} {lo hi:Option Expr} {tl th:TO} {pos p2:Pos}
theorem po_none:PO X none tNoPart:=by
 intro pins s σ H Q I h
 rw [evalPart_none]
 exact wpAny_pure ⟨none,H,I,.none,h⟩
theorem po_some(h:PE X e te):PO X (some e) (tPart te):=by
 intro pins s σ H Q I hw
 rw [evalPart_some]
 refine thn (h pins s σ H _ I hw) fun u s1 hq_=>?_
 obtain ⟨x,H1,I1,r1,q1⟩:=hq_
 obtain ⟨i,rfl,q⟩:=q1
 obtain ⟨t,rfl⟩:=r1
 exact ⟨some i,H1,I1,.int i t,q⟩
noncomputable def SlR(X:Cx)(r:V→Option Int→Option Int→Hp→VK→Prop):Prop:=
 ∀(pins:List (Addr×Obj)) (s:Shared) (σ:St) (H:Hp) (x:V) (v vl vu:Value) (lo hi:Option Int) (sl:Addr) (Q:VK),Inv X pins σ H s→RelV x v→s.heap.IsSliceOf sl vl vu .none→IsPart vl lo→IsPart vu hi→r x lo hi H Q→
   ∃T id,typeLookup (.type T) "__getitem__"=pure (some (.builtin id))∧s.TypeIs v T∧wpAny (model X.prog X.w) X.A (getItem v (.ref sl)) (EP X pins σ Q) X.xe s
noncomputable def tSl(r:V→Option Int→Option Int→Hp→VK→Prop)(te:TE)(tl th:TO):TE:=fun σ H Q=>te σ H fun x H1=>tl σ H1 fun l H2=>th σ H2 fun u H3=>r x l u H3 Q
theorem pe_slice{r:V→Option Int→Option Int→Hp→VK→Prop}(hr:SlR X r)(he:PE X e te)(hl:PO X lo tl)(hu:PO X hi th):PE X (.Subscript e (.Slice lo hi none p2) pos) (tSl r te tl th):=by
 intro pins s σ H Q I h
 refine Subscript_ (thn (he pins s σ H _ I h) fun v s1 hq_=>?_)
 obtain ⟨x,H1,I1,r1,q1⟩:=hq_
 refine wpAny_Slice (thn (hl pins s1 σ H1 _ I1 q1) fun vl s2 ⟨l,H2,I2,pl,q2⟩=>thn (hu pins s2 σ H2 _ I2 q2) fun vu s3 hq_=>?_)
 obtain ⟨u,H3,I3,pu,q3⟩:=hq_
 rw [evalPart_none]
 refine wpAny_pure ?_
 have I4:Inv X pins σ H3 {s3 with heap:=s3.heap.push {cls:= .type "slice",data:= .fields #[vl,vu,.none]}}:=I3.kept (t':=s3.toks) fun b ob q=>Heap.get?_push_of_some _ q
 obtain ⟨T,id,hT,ht,hg⟩:=hr pins {s3 with heap:=s3.heap.push {cls:= .type "slice",data:= .fields #[vl,vu,.none]}} σ H3 x v vl vu l u s3.heap.objs.size Q I4 r1 (Heap.IsSliceOf.new ..) pl pu q3
 show wpAny (model X.prog X.w) X.A (subscriptTail e (.Slice lo hi none p2) v (.ref s3.heap.objs.size)) (EP X pins σ Q) X.xe {s3 with heap:=s3.heap.push {cls:= .type "slice",data:= .fields #[vl,vu,.none]}}
 exact tail_any (ops:=[.ref s3.heap.objs.size,v]) ht hT hg (by with_unfolding_all rfl)
noncomputable def cutV(xs:List V)(lo hi:Option Int):List V:=(xs.drop (HT.sIx xs.length 0 lo)).take (HT.sIx xs.length xs.length hi - HT.sIx xs.length 0 lo)
theorem cutV_length(xs:List V)(lo hi:Option Int):(cutV xs lo hi).length≤xs.length:=by
 unfold cutV
 rw [List.length_take,List.length_drop]
 omega
end
end L2
namespace L2
noncomputable def ixN(n:Nat)(i:Int):Option Nat:=if 0≤i then (if i < n then some i.toNat else none) else if -(n:Int)≤i then some (i+n).toNat else none
noncomputable def atI{α:Type}(xs:List α)(i:Int):Option α:=(ixN xs.length i).bind fun j=>xs[j]?
theorem ixN_seq{n:Nat}{i:Int}{j:Nat}(h:ixN n i=some j):seqIndex? i n=some j∧j < n∧-(n:Int)≤i∧i < n:=by
 unfold ixN at h
 by_cases h0:0≤i
 · rw [if_pos h0]at h
   by_cases h1:i < n
   · rw [if_pos h1]at h
     have e:i.toNat=j:=Option.some.inj h
     exact ⟨by rw [seqIndex_of h0 h1,e],by omega,by omega,h1⟩
   · rw [if_neg h1]at h;cases h
 · rw [if_neg h0]at h
   by_cases h1:-(n:Int)≤i
   · rw [if_pos h1]at h
     have e:(i+n).toNat=j:=Option.some.inj h
     exact ⟨by rw [seqIndex_neg (by omega) h1,e],by omega,h1,by omega⟩
   · rw [if_neg h1]at h;cases h
theorem atI_get{α:Type}{xs:List α}{i:Int}{v:α}(h:atI xs i=some v):∃j,seqIndex? i xs.length=some j∧xs[j]?=some v∧j < xs.length∧-(xs.length:Int)≤i∧i < xs.length:=by
 unfold atI at h
 cases e:ixN xs.length i with
 | none=>rw [e]at h;cases h
 | some j=>
  rw [e]at h
  obtain ⟨h1,h2,h3,h4⟩:=ixN_seq e
  exact ⟨j,h1,h,h2,h3,h4⟩
theorem atI_nat{α:Type}{xs:List α}{j:Nat}{v:α}(h:xs[j]?=some v):atI xs (j:Int)=some v:=by
 have hj:j < xs.length:=(List.getElem?_eq_some_iff.mp h).1
 have e:ixN xs.length (j:Int)=some j:=by
  unfold ixN
  rw [if_pos (by omega),if_pos (by omega)];simp
 unfold atI;rw [e];exact h
theorem atI_last{α:Type}(xs:List α)(v:α):atI (xs++[v]) (-1)=some v:=by
 have hl:(xs++[v]).length=xs.length+1:=by simp
 have e:ixN (xs++[v]).length (-1)=some xs.length:=by
  unfold ixN
  rw [hl,if_neg (by decide),if_pos (by omega)]
  congr 1
  omega
 unfold atI
 rw [e]
 show (xs++[v])[xs.length]?=some v
 simp
noncomputable def PlainIx(b:Expr):Prop:=∀o i,subscripted b false o i=operate [o,i] (getItem o i)
noncomputable def IxR(X:Cx)(r:R2):Prop:=
 ∀(value slice:Expr) (pins:List (Addr×Obj)) (s:Shared) (σ:St) (H:Hp) (x y:V) (v u:Value) (Q:VK),Inv X pins σ H s→RelV x v→RelV y u→r x y H Q→
   subscripted slice false v u=operate [v,u] (getItem v u)→wpAny (model X.prog X.w) X.A (subscriptTail value slice v u) (EP X pins σ Q) X.xe s
noncomputable def MtR(X:Cx)(id:String)(r:V→List V→Hp→VK→Prop):Prop:=
 ∀(pins:List (Addr×Obj)) (s:Shared) (σ:St) (H:Hp) (x:V) (xs:List V) (v:Value) (us:List Value) (Q:VK),Inv X pins σ H s→RelV x v→Vals xs us→r x xs H Q→
   wpAny (model X.prog X.w) X.A (call (.builtin id) (v::us)) (EP X pins σ Q) X.xe s
section
variable {X:Cx} {a b:Expr} {ta tb:TE} {pos:Pos}
theorem pe_ix{r:R2}(hr:IxR X r)(ha:PE X a ta)(hb:PE X b tb)(hs:PlainIx b):PE X (.Subscript a b pos) (tOp r ta tb):=by
 intro pins s σ H Q I h
 exact Subscript_ (binT ha hb I h fun v u s2 x y H2 I2 rx ry q=>hr a b pins s2 σ H2 x y v u Q I2 rx ry q (hs _ _))
noncomputable def rIxL(K:PySem.W.Frag):R2:=fun x y H Q=>∃p xs i v,x= .ref p∧y= .int i∧SqL K H p xs∧atI xs i=some v∧Q v H
noncomputable def rIxT(K:PySem.W.Frag):R2:=fun x y H Q=>∃p xs i v,x= .ref p∧y= .int i∧SqT K H p xs∧atI xs i=some v∧Q v H
noncomputable def rIxS:R2:=fun x y H Q=>∃z i c,x= .str z∧y= .int i∧z.length≤sizeLine∧atI z.cps.toList i=some c∧Q (.str ⟨#[c]⟩) H
theorem ix_list:IxR X (rIxL X.K):=by
 intro value slice pins s σ H x y v u Q I rx ry h hs
 obtain ⟨p,xs,i,z,rfl,rfl,hq,he,q⟩:=h
 cases rx
 obtain ⟨t,rfl⟩:=ry
 obtain ⟨its,r,pl,hz⟩:=I.list hq
 obtain ⟨j,h1,h2,h3,h4,h5⟩:=atI_get he
 obtain ⟨w,ew,rw'⟩:=r.get h2
 have hl:=r.length
 have hn:=line63
 have fin:EP X pins σ Q w s:=⟨z,H,I,rw',q⟩
 by_cases h0:0≤i
 · have hj:i.toNat=j:=by
    rw [seqIndex_of h0 h5]at h1
    exact Option.some.inj h1
   exact item_listR pl.isList h0 (by omega) (by rw [hj];simpa using ew) fin hs
 · have hj:(i+(its.toArray.size:Int)).toNat=j:=by
    rw [seqIndex_neg (by omega) h4]at h1
    rw [List.size_toArray,← hl]
    exact Option.some.inj h1
   exact subscriptTail_builtinR (x:=w) pl.isList.typeIs slot_list_getitem.lookup
    (wpAny_getItem_list_neg (Q:=fun r s'=>r=w∧EP X pins σ Q r s') pl.isList (by omega) (by rw [List.size_toArray] <;> omega) (by omega) (by rw [hj];simpa using ew) ⟨rfl,fin⟩) hs
theorem ix_tup:IxR X (rIxT X.K):=by
 intro value slice pins s σ H x y v u Q I rx ry h hs
 obtain ⟨p,xs,i,z,rfl,rfl,hq,he,q⟩:=h
 cases rx
 obtain ⟨t,rfl⟩:=ry
 obtain ⟨its,r,pl,hz⟩:=I.tuple hq
 obtain ⟨j,h1,h2,h3,h4,h5⟩:=atI_get he
 obtain ⟨w,ew,rw'⟩:=r.get h2
 have hl:=r.length
 have hn:=line63
 have fin:EP X pins σ Q w s:=⟨z,H,I,rw',q⟩
 exact subscriptTail_builtinR (x:=w) pl.typeIs slot_tuple_getitem.lookup
  (getItem_tuple (j:=j) (Q:=fun r s'=>r=w∧EP X pins σ Q r s') pl (by omega) (by omega) (by rw [List.size_toArray,← hl];exact h1) (by simpa using ew) ⟨rfl,fin⟩) hs
theorem ix_str:IxR X rIxS:=by
 intro value slice pins s σ H x y v u Q I rx ry h hs
 obtain ⟨z,i,c,rfl,rfl,hz,he,q⟩:=h
 obtain ⟨t,rfl⟩:=rx
 obtain ⟨t',rfl⟩:=ry
 obtain ⟨j,h1,h2,h3,h4,h5⟩:=atI_get he
 have hl:z.cps.toList.length=z.length:=by simp [Str.length]
 rw [hl]at h1 h4 h5
 have hn:=line63
 exact tail_any (typeIs_str s z t) slot_str_getitem.lookup (getItem_str (c:=c) (by
  have e1:decide (i < -(2 ^ 63:Int))=false:=decide_eq_false (by omega)
  have e2:decide (i ≥ 2 ^ 63)=false:=decide_eq_false (by omega)
  rw [e1,e2,Bool.or_false]) (by rw [h1];simpa using h2) ⟨.str ⟨#[c]⟩,H,I.tok _,⟨_,rfl⟩,q⟩) hs
noncomputable def rSetL:V→V→V→Hp→(Hp→Prop)→Prop:=fun o i v H Q=>∃p xs k j,o= .ref p∧i= .int k∧H p=some (.lst xs)∧ixN xs.length k=some j∧Q (upd H p (.lst (xs.set j v)))
theorem slice_bounds(lo hi:Option Int)(n:Nat):(sliceBounds lo hi none n).1=((HT.sIx n 0 lo:Nat):Int)∧(sliceBounds lo hi none n).2.1=((HT.sIx n n hi:Nat):Int)∧(sliceBounds lo hi none n).2.2=1:=by
 refine ⟨?_,?_,rfl⟩
 · cases lo with
   | none=>simp [sliceBounds,HT.sIx]
   | some i=>
    simp only [sliceBounds,HT.sIx,Option.getD_none,show (1:Int) > 0 by decide,if_true]
    by_cases h:i < 0
    · simp only [h,if_true] <;> omega
    · simp only [h,if_false] <;> omega
 · cases hi with
   | none=>simp [sliceBounds,HT.sIx]
   | some i=>
    simp only [sliceBounds,HT.sIx,Option.getD_none,show (1:Int) > 0 by decide,if_true]
    by_cases h:i < 0
    · simp only [h,if_true] <;> omega
    · simp only [h,if_false] <;> omega
theorem slicePick_cut(its:List Value)(lo hi:Option Int):slicePick its.toArray lo hi none=((its.drop (HT.sIx its.length 0 lo)).take (HT.sIx its.length its.length hi - HT.sIx its.length 0 lo)).toArray:=by
 obtain ⟨h1,h2,h3⟩:=slice_bounds lo hi its.toArray.size
 unfold slicePick
 rw [h1,h2,h3]
 simp only [sliceRange_one,pick_run,List.size_toArray] <;> rfl
noncomputable def rSlL(K:PySem.W.Frag):V→Option Int→Option Int→Hp→VK→Prop:=fun x lo hi H Q=>∃a xs,x= .ref a∧SqL K H a xs∧∀p,H p=none→Q (.ref p) (upd H p (.lst (cutV xs lo hi)))
theorem sl_list:SlR X (rSlL X.K):=by
 intro pins s σ H x v vl vu lo hi sl Q I rx hs pl pu h
 obtain ⟨a,xs,rfl,hx,q⟩:=h
 cases rx
 obtain ⟨its,r,ht,hz⟩:=I.list hx
 have hlen:=r.length
 refine ⟨"list",_,slot_list_getitem.lookup,ht.isList.typeIs,?_⟩
 refine wpAny_getItem_list_slice ht.isList hs pl pu .none (by simp) ?_ (by rw [List.size_toArray] <;> omega)
 rw [slicePick_cut,← hlen]
 refine ⟨.ref s.heap.objs.size,_,I.laid (t':=s.toks) (o:= .lst (cutV xs lo hi)) (fun b ob q=>Heap.get?_push_of_some _ q) (Nat.le_refl _) ?_,rfl,q _ (I.hok.fresh (Nat.le_refl _))⟩
 exact ⟨Nat.le_trans (cutV_length xs lo hi) hz,_,0,(r.drop (HT.sIx xs.length 0 lo)).take (HT.sIx xs.length xs.length hi - HT.sIx xs.length 0 lo),Heap.get?_push_size _ rfl⟩
noncomputable def flatV:V→Bool
 | .non=>true
 | .bl _=>true
 | .int _=>true
 | .str _=>true
 | _=>false
noncomputable def eqV:V→V→Bool
 | .non,.non=>true
 | .bl a,.bl b=>a==b
 | .bl a,.int b=>(if a then 1 else 0)==b
 | .int a,.bl b=>a==(if b then 1 else 0)
 | .int a,.int b=>a==b
 | .str a,.str b=>a==b
 | _,_=>false
theorem eqAt_V{A:Around}{s:Shared}{y x:V}{u v:Value}(ry:RelV y u)(rx:RelV x v)(fy:flatV y=true)(fx:flatV x=true):SeqAt.EqAt A s u v (eqV y x):=by
 cases y with
 | non=>
  cases ry
  cases x with
  | non=>cases rx;exact SeqAt.EqAt.same _
  | bl b=>cases rx;exact SeqAt.EqAt.none_bool b
  | int b=>obtain ⟨t,rfl⟩:=rx;exact SeqAt.EqAt.none_int b t
  | str b=>obtain ⟨t,rfl⟩:=rx;exact SeqAt.EqAt.none_str b t
  | _=>exact absurd (show false=true from fx) Bool.false_ne_true
 | bl a=>
  cases ry
  cases x with
  | non=>cases rx;exact SeqAt.EqAt.bool_none a
  | bl b=>cases rx;exact SeqAt.EqAt.bool_bool a b
  | int b=>obtain ⟨t,rfl⟩:=rx;exact SeqAt.EqAt.bool_int a b t
  | str b=>obtain ⟨t,rfl⟩:=rx;exact SeqAt.EqAt.bool_str a b t
  | _=>exact absurd (show false=true from fx) Bool.false_ne_true
 | int a=>
  obtain ⟨t',rfl⟩:=ry
  cases x with
  | non=>cases rx;exact SeqAt.EqAt.int_none a t'
  | bl b=>cases rx;exact SeqAt.EqAt.int_bool a t' b
  | int b=>obtain ⟨t,rfl⟩:=rx;exact SeqAt.EqAt.int_int a t' b t
  | str b=>obtain ⟨t,rfl⟩:=rx;exact SeqAt.EqAt.int_str a t' b t
  | _=>exact absurd (show false=true from fx) Bool.false_ne_true
 | str a=>
  obtain ⟨t',rfl⟩:=ry
  cases x with
  | non=>cases rx;exact SeqAt.EqAt.str_none a t'
  | bl b=>cases rx;exact SeqAt.EqAt.str_bool a t' b
  | int b=>obtain ⟨t,rfl⟩:=rx;exact SeqAt.EqAt.str_int a t' b t
  | str b=>obtain ⟨t,rfl⟩:=rx;exact SeqAt.EqAt.str_str a t' b t
  | _=>exact absurd (show false=true from fx) Bool.false_ne_true
 | _=>exact absurd (show false=true from fy) Bool.false_ne_true
noncomputable def eqU(x:V)(u:Value):Bool:=match u with
 | .none=>eqV .non x
 | .bool b=>eqV (.bl b) x
 | .int i _=>eqV (.int i) x
 | .str z _=>eqV (.str z) x
 | _=>false
theorem eqU_of{x y:V}{u:Value}(r:RelV y u)(f:flatV y=true):eqU x u=eqV y x:=by
 cases y with
 | non=>cases r;rfl
 | bl b=>cases r;rfl
 | int i=>obtain ⟨t,rfl⟩:=r;rfl
 | str z=>obtain ⟨t,rfl⟩:=r;rfl
 | _=>exact absurd (show false=true from f) Bool.false_ne_true
theorem any_eqU{x:V}:∀{xs:List V} {us:List Value},Vals xs us→xs.all flatV=true→us.any (eqU x)=xs.any fun y=>eqV y x
 | _,_,.nil,_=>rfl
 | y::xs,u::us,.cons r t,f=>by
  rw [List.all_cons,Bool.and_eq_true]at f
  rw [List.any_cons,List.any_cons,eqU_of r f.1,any_eqU t f.2]
theorem mem_eqAt{A:Around}{s:Shared}{x:V}{v:Value}(rx:RelV x v)(fx:flatV x=true):∀{xs:List V} {us:List Value},Vals xs us→xs.all flatV=true→∀u∈us,SeqAt.EqAt A s u v (eqU x u)
 | _,_,.nil,_=>fun u hu=>by cases hu
 | y::xs,u::us,.cons r t,f=>fun u' hu=>by
  rw [List.all_cons,Bool.and_eq_true]at f
  rcases List.mem_cons.mp hu with rfl | hu
  · rw [eqU_of r f.1];exact eqAt_V r rx f.1 fx
  · exact mem_eqAt rx fx t f.2 u' hu
noncomputable def inV(x:V)(xs:List V):Bool:=xs.any fun y=>eqV y x
noncomputable def rIn(K:PySem.W.Frag)(neg:Bool):R2:=fun x y H Q=>∃p xs,y= .ref p∧(SqL K H p xs∨SqT K H p xs)∧flatV x=true∧xs.all flatV=true∧Q (.bl (if neg then !inV x xs else inV x xs)) H
theorem op_in_seq:OpR X (compareOp .In) (rIn X.K false):=by
 intro pins s σ H x y v u Q I rx ry h
 obtain ⟨p,xs,rfl,hq,fx,fs,q⟩:=h
 cases ry
 rcases hq with hq | hq
 · obtain ⟨its,r,pl,hz⟩:=I.list hq
   refine SeqAt.in_listAt (eqU x) pl.isList (fun w hw=>mem_eqAt rx fx r fs w (by simpa using hw)) ⟨.bl _,H,I,rfl,?_⟩
   rw [show its.toArray.any (eqU x)=its.any (eqU x) by simp,any_eqU r fs]
   exact q
 · obtain ⟨its,r,pl,hz⟩:=I.tuple hq
   refine SeqAt.in_tupleAt (eqU x) pl (fun w hw=>mem_eqAt rx fx r fs w (by simpa using hw)) ⟨.bl _,H,I,rfl,?_⟩
   rw [show its.toArray.any (eqU x)=its.any (eqU x) by simp,any_eqU r fs]
   exact q
theorem op_notIn_seq:OpR X (compareOp .NotIn) (rIn X.K true):=by
 intro pins s σ H x y v u Q I rx ry h
 obtain ⟨p,xs,rfl,hq,fx,fs,q⟩:=h
 cases ry
 rcases hq with hq | hq
 · obtain ⟨its,r,pl,hz⟩:=I.list hq
   refine SeqAt.notIn_listAt (eqU x) pl.isList (fun w hw=>mem_eqAt rx fx r fs w (by simpa using hw)) ⟨.bl _,H,I,rfl,?_⟩
   rw [show its.toArray.any (eqU x)=its.any (eqU x) by simp,any_eqU r fs]
   exact q
 · obtain ⟨its,r,pl,hz⟩:=I.tuple hq
   refine SeqAt.notIn_tupleAt (eqU x) pl (fun w hw=>mem_eqAt rx fx r fs w (by simpa using hw)) ⟨.bl _,H,I,rfl,?_⟩
   rw [show its.toArray.any (eqU x)=its.any (eqU x) by simp,any_eqU r fs]
   exact q
theorem call_len_seq:CallR X (.builtin "len") (fun xs H Q=>∃p ys,xs=[.ref p]∧(SqL X.K H p ys∨SqT X.K H p ys)∧Q (.int ys.length) H):=by
 intro pins s σ H xs us Q I r h
 obtain ⟨p,ys,rfl,hq,q⟩:=h
 obtain ⟨u,rfl,rx⟩:=vals1 r
 cases rx
 have hn:=line63
 rcases hq with hq | hq
 · obtain ⟨its,r',pl,hz⟩:=I.list hq
   have hlen:=r'.length
   exact Calls.call_len_list pl.isList (by simp only [List.size_toArray] <;> omega) ⟨.int ys.length,H,I.tok _,⟨s.toks+1,by rw [List.size_toArray,hlen]⟩,q⟩
 · obtain ⟨its,r',pl,hz⟩:=I.tuple hq
   have hlen:=r'.length
   exact len_tuple pl (by simp only [List.size_toArray] <;> omega) ⟨.int ys.length,H,I.tok _,⟨s.toks+1,by rw [List.size_toArray,hlen]⟩,q⟩
theorem call_len_str:CallR X (.builtin "len") (fun xs H Q=>∃z,xs=[.str z]∧z.length≤sizeLine∧Q (.int z.length) H):=by
 intro pins s σ H xs us Q I r h
 obtain ⟨z,rfl,hz,q⟩:=h
 obtain ⟨u,rfl,t,rfl⟩:=vals1 r
 have hn:=line63
 exact len_str (by omega) ⟨.int z.length,H,I.tok _,⟨_,rfl⟩,q⟩
theorem call_list_of:CallR X (.type "list") (fun xs H Q=>∃p ys,xs=[.ref p]∧(SqL X.K H p ys∨SqT X.K H p ys)∧∀l,H l=none→Q (.ref l) (upd H l (.lst ys))):=by
 intro pins s σ H xs us Q I r h
 obtain ⟨p,ys,rfl,hq,q⟩:=h
 obtain ⟨u,rfl,rx⟩:=vals1 r
 cases rx
 have fin:∀(its:List Value),Vals ys its→ys.length≤sizeLine→∀(h':Heap) (c':Nat),(∀b o',s.heap.get? b=some o'→h'.get? b=some o')→
  h'.get? s.heap.objs.size=some {cls:= .type "list",dict:=none,data:= .seq its.toArray c',slots:=#[]}→EP X pins σ Q (.ref s.heap.objs.size) {s with heap:=h'}:=fun its r' hz h' c' kp e=>
  ⟨.ref s.heap.objs.size,_,I.laid (t':=s.toks) kp (Nat.le_refl _) (show ObjOk X.prog X.w _ h' _ (.lst ys) from ⟨hz,its,c',r',e⟩),rfl,q _ (I.hok.fresh (Nat.le_refl _))⟩
 rcases hq with hq | hq
 · obtain ⟨its,r',pl,hz⟩:=I.list hq
   have hlen:=r'.length
   obtain ⟨o,ho,hc,n,hd⟩:=pl.isList
   exact call_list_seq p (.inl rfl) ho hc hd (fun h' c' kp e=>fin its r' hz h' c' kp e) (by simp only [List.size_toArray] <;> omega)
 · obtain ⟨its,r',pl,hz⟩:=I.tuple hq
   have hlen:=r'.length
   obtain ⟨o,ho,hc,n,hd⟩:=pl
   exact call_list_seq p (.inr rfl) ho hc hd (fun h' c' kp e=>fin its r' hz h' c' kp e) (by simp only [List.size_toArray] <;> omega)
noncomputable def tyV(K:PySem.W.Frag)(T:String)(x:V)(H:Hp):Prop:=match x with
 | .str _=>T="str"
 | .int _=>T="int"
 | .ref p=>(T="list"∧∃xs,SqL K H p xs)∨(T="tuple"∧∃o,K.lookup p=some o∧o.cls= .type "tuple"∧o.dict=none)∨
  (T="dict"∧((∃kvs,H p=some (.dK kvs))∨∃kvs,H p=some (.dT kvs)))∨(T="set"∧∃S n,H p=some (.set S n))
 | _=>False
theorem tyV_is{pins:List (Addr×Obj)}{σ:St}{H:Hp}{s:Shared}{T:String}{x:V}{v:Value}(I:Inv X pins σ H s)(r:RelV x v)(ty:tyV X.K T x H):
 s.TypeIs v T∧∀a,v= .ref a→∃ob,s.heap.get? a=some ob∧ob.dict=none:=by
 cases x with
 | str z=>
  obtain ⟨t,rfl⟩:=r
  cases (show T="str" from ty)
  exact ⟨typeIs_str s z t,fun _ e=>nomatch e⟩
 | int i=>
  obtain ⟨t,rfl⟩:=r
  cases (show T="int" from ty)
  exact ⟨typeIs_int s i t,fun _ e=>nomatch e⟩
 | ref p=>
  cases r
  rcases ty with ⟨rfl,xs,hq⟩ | ⟨rfl,o,hk,hc,hd⟩ | ⟨rfl,hk⟩ | ⟨rfl,S,n,hk⟩
  · obtain ⟨its,_,pl,_⟩:=I.list hq
    refine ⟨pl.isList.typeIs,fun a e=>?_⟩
    cases e
    obtain ⟨o,n,e,c,hd,_⟩:=pl
    exact ⟨o,e,hd⟩
  · refine ⟨⟨o,I.kIn p o hk,hc⟩,fun a e=>?_⟩
    cases e
    exact ⟨o,I.kIn _ o hk,hd⟩
  · have z:∃o,s.heap.get? p=some o∧o.ExactDict:=by
     rcases hk with ⟨kvs,hk⟩ | ⟨kvs,hk⟩
     · obtain ⟨_,_,_,_,o,_,_,e,ex,_⟩:=I.hok p _ hk
       exact ⟨o,e,ex⟩
     · obtain ⟨_,_,_,_,o,_,_,e,ex,_⟩:=I.hok p _ hk
       exact ⟨o,e,ex⟩
    obtain ⟨o,e,ex⟩:=z
    refine ⟨⟨o,e,ex.1⟩,fun a e2=>?_⟩
    cases e2
    exact ⟨o,e,ex.2.1⟩
  · obtain ⟨o,_,_,_,e,ex,_⟩:=I.hok p _ hk
    refine ⟨⟨o,e,ex.1⟩,fun a e2=>?_⟩
    cases e2
    exact ⟨o,e,ex.2.1⟩
 | _=>exact False.elim ty
noncomputable def tBM0(K:PySem.W.Frag)(T:String)(r:V→List V→Hp→VK→Prop)(to:TE):TE:=fun σ H Q=>to σ H fun x H1=>tyV K T x H1∧r x [] H1 Q
noncomputable def tBM(K:PySem.W.Frag)(T:String)(r:V→List V→Hp→VK→Prop)(to:TE)(t:TA):TE:=fun σ H Q=>to σ H fun x H1=>tyV K T x H1∧t σ H1 fun xs H2=>r x xs H2 Q
variable {o e:Expr} {es:List Expr} {to:TE} {t:TA} {name:Str} {apos cpos:Pos} {T id:String} {r:V→List V→Hp→VK→Prop}
theorem pe_bm0(pa:PlainAttrs T)(slot:Slot T name id)(hty:typeOf (.builtin id)=pure (.type "method_descriptor"))(hm:MtR X id r)(ho:PE X o to)
 (hbase:attributeBase o name X.env (eval o X.env)=eval o X.env:=by rfl) (hline:(apos.endLine==cpos.line)=true:=by rfl):PE X (.Call (.Attribute o name apos) [] [] cpos) (tBM0 X.K T r to):=by
 intro pins s σ H Q I h
 refine wpAny_Call_method0_late hbase hline (thn (ho pins s σ H _ I h) fun v s1 hq_=>?_)
 obtain ⟨x,H1,I1,r1,ty,q1⟩:=hq_
 obtain ⟨h1,h2⟩:=tyV_is I1 r1 ty
 exact ⟨T,id,pa,slot,hty,h1,h2,Calls.callWith_builtin rfl (PySem.evalArgs_none (hm pins s1 σ H1 x [] v [] Q I1 r1 .nil q1))⟩
theorem pe_bm(pa:PlainAttrs T)(slot:Slot T name id)(hty:typeOf (.builtin id)=pure (.type "method_descriptor"))(hm:MtR X id r)(ho:PE X o to)(ha:PA X (e::es) t)
 (hbase:attributeBase o name X.env (eval o X.env)=eval o X.env:=by rfl)
 (hfew:((backTo cpos (starEach (e::es) X.env)).all (fun x=>!x.1) && (backToKw cpos (keywordEach [] X.env)).all (fun x=>x.1.isSome)
  && decide ((e::es).length+([]:List Keyword).length+(if ([]:List Keyword).isEmpty then 0 else 1) < 30))=true:=by rfl)
 (hline:(apos.endLine==cpos.line)=true:=by rfl) (hs:starEach (e::es) X.env=(false,eval e X.env)::starEach es X.env:=by rfl) (hplain:(backTo cpos (starEach es X.env)).any (·.1)=false:=by rfl):
 PE X (.Call (.Attribute o name apos) (e::es) [] cpos) (tBM X.K T r to t):=by
 intro pins s σ H Q I h
 refine wpAny_Call_method_late hbase hfew hline rfl (thn (ho pins s σ H _ I h) fun v s1 hq_=>?_)
 obtain ⟨x,H1,I1,r1,ty,q1⟩:=hq_
 obtain ⟨h1,h2⟩:=tyV_is I1 r1 ty
 refine ⟨T,id,pa,slot,hty,h1,h2,?_⟩
 have hA:=ha cpos pins s1 σ H1 _ I1 q1
 rw [hs]at hA ⊢
 refine Calls.callWith_builtin (by show (false || (backTo cpos (starEach es X.env)).any (·.1))=false;rw [hplain] <;> rfl) (Calls.evalArgs_plain ?_)
 exact thn hA fun us s2 ⟨vs,H2,I2,r2,q2⟩=>hm pins s2 σ H2 x vs v us Q I2 r1 r2 q2
end
end L2
namespace L2
noncomputable def MtM(X:Cx)(id:String)(r:V→List V→Hp→VK→Prop):Prop:=
 ∀(pins:List (Addr×Obj)) (s:Shared) (σ:St) (H:Hp) (x:V) (xs:List V) (v:Value) (us:List Value) (Q:VK),Inv X pins σ H s→RelV x v→Vals xs us→r x xs H Q→
   wpAny (model X.prog X.w) X.A (call (.builtin id) (v::us)) (EP X pins σ Q) X.xe s
theorem Vals.one:∀{x:V} {us:List Value},Vals [x] us→∃u,us=[u]∧RelV x u
 | _,_,.cons r .nil=>⟨_,rfl,r⟩
theorem Vals.zero:∀{us:List Value},Vals [] us→us=[]
 | _,.nil=>rfl
theorem Vals.eraseIdx:∀{xs:List V} {us:List Value} (i:Nat),Vals xs us→Vals (xs.eraseIdx i) (us.eraseIdx i)
 | _,_,_,.nil=> .nil
 | _,_,0,.cons _ t=>t
 | _,_,i+1,.cons r t=> .cons r (Vals.eraseIdx i t)
section
variable {X:Cx} {pins:List (Addr×Obj)} {σ:St} {H:Hp} {s:Shared} {l b:Addr} {xs ys zs:List V}
theorem Inv.lset{its its':List Value}{n:Nat}{f:Array Value→Array Value}{t':Nat}(I:Inv X pins σ H s)(hH:H l=some (.lst xs))
 (e:s.heap.get? l=some {cls:= .type "list",data:= .seq its.toArray n}) (hf:f its.toArray=its'.toArray) (hv:Vals ys its') (hz:ys.length≤sizeLine):
 Inv X pins σ (upd H l (.lst ys)) {s with heap:=s.heap.update l (Obj.mapSeq f),toks:=t'}:=by
 have q:=PySem.IsL.update e f
 rw [hf]at q
 refine I.write (x:=l) (e:=l) (by rw [hH];exact trivial) (.inl rfl) (fun b' u hb hu=>(Heap.get?_update_other s.heap (Obj.mapSeq f) (Ne.symm hb)).trans hu) ⟨_,q⟩ ?_
 exact ⟨hz,its',_,hv,q⟩
theorem Inv.lnew{its:List Value}{t':Nat}(I:Inv X pins σ H s)(hv:Vals ys its)(hz:ys.length≤sizeLine):
 Inv X pins σ (upd H s.heap.objs.size (.lst ys)) {s with heap:=s.heap.push {cls:= .type "list",data:= .seq its.toArray},toks:=t'}:=
 I.laid (fun _ _ q=>Heap.get?_push_of_some _ q) (Nat.le_refl _) ⟨hz,its,0,hv,Heap.get?_push_size _ rfl⟩
theorem Inv.fresh(I:Inv X pins σ H s):H s.heap.objs.size=none:=I.hok.fresh (Nat.le_refl _)
theorem Inv.lstM(I:Inv X pins σ H s)(hH:H l=some (.lst xs)):xs.length≤sizeLine∧∃(its:List Value) (n:Nat),Vals xs its∧xs.length=its.length∧s.heap.get? l=some {cls:= .type "list",data:= .seq its.toArray n}:=by
 obtain ⟨z,its,n,r,e⟩:=I.hok l _ hH
 exact ⟨z,its,n,r,r.length,e⟩
end
section
variable {X:Cx}
noncomputable def rAppend:V→List V→Hp→VK→Prop:=fun x vs H Q=>∃l xs y,x= .ref l∧vs=[y]∧H l=some (.lst xs)∧xs.length < sizeLine∧Q .non (upd H l (.lst (xs++[y])))
theorem mt_append:MtM X "list.append" rAppend:=by
 intro pins s σ H x vs v us Q I rx rv h
 obtain ⟨l,xs,y,rfl,rfl,hH,hz,q⟩:=h
 cases rx
 obtain ⟨u,rfl,ru⟩:=rv.one
 obtain ⟨z,its,n,r,hl,e⟩:=I.lstM hH
 refine call_meets F.slot_list_append ⟨_,e,rfl⟩ F.entry_list_append (F.args_list_append_2 _ _) (PySem.list_append l its.toArray n u (by rw [List.size_toArray];omega)) ⟨e,?_⟩
 refine ⟨.non,_,I.lset (its':=its++[u]) hH e (by simp) (r.append (.cons ru .nil)) ?_,rfl,q⟩
 rw [List.length_append,List.length_singleton]
 omega
noncomputable def rPopAt:V→List V→Hp→VK→Prop:=fun x vs H Q=>∃l xs i k y,x= .ref l∧vs=[.int i]∧H l=some (.lst xs)∧-(2 ^ 63)≤i∧i < 2 ^ 63∧seqIndex? i xs.length=some k∧xs[k]?=some y∧Q y (upd H l (.lst (xs.eraseIdx k)))
noncomputable def rClear:V→List V→Hp→VK→Prop:=fun x vs H Q=>∃l xs,x= .ref l∧vs=[]∧H l=some (.lst xs)∧Q .non (upd H l (.lst []))
theorem mt_clear:MtM X "list.clear" rClear:=by
 intro pins s σ H x vs v us Q I rx rv h
 obtain ⟨l,xs,rfl,rfl,hH,q⟩:=h
 cases rx
 have hus:=rv.zero
 subst hus
 obtain ⟨z,its,n,r,hl,e⟩:=I.lstM hH
 refine call_meets F.slot_list_clear ⟨_,e,rfl⟩ F.entry_list_clear (F.args_list_clear_1 _) (AutoSeq1.list_clear_list_0 l its.toArray n (by rw [List.size_toArray];omega)) ⟨e,?_⟩
 exact ⟨.non,_,I.lset (its':=[]) (ys:=[]) hH e rfl .nil (Nat.zero_le _),rfl,q⟩
noncomputable def rCat:R2:=fun x y H Q=>∃l b xs zs,x= .ref l∧y= .ref b∧H l=some (.lst xs)∧H b=some (.lst zs)∧xs.length+zs.length≤sizeLine∧∀p,H p=none→Q (.ref p) (upd H p (.lst (xs++zs)))
theorem op_cat:OpR X (binaryOp .Add) rCat:=by
 intro pins s σ H x y v u Q I rx ry h
 obtain ⟨l,b,xs,zs,rfl,rfl,hH,hB,hz,q⟩:=h
 cases rx
 cases ry
 obtain ⟨z,its,n,r,hl,e⟩:=I.lstM hH
 obtain ⟨z2,its2,n2,r2,hl2,e2⟩:=I.lstM hB
 refine PySem.P.add_list e e2 ?_ (by rw [List.size_toArray,List.size_toArray];omega)
 have ea:its.toArray++its2.toArray=(its++its2).toArray:=by simp
 rw [ea]
 exact ⟨.ref _,_,I.lnew (t':=s.toks) (r.append r2) (by rw [List.length_append];omega),rfl,q _ I.fresh⟩
end
end L2
namespace Att
open PySem PySem.W PySem.Calls PyProof.Rows
theorem ints_of_wellAll{P:Params}{h:Heap}:∀(ns:List Int) (vs:List Value),WellAll P h vs (ns.map WData.int)→IntsAre vs ns:=by
 intro ns
 induction ns with
 | nil=>
  intro vs w
  rw [List.map_nil]at w
  cases w
  exact .nil
 | cons n ns ih=>
  intro vs w
  rw [List.map_cons]at w
  cases w with
  | cons a b=>
   cases a
   exact .cons _ _ (ih _ b)
theorem script_of{l:OpenLaw}{n:Nat}(hn:l.most=some n){P:Params}{h:Heap}{args:List WData}{vals:List Value}
 (hpre:l.row.toRowW.claim.pre args=true) (hwl:WellAll P h vals args):
 ∃a vs ns,vals=[Value.ref a]∧args=[WData.list (ns.map WData.int)]∧h.get? a=some {cls:= .type "list",data:= .seq vs.toArray}∧IntsAre vs ns∧ns.length≤n:=by
 have hsh:WShape.hasAll [] args [.list .int]=true:=(pre_splitW hpre).1
 have hc:l.pre.holds [] {args:=args}=true:=(pre_splitW hpre).2
 obtain ⟨d,r,rfl,h1,h2⟩:=hasAllW_cons hsh
 obtain rfl:=hasAllW_nil h2
 obtain ⟨xs,rfl,h3⟩:=hasW_list h1
 obtain ⟨ns,rfl⟩:=items_int h3
 have hlen:ns.length≤n:=by
  unfold OpenLaw.pre at hc
  have h4:(WTm.not (.lt (.lit (.int (n:Int))) (.len (.arg 0)))).holds [] {args:=[.list (ns.map .int)]}=true:=by
   have h4:=(holds_andW hc).1
   rw [hn]at h4
   exact h4
  have h5:=condW_of h4 (w_not (w_lt w_lit (w_len_list (w_arg rfl))))
  rw [List.length_map]at h5
  refine Nat.le_of_not_lt fun q=>?_
  have q':(n:Int) < ((ns.length:Nat):Int):=by omega
  first
   | (rw [decide_eq_true q']at h5;exact absurd h5 (by decide))
   | (simp at h5;omega)
 cases hwl with
 | cons w1 w2=>
  cases w2
  cases w1 with
  | list ho hall=>exact ⟨_,_,ns,rfl,rfl,ho,ints_of_wellAll ns _ hall,hlen⟩
theorem post_true(l:OpenLaw)(args:List WData):l.row.toRowW.claim.post args (.bool true) args=true:=
 postW_of (r:=l.row.toRowW) (X:=(true==true))
  (show WShape.has [] (.bool true) .bool=true by first | rfl | decide | simp [WShape.has,WShape.arms,WShape.armsAll])
  (show (WTm.eq .res (.lit (.bool true))).value [] {args:=args,res:=some (.bool true),after:=args}=some (.bool (true==true)) from w_eq_bool (w_res rfl) w_lit) rfl
theorem attach_call{l:OpenLaw}{n:Nat}{q:Program}{loose:List Str}{XP:(Str→Option Value)→Heap→Prop}{YP:World→Heap→Prop}{d:DefRec}
 (hn:l.most=some n) (hdf:d.params.defaults=[])
 (call:∀(w:World) (s₀ s₁:Shared) (mg mb:Str→Option Value) (fa:Addr) (o:Obj) (pm cd doc:Value) (a:Addr) (vs:List Value) (ns:List Int),
  Ground q loose [] XP w s₀ mg mb s₁.heap→YP w s₁.heap→
  s₁.heap.get? fa=some o→o.data= .func (docDef d.name d.params d.body d.scope pm cd doc)→s₁.heap.CodeRec cd d.name→mg d.name=some (.ref fa)→
  s₁.heap.get? a=some {cls:= .type "list",data:= .seq vs.toArray}→IntsAre vs ns→ns.length≤n→s₁.gens=#[]→
  codeAny (model l.prog w) callerA (.call (.ref fa) ⟨[.ref a],[]⟩) (fun r s'=>r= .ok (.ret (.bool true))∧OldK s₁.heap s'.heap∧s'.os=s₁.os∧AllBare s'.gens) s₁):
 WalkO q loose XP YP l.row.toRowW d [] (fun f vs=>PySem.call f vs):=by
 intro w s₀ s₁ mg mb G Y fa o pm cd doc dV kV ho hd hcd hD hmg hg args vals as hpre hlay hrd hwl hlo
 obtain rfl:dV= .none:=Dflts.none hD hdf
 obtain rfl:kV= .none:=Dflts.noKw hD
 obtain ⟨a,vs,ns,rfl,rfl,hobj,hints,hlen⟩:=script_of hn hpre hwl
 refine enter_call (codeAny_mono (call w s₀ s₁ mg mb fa o pm cd doc a vs ns G Y ho (fd_plain hd) hcd hmg hobj hints hlen hg) fun r s' hq=>?_)
 obtain ⟨rfl,h2,h3,h4⟩:=hq
 exact ⟨.inl ⟨.bool true,.bool true,[],rfl,fun _=>rfl,.bool true,post_true l _,fun _=>⟨List.Pairwise.nil,fun _ hm=>(nomatch hm)⟩⟩,h2,h3,h4⟩
end Att
namespace L2
theorem vals_ints:∀{vs:List Value} {ns:List Int},IntsAre vs ns→Vals (ns.map V.int) vs
 | _,_,.nil=> .nil
 | _,_,.cons n t h=> .cons ⟨t,rfl⟩ (vals_ints h)
noncomputable def Only(H:Hp):Prop:=∀b,H b=none∨∃o xs,H b=some (.frz o (.lst xs))
theorem law_call{P:Program}{w:World}{K:PySem.W.Frag}{mg mb:Str→Option Value}{CX:CXT}{k:Nat}{fa a:Addr}{fd:FuncData}{x:Str}{sp:Sp}{s₁:Shared}{vs:List Value}{ns:List Int}
 (KX:K.In s₁.heap) (hns:s₁.heap.Ns mainGlobals mg) (hb:s₁.heap.Ns builtinsNs mb) (hbb:∀x:Str,x≠"__name__"→mb x=bootBuiltins x) (hlim:s₁.heap.NoLimit) (hg:s₁.gens=#[])
 (ha:s₁.heap.get? a=some {cls:= .type "list",data:= .seq vs.toArray}) (hi:IntsAre vs ns) (hl:ns.length≤sizeLine) (hr:Room k callerA)
 (F:∀base:Heap,K.In base→base.Ns mainGlobals mg→FnOk P w K mg base CX k fa fd [x] sp) (hbind:∀(s:Shared) (u:Value),BindsTo s fd ⟨[u],[]⟩ [(x,u)])
 (hsp:∀H:Hp,Only H→SqL K H a (ns.map V.int)→sp [.ref a] H (fun v _=>v= .bl true) fun _ _ _=>False)
 (hCX:∀H e s',CX [] H s₁ (fun _ _ _=>False) e s'→False):
 codeAny (model P w) callerA (.call (.ref fa) ⟨[.ref a],[]⟩) (fun r s'=>r= .ok (.ret (.bool true))∧OldK s₁.heap s'.heap∧s'.os=s₁.os∧AllBare s'.gens) s₁:=by
 have rv:=vals_ints hi
 have lenV:=hi.length
 have core:∀H:Hp,Only H→SqL K H a (ns.map V.int)→HOk P w H s₁.heap→(∀b,H b≠none→b=a)→(H a≠none→K.lookup a=none)→
  codeAny (model P w) callerA (.call (.ref fa) ⟨[.ref a],[]⟩) (fun r s'=>r= .ok (.ret (.bool true))∧OldK s₁.heap s'.heap∧s'.os=s₁.os∧AllBare s'.gens) s₁:=by
  intro H hO hS hok hA hK
  have base_of:∀{b:Addr} {o:Obj},s₁.heap.get? b=some o→H b=none→(hidT s₁.heap H).get? b=some o:=fun e n=>hidT_get e n
  have noA:∀{b:Addr} {o:Obj} {es:Array DictEntry} {ep:Nat},s₁.heap.get? b=some o→o.data= .dict es ep→H b=none:=fun {b o es ep} e d=>by
   cases q:H b with
   | none=>rfl
   | some u=>
    have e':b=a:=hA b (by rw [q];simp)
    subst e'
    rw [ha]at e;cases e
    have d':Data.seq vs.toArray _=Data.dict es ep:=d
    cases d'
  have nsK:∀{b:Addr} {m:Str→Option Value},s₁.heap.Ns b m→(hidT s₁.heap H).Ns b m:=fun {b m} ⟨o,es,ep,e,d,r⟩=>⟨o,es,ep,base_of e (noA e d),d,r⟩
  have hKb:K.In (hidT s₁.heap H):=fun b o e=>base_of (KX b o e) (by
   cases q:H b with
   | none=>rfl
   | some u=>
    have e':b=a:=hA b (by rw [q];simp)
    subst e'
    rw [hK (by rw [q];simp)]at e;cases e)
  have hM:Mod K mg (hidT s₁.heap H):=⟨hKb,nsK hns,⟨mb,nsK hb,hbb⟩,let ⟨mc,h1,h2⟩:=hlim;⟨mc,nsK h1,h2⟩⟩
  have e0:Env0 P w K mg (hidT s₁.heap H) callerA [] s₁ H:=⟨rfl,hM,fun b o e=>of_hidT e,Nat.le_of_eq (hidT_size _ _),trivial,fun b hb=>absurd (show b∈([]:List Addr) from hb) (by simp),hok,.of_eq hg⟩
  refine codeAny_mono ((F _ hKb (nsK hns)).run callerA [] s₁ H ⟨[.ref a],[]⟩ [.ref a] [.ref a] _ _ hr e0 (hbind s₁ (.ref a)) (.cons rfl .nil) (hsp H hO hS)) fun r s' h=>?_
  cases r with
  | error e=>exact (hCX H e s' h).elim
  | ok fl=>
   cases fl with
   | next=>exact False.elim h
   | brk=>exact False.elim h
   | cont=>exact False.elim h
   | ret u=>
    obtain ⟨v,H',os,bare,un,hok',r',q⟩:=h
    have q':v= .bl true:=q
    subst q'
    obtain rfl:u=Value.bool true:=r'
    refine ⟨rfl,OldK.of_keep fun b o e=>?_,os,bare⟩
    cases q:H b with
    | none=>exact un.keep b o e q (by intro z;exact absurd (show b∈([]:List Addr) from z) (by simp)) (by simp)
    | some u=>
     rcases hO b with z | ⟨ob,xs,z⟩
     · rw [q]at z;cases z
     · have z2:=un.frzs b ob _ z
       obtain ⟨e1,_⟩:=hok b _ z
       obtain ⟨e2,_⟩:=hok' b _ z2
       rw [e]at e1;cases e1
       exact e2
 cases hk:K.lookup a with
 | some o=>
  have e:=KX a o hk
  rw [ha]at e
  cases e
  refine core (fun _=>none) (fun _=> .inl rfl) (.inr ⟨_,vs.toArray,_,hk,rfl,rfl,rfl,by rw [List.size_toArray,lenV];exact hl,by simpa using rv⟩) (fun b u z=>by have z':(none:Option HO)=some u:=z;cases z') (fun b z=>absurd rfl z) fun z=>absurd rfl z
 | none=>
  refine core (fun b=>if b=a then some (.frz {cls:= .type "list",data:= .seq vs.toArray} (.lst (ns.map V.int))) else none) (fun b=>?_) (.inl (.inr ⟨{cls:= .type "list",data:= .seq vs.toArray},if_pos rfl⟩)) (fun b u z=>?_) (fun b z=>?_) fun _=>hk
  · by_cases hb:b=a
    · exact .inr ⟨_,_,if_pos hb⟩
    · exact .inl (if_neg hb)
  · by_cases hb:b=a
    · have z':=(if_pos hb).symm.trans z
      cases z'
      subst hb
      exact ⟨ha,by rw [List.length_map];exact hl,vs,_,rv,ha⟩
    · have z':=(if_neg hb).symm.trans z
      cases z'
  · by_cases hb:b=a
    · exact hb
    · exact absurd (if_neg hb) z
end L2
namespace L2
theorem walk_of{l:PySem.W.OpenLaw}{n k:Nat}{q:Program}{loose:List Str}{XP:(Str→Option Value)→Heap→Prop}{YP:World→Heap→Prop}{d:DefRec}{K:Params→PySem.W.Frag}{CX:World→CXT}{sp:World→Sp}{x:Str}
 (hn:l.most=some n) (hn2:n≤sizeLine) (hdf:d.params.defaults=[]) (hr:Room k callerA)
 (hY:∀(w:World) (h:Heap),YP w h→(K w.params).In h)
 (F:∀(w:World) (mg:Str→Option Value) (fa:Addr) (h:Heap),(K w.params).In h→h.Ns mainGlobals mg→mg d.name=some (.ref fa)→
  ∃fd:FuncData,(∀(s:Shared) (u:Value),BindsTo s fd ⟨[u],[]⟩ [(x,u)])∧
   ∀base:Heap,(K w.params).In base→base.Ns mainGlobals mg→FnOk l.prog w (K w.params) mg base (CX w) k fa fd [x] (sp w))
 (hsp:∀(w:World) (H:Hp) (a:Addr) (ns:List Int),ns.length≤n→Only H→SqL (K w.params) H a (ns.map V.int)→sp w [.ref a] H (fun v _=>v= .bl true) fun _ _ _=>False)
 (hCX:∀(w:World) (H:Hp) (s:Shared) (e:Value) (s':Shared),CX w [] H s (fun _ _ _=>False) e s'→False):
 PySem.W.WalkO q loose XP YP l.row.toRowW d [] (fun f vs=>PySem.call f vs):=by
 refine Att.attach_call hn hdf fun w s₀ s₁ mg mb fa o pm cd doc a vs ns G Y ho hd hcd hmg hobj hints hlen hg=>?_
 have KX:=hY w _ Y
 obtain ⟨fd,hb,hF⟩:=F w mg fa _ KX G.T.g hmg
 exact law_call KX G.T.g G.T.b G.T.builtins G.T.nolimit hg hobj hints (Nat.le_trans hlen hn2) hr hF hb (fun H hO hS=>hsp w H a ns hlen hO hS) fun H e s'=>hCX w H s₁ e s'
theorem walk_ofK{l:PySem.W.OpenLaw}{n k:Nat}{q:Program}{loose:List Str}{XP:(Str→Option Value)→Heap→Prop}{YP:World→Heap→Prop}{d:DefRec}{K:Params→PySem.W.Frag}{CX:CXT}{sp:PySem.W.Frag→Sp}{x:Str}
 (hn:l.most=some n) (hn2:n≤sizeLine) (hdf:d.params.defaults=[]) (hr:Room k callerA)
 (hY:∀(w:World) (h:Heap),YP w h→(K w.params).In h)
 (F:∀(w:World) (mg:Str→Option Value) (fa:Addr) (h:Heap),(K w.params).In h→h.Ns mainGlobals mg→mg d.name=some (.ref fa)→
  ∃fd:FuncData,(∀(s:Shared) (u:Value),BindsTo s fd ⟨[u],[]⟩ [(x,u)])∧
   ∀base:Heap,(K w.params).In base→base.Ns mainGlobals mg→FnOk l.prog w (K w.params) mg base CX k fa fd [x] (sp (K w.params)))
 (hsp:∀(K:PySem.W.Frag) (H:Hp) (a:Addr) (ns:List Int),ns.length≤n→Only H→SqL K H a (ns.map V.int)→sp K [.ref a] H (fun v _=>v= .bl true) fun _ _ _=>False)
 (hCX:∀(H:Hp) (s:Shared) (e:Value) (s':Shared),CX [] H s (fun _ _ _=>False) e s'→False):
 PySem.W.WalkO q loose XP YP l.row.toRowW d [] (fun f vs=>PySem.call f vs):=
 walk_of (K:=K) (CX:=fun _=>CX) (sp:=fun w=>sp (K w.params)) hn hn2 hdf hr hY F (fun w H a ns h1 h2 h3=>hsp (K w.params) H a ns h1 h2 h3) fun _ H s e s'=>hCX H s e s'
end L2
namespace L2
noncomputable def inClass(s:Stmt)(j:Nat):Stmt:=match s with
 | .ClassDef _ _ _ body _ _ _ _ _ _ _=>body.getD j (.Pass ⟨0,0,0,0⟩)
 | _=> .Pass ⟨0,0,0,0⟩
noncomputable def defArgs(s:Stmt):Arguments:=match s with
 | .FunctionDef _ a _ _ _ _ _ _ _ _=>a
 | _=>{posonlyargs:=[],args:=[],vararg:=none,kwonlyargs:=[],kw_defaults:=[],kwarg:=none,defaults:=[]}
noncomputable def defBody(s:Stmt):List Stmt:=match s with
 | .FunctionDef _ _ b _ _ _ _ _ _ _=>b
 | _=>[]
noncomputable def defScope(s:Stmt):Scope:=match s with
 | .FunctionDef _ _ _ _ _ _ sc _ _ _=>sc
 | _=>{kind:= .function,names:=[],isGenerator:=false,isCoroutine:=false}
noncomputable abbrev CX0:CXT:=fun _ _ _ _ _ _=>False
noncomputable abbrev E0:XK:=fun _ _ _=>False
theorem pass0{X:Cx}:Passes CX0 X E0:=fun _ _ _ _ _ _ _ h=>h.elim
structure Fun(K:PySem.W.Frag)(x qual:Str)(st:Stmt)(f:Addr)(fd:FuncData):Prop where
 ex:∃(oc:Value) (od:Option Addr) (kV doc pm:Value) (an:Option Addr) (cdv ct:Value) (osl:Array (Option Value)),
  fd=PySem.W.fnOf x qual (defArgs st) (defBody st) (defScope st) .none kV doc pm an cdv ct∧K.lookup f=some ⟨oc,od,.func fd,osl⟩∧PySem.W.codeIn K cdv qual=true
 kp:PySem.W.keepIn K (.ref f)=true
section
variable {P:Program} {w:World} {K:PySem.W.Frag} {mg:Str→Option Value} {base:Heap}
theorem Fun.ok{x qual:Str}{st:Stmt}{f:Addr}{fd:FuncData}{N ps:List Str}{k:Nat}{sp:Sp}(F:Fun K x qual st f fd)(S:FnScope N ps (defScope st))(len:∀vs H Q E,sp vs H Q E→vs.length=ps.length)
 (hbody:∀(cdv:Value) (A:Around) (outer:List Env) (s:Shared) (H:Hp) (vs:List V) (Q:VK) (E:XK),Room k (A.deeper (envOfC qual (defScope st) s.heap.objs.size f cdv))→sp vs H Q E→
  ∃t,PSs (cxOf CX0 P w K mg base N qual (defScope st) f cdv A outer s H E).nox (defBody st) t∧t {nx:=fun _ H'=>Q .non H',rt:=Q} (start N vs) H):FnOk P w K mg base CX0 (k+1) f fd ps sp:=by
 obtain ⟨oc,od,kV,doc,pm,an,cdv,ct,osl,rfl,lk,hcd⟩:=F.ex
 refine fn_of lk hcd S len fun A outer s H vs Q E hr hsp=>?_
 obtain ⟨t,h,q⟩:=hbody cdv A outer s H vs Q E hr hsp
 exact ⟨t,h.nox,q⟩
theorem Fun.binds{x qual:Str}{st:Stmt}{f:Addr}{fd:FuncData}{ps:List Str}(F:Fun K x qual st f fd)
 (h:∀(kV doc pm:Value) (an:Option Addr) (cdv ct:Value) (us:List Value),us.length=ps.length→bindArgs (PySem.W.fnOf x qual (defArgs st) (defBody st) (defScope st) .none kV doc pm an cdv ct) ⟨us,[]⟩=pure (ps.zip us)):Binds K fd ps []:=by
 obtain ⟨oc,od,kV,doc,pm,an,cdv,ct,osl,rfl,lk,hcd⟩:=F.ex
 exact .all (h kV doc pm an cdv ct)
theorem fun_mk{x qual:Str}{st:Stmt}{f:Addr}{oc:Value}{od an:Option Addr}{osl:Array (Option Value)}{kV doc pm cdv ct:Value}(l:K.lookup f=some ⟨oc,od,.func (PySem.W.fnOf x qual (defArgs st) (defBody st) (defScope st) .none kV doc pm an cdv ct),osl⟩)
 (c:PySem.W.codeIn K cdv qual=true) (k:PySem.W.keepIn K (.ref f)=true):Fun K x qual st f (PySem.W.fnOf x qual (defArgs st) (defBody st) (defScope st) .none kV doc pm an cdv ct):=⟨⟨oc,od,kV,doc,pm,an,cdv,ct,osl,rfl,l,c⟩,k⟩
end
theorem hu_of{A:Around}{k:Nat}(hr:Room k A):A.units+1 < cLine:=Nat.lt_of_le_of_lt (Nat.add_le_add_left (by decide:1≤64) _) hr.units
section
variable {X:Cx}
theorem pv(i:Nat){x:Str}{pos:Pos}(hN:X.N[i]?=some x:=by rfl)(hv:Vis X.env.scope x:=by first | exact Or.inl rfl | exact Or.inr (Or.inl rfl) | exact Or.inr (Or.inr rfl))(hd:(x==("__debug__":Str))=false:=by decide)
 (hcd:(x==("__classdict__":Str))=false:=by decide):PE X (.Name x pos) (tVar i):=pe_var hN hv hd hcd
end
noncomputable def Same(H H':Hp):Prop:=∀b o,H b=some o→H' b=some o
theorem Same.refl(H:Hp):Same H H:=fun _ _ h=>h
theorem Same.trans{H H1 H2:Hp}(a:Same H H1)(b:Same H1 H2):Same H H2:=fun c o h=>b c o (a c o h)
theorem Same.seq{K:PySem.W.Frag}{H H':Hp}{a:Addr}{xs:List V}(e:Same H H')(h:SqL K H a xs):SqL K H' a xs:=by
 rcases h with (h | ⟨o,h⟩) | h
 · exact .inl (.inl (e _ _ h))
 · exact .inl (.inr ⟨o,e _ _ h⟩)
 · exact .inr h
end L2
namespace L2
section
variable {κ:Type} [DecidableEq κ]
noncomputable def valV(kvs:List (κ×V))(k:κ):Option V:=(kvs.find? fun kv=>decide (kv.1=k)).map (·.2)
noncomputable def putK(kvs:List (κ×V))(k:κ)(v:V):List (κ×V):=
 if (kvs.any fun kv=>decide (kv.1=k))=true then kvs.map (fun kv=>if kv.1=k then (kv.1,v) else kv) else kvs++[(k,v)]
theorem valV_pos{p:κ×V}{r:List (κ×V)}{k:κ}(e:p.1=k):valV (p::r) k=some p.2:=by simp [valV,List.find?_cons,e]
theorem valV_neg{p:κ×V}{r:List (κ×V)}{k:κ}(e:¬p.1=k):valV (p::r) k=valV r k:=by simp [valV,List.find?_cons,e]
theorem valV_any(k:κ):∀kvs:List (κ×V),(kvs.any fun kv=>decide (kv.1=k))=(valV kvs k).isSome
 | []=>rfl
 | p::r=>by
  rw [List.any_cons]
  by_cases e:p.1=k
  · simp only [valV_pos e,decide_eq_true e,Bool.true_or,Option.isSome_some]
  · rw [valV_neg e,decide_eq_false e,Bool.false_or];exact valV_any k r
theorem valV_map(k j:κ)(y:V):∀kvs:List (κ×V),valV (kvs.map fun kv=>if kv.1=k then (kv.1,y) else kv) j=(valV kvs j).map fun x=>if j=k then y else x
 | []=>rfl
 | p::r=>by
  have ih:=valV_map k j y r
  rw [List.map_cons]
  by_cases h:p.1=k
  · rw [if_pos h]
    by_cases e:p.1=j
    · rw [valV_pos (p:=(p.1,y)) e,valV_pos e,Option.map_some,if_pos (e.symm.trans h)]
    · rw [valV_neg (p:=(p.1,y)) e,valV_neg e,ih]
  · rw [if_neg h]
    by_cases e:p.1=j
    · rw [valV_pos (p:=p) e,valV_pos e,Option.map_some,if_neg (fun z=>h (e.trans z))]
    · rw [valV_neg (p:=p) e,valV_neg e,ih]
theorem valV_snoc(k j:κ)(y:V):∀kvs:List (κ×V),valV kvs k=none→valV (kvs++[(k,y)]) j=if j=k then some y else valV kvs j
 | [],_=>by
  by_cases e:k=j
  · rw [if_pos e.symm];exact valV_pos (p:=(k,y)) e
  · rw [if_neg (fun z=>e z.symm)];exact valV_neg (p:=(k,y)) e
 | p::r,hn=>by
  rw [List.cons_append]
  have hk:¬p.1=k:=fun z=>by rw [valV_pos z]at hn;cases hn
  rw [valV_neg hk]at hn
  have ih:=valV_snoc k j y r hn
  by_cases e:p.1=j
  · rw [valV_pos e,valV_pos e,if_neg (fun z=>hk (e.trans z))]
  · rw [valV_neg e,valV_neg e,ih]
theorem valV_put(kvs:List (κ×V))(k j:κ)(y:V):valV (putK kvs k y) j=if j=k then some y else valV kvs j:=by
 unfold putK
 by_cases a:(kvs.any fun kv=>decide (kv.1=k))=true
 · rw [if_pos a,valV_map]
   rw [valV_any]at a
   by_cases e:j=k
   · obtain ⟨x,hx⟩:=Option.isSome_iff_exists.mp a
     rw [if_pos e,e,hx,Option.map_some,if_pos rfl]
   · rw [if_neg e]
     cases valV kvs j with
     | none=>rfl
     | some x=>rw [Option.map_some,if_neg e]
 · rw [if_neg a]
   refine valV_snoc k j y kvs ?_
   rw [valV_any]at a
   cases q:valV kvs k with
   | none=>rfl
   | some x=>rw [q]at a;exact (a rfl).elim
theorem length_putK(kvs:List (κ×V))(k:κ)(v:V):(putK kvs k v).length≤kvs.length+1:=by
 unfold putK
 split
 · rw [List.length_map];omega
 · rw [List.length_append,List.length_cons,List.length_nil];omega
theorem putK_new{kvs:List (κ×V)}{k:κ}(v:V)(h:valV kvs k=none):putK kvs k v=kvs++[(k,v)]:=by
 unfold putK
 rw [valV_any,h]
 exact if_neg (by decide)
theorem RelO.isSome_eq{o:Option V}{u:Option Value}(r:RelO o u):o.isSome=u.isSome:=by
 cases o with
 | none=>cases u with
  | none=>rfl
  | some _=>exact (show False from r).elim
 | some _=>cases u with
  | none=>exact (show False from r).elim
  | some _=>rfl
theorem KV.val{kvs:List (κ×V)}{vs:List (κ×Value)}(r:KV kvs vs)(k:κ):RelO (valV kvs k) (valueAt vs k):=by
 unfold KV at r
 induction r with
 | nil=>exact True.intro
 | @cons p q ps qs h t ih=>
  obtain ⟨h1,h2⟩:=h
  by_cases e:p.1=k
  · have e':q.1=k:=h1.symm.trans e
    have b:valueAt (q::qs) k=some q.2:=by simp [valueAt,List.find?_cons,e']
    rw [valV_pos e,b];exact h2
  · have e':¬q.1=k:=fun z=>e (h1.trans z)
    have b:valueAt (q::qs) k=valueAt qs k:=by simp [valueAt,List.find?_cons,e']
    rw [valV_neg e,b];exact ih
theorem KV.any{kvs:List (κ×V)}{vs:List (κ×Value)}(r:KV kvs vs)(k:κ):(kvs.any fun kv=>decide (kv.1=k))=vs.any fun kv=>decide (kv.1=k):=by
 unfold KV at r
 induction r with
 | nil=>rfl
 | cons h t ih=>rw [List.any_cons,List.any_cons,ih,h.1]
theorem KV.repl{kvs:List (κ×V)}{vs:List (κ×Value)}(r:KV kvs vs)(k:κ){y:V}{u:Value}(ry:RelV y u):
 KV (kvs.map fun kv=>if kv.1=k then (kv.1,y) else kv) (vs.map fun kv=>if kv.1=k then (kv.1,u) else kv):=by
 unfold KV at r ⊢
 induction r with
 | nil=>exact .nil
 | @cons p q ps qs h t ih=>
  rw [List.map_cons,List.map_cons]
  refine .cons ?_ ih
  obtain ⟨h1,h2⟩:=h
  by_cases e:p.1=k
  · rw [if_pos e,if_pos (h1.symm.trans e)];exact ⟨h1,ry⟩
  · rw [if_neg e,if_neg (fun z=>e (h1.trans z))];exact ⟨h1,h2⟩
theorem KV.put{kvs:List (κ×V)}{vs:List (κ×Value)}(r:KV kvs vs)(k:κ){y:V}{u:Value}(ry:RelV y u):KV (putK kvs k y) (stored vs k u):=by
 unfold putK stored
 rw [r.any k]
 by_cases e:(vs.any fun kv=>decide (kv.1=k))=true
 · rw [if_pos e,if_pos e];exact r.repl k ry
 · rw [if_neg e,if_neg e];exact Paired.snoc r ⟨rfl,ry⟩
theorem KV.length{kvs:List (κ×V)}{vs:List (κ×Value)}(r:KV kvs vs):kvs.length=vs.length:=Paired.length r
end
theorem kV_is{P:Program}{w:World}{k:Key}{u:Value}(r:RelV (kV k) u):(mixKind P w).is k u=true:=by
 cases k with
 | inl i=>obtain ⟨t,e⟩:=(show ∃t,u=Value.int i t from r);subst e;exact mixKind_int P w i t
 | inr x=>obtain ⟨t,e⟩:=(show ∃t,u=Value.str x t from r);subst e;exact mixKind_str P w x t
theorem items_are{P:Program}{w:World}:∀{ks:List Key} {us:List Value},Vals (ks.map kV) us→ItemsAre (mixKind P w) ks us
 | [],_,r=>by rw [List.map_nil]at r;cases r;exact .nil
 | k::ks,_,r=>by
  rw [List.map_cons]at r
  cases r with
  | cons h t=>exact .cons (kV_is h) (items_are t)
noncomputable abbrev KT(H:Hp):List (List Key×V)→List (List Key×Addr×Value)→Prop:=Paired fun p q=>p.1=q.1∧H q.2.1=some (.tup (p.1.map kV))∧RelV p.2 q.2.2
theorem KT.val{H:Hp}{kvs:List (List Key×V)}{xs:List (List Key×Addr×Value)}(r:KT H kvs xs)(k:List Key):RelO (valV kvs k) ((atKey xs k).map (·.2)):=by
 induction r with
 | nil=>exact True.intro
 | @cons p q ps qs h t ih=>
  obtain ⟨h1,_,h2⟩:=h
  by_cases e:p.1=k
  · have e':q.1=k:=h1.symm.trans e
    have b:atKey (q::qs) k=some q.2:=by simp [atKey,List.find?_cons,e']
    rw [valV_pos e,b];exact h2
  · have e':¬q.1=k:=fun z=>e (h1.trans z)
    have b:atKey (q::qs) k=atKey qs k:=by simp [atKey,List.find?_cons,e']
    rw [valV_neg e,b];exact ih
theorem KT.repl{H:Hp}{kvs:List (List Key×V)}{xs:List (List Key×Addr×Value)}(r:KT H kvs xs)(k:List Key){y:V}{u:Value}(ry:RelV y u):
 KT H (kvs.map fun kv=>if kv.1=k then (kv.1,y) else kv) (xs.map (putAt k u)):=by
 induction r with
 | nil=>exact .nil
 | @cons p q ps qs h t ih=>
  rw [List.map_cons,List.map_cons]
  refine .cons ?_ ih
  obtain ⟨h1,h2,h3⟩:=h
  unfold putAt
  by_cases e:p.1=k
  · rw [if_pos e,if_pos (h1.symm.trans e)];exact ⟨h1,h2,ry⟩
  · rw [if_neg e,if_neg (fun z=>e (h1.trans z))];exact ⟨h1,h2,h3⟩
theorem KT.put{H:Hp}{kvs:List (List Key×V)}{xs:List (List Key×Addr×Value)}(r:KT H kvs xs)(k:List Key){b:Addr}{y:V}{u:Value}(hb:H b=some (.tup (k.map kV)))(ry:RelV y u):
 KT H (putK kvs k y) (storedH xs k b u):=by
 have e:(kvs.any fun kv=>decide (kv.1=k))=(atKey xs k).isSome:=by
  rw [valV_any,(r.val k).isSome_eq,Option.isSome_map]
 unfold putK storedH
 rw [e]
 by_cases q:(atKey xs k).isSome=true
 · rw [if_pos q,if_pos q];exact r.repl k ry
 · rw [if_neg q,if_neg q];exact Paired.snoc r ⟨rfl,hb,ry⟩
theorem KT.keeps{H H':Hp}{kvs:List (List Key×V)}{xs:List (List Key×Addr×Value)}(r:KT H kvs xs)(ht:∀b ys,H b=some (.tup ys)→H' b=some (.tup ys)):KT H' kvs xs:=
 Paired.mapP r fun _ _ z=>⟨z.1,ht _ _ z.2.1,z.2.2⟩
section
variable {P:Program} {w:World} {H:Hp} {h:Heap} {a:Addr}
theorem rd_of{u:HO}(ok:HOk P w H h)(e:Rd H a u):ObjOk P w H h a u:=e.ok ok
theorem dk_rd{kvs:List (Key×V)}(ok:HOk P w H h)(e:Rd H a (.dK kvs)):kvs.length≤sizeLine∧(a==sysModules)=false∧∃vs,KV kvs vs∧h.DictOf (mixKind P w) a vs:=
 show ObjOk P w H h a (.dK kvs) from rd_of ok e
theorem dk_of{kvs:List (Key×V)}(ok:HOk P w H h)(e:H a=some (.dK kvs)):kvs.length≤sizeLine∧(a==sysModules)=false∧∃vs,KV kvs vs∧h.DictOf (mixKind P w) a vs:=dk_rd ok (.inl e)
theorem key_of{ks:List Key}(ok:HOk P w H h)(e:H a=some (.tup (ks.map kV))):(tupleKind (mixKind P w)).is h ks a:=by
 obtain ⟨_,its,r,o,h1,h2,n,h3⟩:=(show ObjOk P w H h a (.tup (ks.map kV)) from ok a _ e)
 exact ⟨o,its.toArray,n,h1,h2,h3,by simpa using items_are r⟩
theorem dt_rd{kvs:List (List Key×V)}(ok:HOk P w H h)(e:Rd H a (.dT kvs)):kvs.length≤sizeLine∧(a==sysModules)=false∧
 ∃xs,KT H kvs xs∧h.DictOfH (tupleKind (mixKind P w)) a xs:=by
 obtain ⟨z,y,xs,r,o,es,ep,h1,h2,h3,h4,h5⟩:=(show ObjOk P w H h a (.dT kvs) from rd_of ok e)
 refine ⟨z,y,xs,r,o,es,ep,h1,h2,h3,h4,fun x hx=>?_,h5⟩
 have all:∀{l:List (List Key×V)} {m:List (List Key×Addr×Value)},KT H l m→∀x∈m,(tupleKind (mixKind P w)).is h x.1 x.2.1:=by
  intro l m q
  induction q with
  | nil=>intro x hx;exact nomatch hx
  | @cons p q ps qs hq t ih=>
   intro x hx
   rcases List.mem_cons.mp hx with e | hx
   · subst e
     exact key_of ok (by rw [← hq.1];exact hq.2.1)
   · exact ih x hx
 exact all r x hx
theorem dt_of{kvs:List (List Key×V)}(ok:HOk P w H h)(e:H a=some (.dT kvs)):kvs.length≤sizeLine∧(a==sysModules)=false∧
 ∃xs,KT H kvs xs∧h.DictOfH (tupleKind (mixKind P w)) a xs:=dt_rd ok (.inl e)
end
noncomputable def DGet(H:Hp)(a:Addr)(y:V)(r:Option V):Prop:=
 (∃kvs k,Rd H a (.dK kvs)∧y=kV k∧r=valV kvs k)∨∃kvs k b,Rd H a (.dT kvs)∧y= .ref b∧H b=some (.tup (k.map kV))∧r=valV kvs k
noncomputable def DPut(H:Hp)(a:Addr)(y v:V)(H':Hp):Prop:=
 (∃kvs k,H a=some (.dK kvs)∧y=kV k∧kvs.length < sizeLine∧H'=upd H a (.dK (putK kvs k v)))∨
 ∃kvs k b,H a=some (.dT kvs)∧y= .ref b∧H b=some (.tup (k.map kV))∧kvs.length < sizeLine∧H'=upd H a (.dT (putK kvs k v))
theorem DGet.k{H:Hp}{a:Addr}{kvs:List (Key×V)}{k:Key}(e:H a=some (.dK kvs)):DGet H a (kV k) (valV kvs k):= .inl ⟨kvs,k,.inl e,rfl,rfl⟩
theorem DPut.k{H:Hp}{a:Addr}{kvs:List (Key×V)}{k:Key}{v:V}(e:H a=some (.dK kvs))(hl:kvs.length < sizeLine):DPut H a (kV k) v (upd H a (.dK (putK kvs k v))):= .inl ⟨kvs,k,e,rfl,hl,rfl⟩
section
variable {X:Cx} {pins:List (Addr×Obj)} {σ:St} {H:Hp} {s:Shared} {a:Addr} {y v:V} {u r:Value} {o:Option V} {A:Around} {E:Value→Shared→Prop}
theorem Inv.big(I:Inv X pins σ H s):sysModules < s.heap.objs.size:=by
 have h:mainGlobals < s.heap.objs.size:=(I.mod.glob.keeps I.bk).lt
 exact Nat.lt_trans (by decide) h
theorem d_getItem{Q:Value→Shared→Prop}(hu:A.units+1 < cLine)(I:Inv X pins σ H s)(g:DGet H a y (some v))(ry:RelV y u)(h:∀w' s',Inv X pins σ H s'→RelV v w'→Q w' s'):
 wpAny (model X.prog X.w) A (getItem (.ref a) u) Q E s:=by
 rcases g with ⟨kvs,k,e,ey,l⟩ | ⟨kvs,k,b,e,ey,eb,l⟩
 · subst ey
   obtain ⟨z,hd,vs,rel,dd⟩:=dk_rd I.hok e
   obtain ⟨w',hw,rw'⟩:=RelO.some_of (v:=v) (o:=valueAt vs k) (by rw [l];exact rel.val k)
   exact wpAny_getItem_of (kV_is ry) dd.mapOf hw (h w' _ (I.tok _) rw')
 · subst ey
   cases (show u=Value.ref b from ry)
   obtain ⟨z,hd,xs,rel,dd⟩:=dt_rd I.hok e
   obtain ⟨w',hw,rw'⟩:=RelO.some_of (v:=v) (o:=(atKey xs k).map (·.2)) (by rw [l];exact rel.val k)
   obtain ⟨p,hp,hp2⟩:=Option.map_eq_some_iff.mp hw
   refine wpAny_getItem_heap (tupleKind_room_in1 hu) (key_of I.hok eb) dd hp ?_
   rw [hp2]
   exact h w' _ (I.tok _) rw'
theorem d_in{Q:Value→Shared→Prop}(hu:A.units+1 < cLine)(I:Inv X pins σ H s)(g:DGet H a y o)(ry:RelV y u)(h:∀s',Inv X pins σ H s'→Q (.bool o.isSome) s'):
 wpAny (model X.prog X.w) A (compareOp .In u (.ref a)) Q E s:=by
 rcases g with ⟨kvs,k,e,ey,l⟩ | ⟨kvs,k,b,e,ey,eb,l⟩
 · subst ey
   obtain ⟨z,hd,vs,rel,dd⟩:=dk_rd I.hok e
   refine wpAny_in_of (kV_is ry) hd dd.mapOf ?_
   rw [← (rel.val k).isSome_eq,← l]
   exact h _ (I.tok _)
 · subst ey
   cases (show u=Value.ref b from ry)
   obtain ⟨z,hd,xs,rel,dd⟩:=dt_rd I.hok e
   refine wpAny_in_heap (tupleKind_room_in1 hu) (key_of I.hok eb) hd dd ?_
   have q:=(rel.val k).isSome_eq
   rw [Option.isSome_map]at q
   rw [← q,← l]
   exact h _ (I.tok _)
theorem d_notIn{Q:Value→Shared→Prop}(hu:A.units+1 < cLine)(I:Inv X pins σ H s)(g:DGet H a y o)(ry:RelV y u)(h:∀s',Inv X pins σ H s'→Q (.bool (!o.isSome)) s'):
 wpAny (model X.prog X.w) A (compareOp .NotIn u (.ref a)) Q E s:=by
 rcases g with ⟨kvs,k,e,ey,l⟩ | ⟨kvs,k,b,e,ey,eb,l⟩
 · subst ey
   obtain ⟨z,hd,vs,rel,dd⟩:=dk_rd I.hok e
   refine wpAny_notIn_of (kV_is ry) hd dd.mapOf ?_
   rw [← (rel.val k).isSome_eq,← l]
   exact h _ (I.tok _)
 · subst ey
   cases (show u=Value.ref b from ry)
   obtain ⟨z,hd,xs,rel,dd⟩:=dt_rd I.hok e
   refine wpAny_notIn_heap (tupleKind_room_in1 hu) (key_of I.hok eb) hd dd ?_
   have q:=(rel.val k).isSome_eq
   rw [Option.isSome_map]at q
   rw [← q,← l]
   exact h _ (I.tok _)
theorem d_write{h':Heap}{t':Nat}{ob:HO}(I:Inv X pins σ H s)(mu:Mut (H a))(hs:Heap.SameBut a s.heap h')(he:∃q,h'.get? a=some q)(new:ObjOk X.prog X.w (upd H a ob) h' a ob):
 Inv X pins σ (upd H a ob) {s with heap:=h',toks:=t'}:=
 I.write (x:=a) (e:=a) mu (.inl rfl) (fun b q hb z=>(hs.2 b hb).trans z) he new
theorem dk_new{P:Program}{w:World}{H':Hp}{h':Heap}{kvs:List (Key×V)}{vs:List (Key×Value)}(z:kvs.length≤sizeLine)(hd:(a==sysModules)=false)(rel:KV kvs vs)(dd:h'.DictOf (mixKind P w) a vs):
 ObjOk P w H' h' a (.dK kvs):=⟨z,hd,vs,rel,dd⟩
theorem d_setItem{H':Hp}{Q:Unit→Shared→Prop}(hu:A.units+1 < cLine)(I:Inv X pins σ H s)(g:DPut H a y v H')(ry:RelV y u)(rv:RelV v r)(h:∀s',Inv X pins σ H' s'→Q () s'):
 wpAny (model X.prog X.w) A (setItem (.ref a) u r) Q E s:=by
 rcases g with ⟨kvs,k,e,ey,l,eH⟩ | ⟨kvs,k,b,e,ey,eb,l,eH⟩
 · subst ey eH
   obtain ⟨z,hd,vs,rel,dd⟩:=dk_of I.hok e
   have hz:vs.length≤sizeLine:=by rw [← rel.length];exact z
   have hl:(putK kvs k v).length≤sizeLine:=by have:=length_putK kvs k v;omega
   refine wpAny_setItem_pairs (hsz:=hz) (kV_is ry) dd fun h' dd' hs=>h _ ?_
   have he:∃q,h'.get? a=some q:=let ⟨q,_,_,hq,_⟩:=dd';⟨q,hq⟩
   exact d_write I (by rw [e];exact True.intro) hs he (dk_new hl hd (rel.put k rv) dd')
 · subst ey eH
   cases (show u=Value.ref b from ry)
   obtain ⟨z,hd,xs,rel,dd⟩:=dt_of I.hok e
   have hz:xs.length≤sizeLine:=by rw [← Paired.length rel];exact z
   have hl:(putK kvs k v).length≤sizeLine:=by have:=length_putK kvs k v;omega
   refine wpAny_setItem_heap (hsz:=hz) (tupleKind_room_in1 hu) (key_of I.hok eb) dd fun h' dd' hs=>h _ ?_
   obtain ⟨q,es,ep,hq,h2,h3,h4,_,h5⟩:=dd'
   refine d_write I (by rw [e];exact True.intro) hs ⟨q,hq⟩ ⟨hl,hd,_,(rel.put k eb rv).keeps fun c ys ec=>?_,q,es,ep,hq,h2,h3,h4,h5⟩
   rw [upd_ne (ne_of ec e (fun z=>nomatch z))]
   exact ec
end
section
variable {X:Cx} {pins:List (Addr×Obj)} {σ:St} {H:Hp} {s:Shared} {a:Addr} {kvs:List (Key×V)} {k:Key} {u:Value} {A:Around} {E:Value→Shared→Prop}
theorem d_len{Q:Value→Shared→Prop}(I:Inv X pins σ H s)(e:Rd H a (.dK kvs))(h:∀t s',Inv X pins σ H s'→Q (.int kvs.length t) s'):wpAny (model X.prog X.w) A (call (.builtin "len") [.ref a]) Q E s:=by
 obtain ⟨z,hd,vs,rel,dd⟩:=dk_rd I.hok e
 refine call_len_dict hd dd (by rw [← rel.length];rw [sizeLine_eq]at z;omega) ?_
 rw [← rel.length]
 exact h _ _ (I.tok _)
end
noncomputable def NoSl(i:Expr):Prop:=∀ov iv,subscripted i false ov iv=operate [ov,iv] (getItem ov iv)
theorem subD_of{prog:Program}{w:World}{A:Around}{E:Value→Shared→Prop}{s:Shared}{env:Env}{value slice:Expr}{pos:Pos}{T id:String}{Q:Value→Shared→Prop}
 (hl:typeLookup (.type T) "__getitem__"=pure (some (.builtin id))) (hs:NoSl slice)
 (h:wpAny (model prog w) A (eval value env) (fun o s₁=>wpAny (model prog w) A (eval slice env) (fun i s₂=>s₂.TypeIs o T∧wpAny (model prog w) A (getItem o i) Q E s₂) E s₁) E s):
 wpAny (model prog w) A (eval (.Subscript value slice pos) env) Q E s:=by
 refine Subscript_ (wpAny_mono h (fun o s₁ h₁=>wpAny_mono h₁ (fun i s₂ h₂=>?_) fun _ _ x=>x) fun _ _ x=>x)
 obtain ⟨hT,h₂⟩:=h₂
 unfold subscriptTail
 refine wpAny_bind ?_
 rw [getitemInPython_of_ne hT.not_modules]
 refine wpAny_bind (wpAny_specialOf hT hl ?_)
 have fin:wpAny (model prog w) A (subscripted slice false o i) (fun r s₃=>wpAny (model prog w) A (letTemporaryGo value o r >>=fun _=>pure r) Q E s₃) E s₂:=by
  rw [hs o i]
  exact wpAny_operating (wpAny_mono h₂ (fun r s₃ h₃=>wpAny_bind (wpAny_letTemporaryGo (wpAny_pure h₃))) fun _ _ x=>x)
 first
  | exact wpAny_pure (wpAny_bind fin)
  | exact wpAny_bind (wpAny_pure (wpAny_bind fin))
  | exact wpAny_bind fin
theorem dict_typeIs{X:Cx}{pins:List (Addr×Obj)}{σ:St}{H:Hp}{s:Shared}{a:Addr}{y:V}{o:Option V}(I:Inv X pins σ H s)(g:DGet H a y o):s.TypeIs (.ref a) "dict":=by
 rcases g with ⟨kvs,k,e,_,_⟩ | ⟨kvs,k,b,e,_,_,_⟩
 · obtain ⟨_,_,vs,_,dd⟩:=dk_rd I.hok e
   exact dd.typeIs
 · obtain ⟨_,_,xs,_,dd⟩:=dt_rd I.hok e
   exact dd.typeIs
noncomputable def tDGet(td ty:TE):TE:=fun σ H Q=>td σ H fun x H1=>ty σ H1 fun y H2=>∃a v,x= .ref a∧DGet H2 a y (some v)∧Q v H2
noncomputable def tDIn(ty td:TE):TE:=fun σ H Q=>ty σ H fun y H1=>td σ H1 fun x H2=>∃a o,x= .ref a∧DGet H2 a y o∧Q (.bl o.isSome) H2
noncomputable def tDNotIn(ty td:TE):TE:=fun σ H Q=>ty σ H fun y H1=>td σ H1 fun x H2=>∃a o,x= .ref a∧DGet H2 a y o∧Q (.bl (!o.isSome)) H2
noncomputable def sDPut(td ty tv:TE):TS:=fun D σ H=>tv σ H fun v H1=>td σ H1 fun x H2=>ty σ H2 fun y H3=>∃a H4,x= .ref a∧DPut H3 a y v H4∧D.nx σ H4
section
variable {X:Cx} {o i e value:Expr} {pos pos' tpos:Pos} {td ty tv:TE}
theorem pe_dget(hu:X.A.units+1 < cLine)(ho:PE X o td)(hi:PE X i ty)(hs:NoSl i):PE X (.Subscript o i pos) (tDGet td ty):=by
 intro pins s σ H Q I h
 refine subD_of PySem.F.slot_dict_getitem.lookup hs (thn (ho pins s σ H _ I h) fun u s1 ⟨x,H1,I1,rx,q1⟩=>thn (hi pins s1 σ H1 _ I1 q1) fun iv s2 hq_=>?_)
 obtain ⟨y,H2,I2,ry,a,v,ex,g,q2⟩:=hq_
 subst ex
 obtain rfl:u=Value.ref a:=rx
 exact ⟨dict_typeIs I2 g,d_getItem hu I2 g ry fun w' s3 I3 rw'=>⟨v,H2,I3,rw',q2⟩⟩
theorem pc_din(hu:X.A.units+1 < cLine)(hi:PE X i ty)(ho:PE X o td):PC X .In i o (tDIn ty td):=by
 intro pins s σ H Q I h
 refine thn (hi pins s σ H _ I h) fun iv s1 ⟨y,H1,I1,ry,q1⟩=>thn (ho pins s1 σ H1 _ I1 q1) fun u s2 hq_=>?_
 obtain ⟨x,H2,I2,rx,a,ov,ex,g,q2⟩:=hq_
 subst ex
 obtain rfl:u=Value.ref a:=rx
 exact d_in hu I2 g ry fun s3 I3=>⟨.bl ov.isSome,H2,I3,rfl,q2⟩
theorem pc_dnotin(hu:X.A.units+1 < cLine)(hi:PE X i ty)(ho:PE X o td):PC X .NotIn i o (tDNotIn ty td):=by
 intro pins s σ H Q I h
 refine thn (hi pins s σ H _ I h) fun iv s1 ⟨y,H1,I1,ry,q1⟩=>thn (ho pins s1 σ H1 _ I1 q1) fun u s2 hq_=>?_
 obtain ⟨x,H2,I2,rx,a,ov,ex,g,q2⟩:=hq_
 subst ex
 obtain rfl:u=Value.ref a:=rx
 exact d_notIn hu I2 g ry fun s3 I3=>⟨.bl (!ov.isSome),H2,I3,rfl,q2⟩
theorem ps_dput(hu:X.A.units+1 < cLine)(ho:PE X o td)(hi:PE X i ty)(hv:PE X value tv)(hs:swapsWith value (some (.Subscript o i pos')) pos.line X.env=pure false):
 PS X (.Assign [.Subscript o i pos'] value pos) (sDPut td ty tv):=by
 intro pins s σ H D I h
 refine wpAny_Assign_Subscript (thn (hv pins s σ H _ I h) fun r s1 ⟨v,H1,I1,rv,q1⟩=>thn (ho pins s1 σ H1 _ I1 q1) fun u s2 ⟨x,H2,I2,rx,q2⟩=>thn (hi pins s2 σ H2 _ I2 q2) fun iv s3 hq_=>?_) hs
 obtain ⟨y,H3,I3,ry,a,H4,ex,g,q3⟩:=hq_
 subst ex
 obtain rfl:u=Value.ref a:=rx
 exact d_setItem hu I3 g ry rv fun s4 I4=>⟨σ,H4,I4,q3⟩
end
theorem dk_empty{P:Program}{w:World}{H:Hp}(h:Heap)(hb:sysModules < h.objs.size):ObjOk P w H (h.push {cls:= .type "dict",data:= .dict #[]}) h.objs.size (.dK []):=
 ⟨Nat.zero_le _,beq_eq_false_iff_ne.mpr (Ne.symm (Nat.ne_of_lt hb)),[],.nil,Heap.DictOf.new h⟩
noncomputable def tDNewK:TE:=fun _ H Q=>∀p,H p=none→Q (.ref p) (upd H p (.dK []))
section
variable {X:Cx} {pos:Pos}
theorem pe_dnewK:PE X (.Dict [] [] pos) tDNewK:=fun pins s σ H Q I h=>
 wpAny_Dict_empty ⟨.ref s.heap.objs.size,_,I.laid (a:=s.heap.objs.size) (o:= .dK []) (t':=s.toks) (fun _ _ q=>Heap.get?_push_of_some _ q) (Nat.le_refl _) (dk_empty s.heap I.big),rfl,h _ (I.hok.fresh (Nat.le_refl _))⟩
end
noncomputable def tPairs:List (TE×TE)→St→Hp→(List (V×V)→Hp→Prop)→Prop
 | [],_,H,Q=>Q [] H
 | (tk,tv)::r,σ,H,Q=>tk σ H fun x H1=>tv σ H1 fun y H2=>tPairs r σ H2 fun ps H3=>Q ((x,y)::ps) H3
noncomputable def mergeK(kvs more:List (Key×V)):List (Key×V):=more.foldl (fun acc kv=>putK acc kv.1 kv.2) kvs
noncomputable def tDisp(trs:List (TE×TE)):TE:=fun σ H Q=>∀p,H p=none→tPairs trs σ (upd H p (.dK [])) fun ps H2=>H2 p=some (.dK [])∧∃kvs:List (Key×V),ps=kvs.map (fun kv=>(kV kv.1,kv.2))∧kvs.length≤15∧Q (.ref p) (upd H2 p (.dK (mergeK [] kvs)))
noncomputable def IsD(H:Hp)(a:Addr):Prop:=(∃kvs,Rd H a (.dK kvs))∨∃kvs,Rd H a (.dT kvs)
noncomputable def tDGet1(td ty:TE):TE:=fun σ H Q=>td σ H fun x H1=>∃a,x= .ref a∧IsD H1 a∧ty σ H1 fun y H2=>∃o,DGet H2 a y o∧Q (o.getD .non) H2
end L2
namespace L2
section
variable {X:Cx}
theorem call_lenD:CallR X (.builtin "len") (fun xs H Q=>∃a kvs,xs=[V.ref a]∧H a=some (.dK kvs)∧Q (.int kvs.length) H):=by
 intro pins s σ H xs us Q I r h
 obtain ⟨a,kvs,rfl,ha,q⟩:=h
 obtain ⟨u,rfl,ru⟩:=vals1 r
 cases ru
 exact d_len I (.inl ha) fun t s' I'=>⟨.int kvs.length,H,I',⟨t,rfl⟩,q⟩
end
section
variable {κ:Type} [DecidableEq κ]
theorem valV_not{kvs:List (κ×V)}{k:κ}(h:valV kvs k=none):¬k∈kvs.map (·.1):=by
 intro m
 obtain ⟨p,hp,e⟩:=List.mem_map.mp m
 have q:(kvs.any fun kv=>decide (kv.1=k))=true:=List.any_eq_true.mpr ⟨p,hp,decide_eq_true e⟩
 rw [valV_any,h]at q
 exact absurd q (by simp)
theorem valV_in{kvs:List (κ×V)}{k:κ}{v:V}(h:valV kvs k=some v):k∈kvs.map (·.1):=by
 have q:(kvs.any fun kv=>decide (kv.1=k))=true:=by
  rw [valV_any,h]
  all_goals rfl
 obtain ⟨p,hp,e⟩:=List.any_eq_true.mp q
 exact List.mem_map.mpr ⟨p,hp,of_decide_eq_true e⟩
end
end L2
namespace L2
structure Def(P:Program)(w:World)(K:PySem.W.Frag)(mg:Str→Option Value)(base:Heap)(CX:CXT)(k:Nat)(x:Str)(ps:List Str)(sp:Sp):Prop where
 ex:∃(f:Addr) (fd:FuncData),FnOk P w K mg base CX k f fd ps sp∧mg x=some (.ref f)∧PySem.W.keepIn K (.ref f)=true∧Binds K fd ps []
noncomputable def tCallD(sp:Sp)(E:XK)(t:TA):TE:=fun σ H Q=>t σ H fun vs H1=>sp vs H1 Q E
section
variable {X:Cx} {CX:CXT} {k j:Nat} {ps:List Str} {sp:Sp} {E:XK} {x:Str} {p pos:Pos} {e:Expr} {es:List Expr} {t:TA}
theorem pe_callD(D:Def X.prog X.w X.K X.mg X.base CX j x ps sp)(hr:Room k X.A)(hg:Gl X x)(hx:Passes CX X E)(ha:PA X (e::es) t)(hj:j≤k:=by decide)
 (hdb:(x==("__debug__":Str))=false:=by decide) (he:starEach (e::es) X.env=(false,eval e X.env)::starEach es X.env:=by rfl) (hpl:(backTo pos (starEach es X.env)).any (·.1)=false:=by rfl):
 PE X (.Call (.Name x p) (e::es) [] pos) (tCallD sp E t):=by
 obtain ⟨f,fd,F,hm,hk,hb⟩:=D.ex
 intro pins s σ H Q I h
 refine pe_call (F.mono hj) hr hg hm hk hb .nil hx ha hdb he hpl pins s σ H Q I ?_
 show t σ H fun vs H1=>sp (vs++[]) H1 Q E
 have z:(fun (vs:List V) (H1:Hp)=>sp (vs++[]) H1 Q E)=fun vs H1=>sp vs H1 Q E:=by funext vs H1;rw [List.append_nil]
 rw [z]
 exact h
end
noncomputable def CBig(i j:Int):Prop:=i.natAbs < 10 ^ 100∧j.natAbs < 10 ^ 100
theorem big_pow:(10:Nat) ^ 100≤2 ^ 1000:=by decide+kernel
theorem bits_of{i:Int}(h:i.natAbs < 10 ^ 100):Builtin.Int.intBits i≤2 ^ 20:=by
 have h1:Builtin.Int.intBits i≤1000:=by
  unfold Builtin.Int.intBits
  split
  · omega
  · rename_i hne
    have:=(Nat.log2_lt (n:=i.natAbs) (k:=1000) (by simpa using hne)).mpr (Nat.lt_of_lt_of_le h big_pow)
    omega
 exact Nat.le_trans h1 (by decide)
section
variable {X:Cx}
theorem op_mulB:OpR X (binaryOp .Mult) (rI CBig fun i j=> .int (i * j)):=opI fun _ _ _ _ _ _ _ hc q=>mul_int q (.of_bits (bits_of hc.1) (bits_of hc.2))
end
noncomputable def Isi(K:PySem.W.Frag)(H:Hp)(x:V)(n:String)(b:Bool):Prop:=∃t,TyOf K H x t∧PySem.W.kitOne K t (.type n)=some b
section
variable {X:Cx}
theorem call_isinst:CallR X (.builtin "isinstance") (fun xs H Q=>∃x n b,xs=[x,.ty n]∧Isi X.K H x n b∧Q (.bl b) H):=by
 intro pins s σ H xs us Q I r h
 obtain ⟨x,n,b,rfl,⟨t,ty,e⟩,q⟩:=h
 obtain ⟨u,c,rfl,r1,r2⟩:=vals2 r
 cases r2
 exact isinst_ok I r1 ty e fun tk=>⟨.bl b,H,I.tok _,rfl,q⟩
end
section
variable {K:PySem.W.Frag} {H:Hp}
theorem isi_ii{i:Int}:Isi K H (.int i) "int" true:=⟨_,.int i,rfl⟩
theorem isi_ib{i:Int}:Isi K H (.int i) "bool" false:=⟨_,.int i,by with_unfolding_all rfl⟩
theorem isi_is{i:Int}:Isi K H (.int i) "str" false:=⟨_,.int i,by with_unfolding_all rfl⟩
theorem isi_bb{i:Bool}:Isi K H (.bl i) "bool" true:=⟨_,.bl i,rfl⟩
theorem isi_bi{i:Bool}:Isi K H (.bl i) "int" true:=⟨_,.bl i,by with_unfolding_all rfl⟩
theorem isi_bs{i:Bool}:Isi K H (.bl i) "str" false:=⟨_,.bl i,by with_unfolding_all rfl⟩
theorem isi_ss{i:Str}:Isi K H (.str i) "str" true:=⟨_,.str i,rfl⟩
theorem isi_si{i:Str}:Isi K H (.str i) "int" false:=⟨_,.str i,by with_unfolding_all rfl⟩
theorem isi_sb{i:Str}:Isi K H (.str i) "bool" false:=⟨_,.str i,by with_unfolding_all rfl⟩
theorem isi_ni:Isi K H .non "int" false:=⟨_,.non,by with_unfolding_all rfl⟩
theorem isi_ns:Isi K H .non "str" false:=⟨_,.non,by with_unfolding_all rfl⟩
theorem isi_lstl{a:Addr}{xs:List V}(e:H a=some (.lst xs)):Isi K H (.ref a) "list" true:=⟨_,.lst e,rfl⟩
theorem isi_lsts{a:Addr}{xs:List V}(e:H a=some (.lst xs)):Isi K H (.ref a) "str" false:=⟨_,.lst e,by with_unfolding_all rfl⟩
theorem isi_lsti{a:Addr}{xs:List V}(e:H a=some (.lst xs)):Isi K H (.ref a) "int" false:=⟨_,.lst e,by with_unfolding_all rfl⟩
theorem isi_lstt{a:Addr}{xs:List V}(e:H a=some (.lst xs)):Isi K H (.ref a) "tuple" false:=⟨_,.lst e,by with_unfolding_all rfl⟩
theorem isi_tupt{a:Addr}{xs:List V}(e:H a=some (.tup xs)):Isi K H (.ref a) "tuple" true:=⟨_,.tup e,rfl⟩
theorem isi_tups{a:Addr}{xs:List V}(e:H a=some (.tup xs)):Isi K H (.ref a) "str" false:=⟨_,.tup e,by with_unfolding_all rfl⟩
theorem isi_tupi{a:Addr}{xs:List V}(e:H a=some (.tup xs)):Isi K H (.ref a) "int" false:=⟨_,.tup e,by with_unfolding_all rfl⟩
theorem isi_tupl{a:Addr}{xs:List V}(e:H a=some (.tup xs)):Isi K H (.ref a) "list" false:=⟨_,.tup e,by with_unfolding_all rfl⟩
theorem isi_go{x:V}{n:String}{b:Bool}{R:Bool→Prop}(h:Isi K H x n b)(q:R b):∃b,Isi K H x n b∧R b:=⟨b,h,q⟩
theorem len_goL{p:Addr}{xs:List V}{R:List V→Prop}(h:SqL K H p xs)(q:R xs):∃ys,(SqL K H p ys∨SqT K H p ys)∧R ys:=⟨xs,.inl h,q⟩
theorem len_goT{p:Addr}{xs:List V}{R:List V→Prop}(h:SqT K H p xs)(q:R xs):∃ys,(SqL K H p ys∨SqT K H p ys)∧R ys:=⟨xs,.inr h,q⟩
theorem ixT_of{p:Addr}{xs:List V}{i:Int}{v:V}{Q:VK}(h:SqT K H p xs)(e:atI xs i=some v)(q:Q v H):rIxT K (.ref p) (.int i) H Q:=⟨p,xs,i,v,rfl,rfl,h,e,q⟩
theorem ixL_of{p:Addr}{xs:List V}{i:Int}{v:V}{Q:VK}(h:SqL K H p xs)(e:atI xs i=some v)(q:Q v H):rIxL K (.ref p) (.int i) H Q:=⟨p,xs,i,v,rfl,rfl,h,e,q⟩
end
theorem atI_of{α:Type}{xs:List α}{i:Int}{v:α}(h0:0≤i)(h:xs[i.toNat]?=some v):atI xs i=some v:=by
 unfold atI ixN
 have hl:i.toNat < xs.length:=(List.getElem?_eq_some_iff.mp h).1
 rw [if_pos h0,if_pos (show i < xs.length by omega)]
 exact h
theorem cxOf_K{CX:CXT}{P:Program}{w:World}{K:PySem.W.Frag}{mg:Str→Option Value}{base:Heap}{N:List Str}{qual:Str}{scope:Scope}{f:Addr}{cd:Value}{A:Around}{outer:List Env}{s:Shared}{H:Hp}{E:XK}:
 (cxOf CX P w K mg base N qual scope f cd A outer s H E).K=K:=rfl
theorem getMap{ns:List Int}{k:Nat}(h:k < ns.length):(ns.map V.int)[k]?=some (V.int (ns.getD k 0)):=by
 rw [List.getElem?_map,List.getD_eq_getElem?_getD,List.getElem?_eq_getElem h];rfl
theorem Same.tup{K:PySem.W.Frag}{H H':Hp}{a:Addr}{xs:List V}(e:Same H H')(h:SqT K H a xs):SqT K H' a xs:=by
 rcases h with (h | ⟨o,h⟩) | h
 · exact .inl (.inl (e _ _ h))
 · exact .inl (.inr ⟨o,e _ _ h⟩)
 · exact .inr h
theorem Same.new{H:Hp}{p:Addr}{o:HO}(h:H p=none):Same H (upd H p o):=fun b u e=>by
 rw [upd_ne (ne_of_none e h)];exact e
section
variable {σ:St} {H:Hp} {Q:VK} {QT:Bool→Hp→Prop} {QA:List V→Hp→Prop} {D:Ends} {K:PySem.W.Frag}
theorem rd_asg{te:TE}{g:TG}:tAsg te g D σ H=te σ H fun x H1=>g x σ H1 D.nx:=rfl
theorem rd_var{i:Nat}:tVar i σ H Q=∃v,σ[i]?=some (some v)∧Q v H:=rfl
theorem rd_c{v:V}:tC v σ H Q=Q v H:=rfl
theorem rd_op{r:R2}{ta tb:TE}:tOp r ta tb σ H Q=ta σ H fun x H1=>tb σ H1 fun y H2=>r x y H2 Q:=rfl
theorem rd_I0{g:Int→Int→V}{x y:V}:rI0 g x y H Q=∃i j,x= .int i∧y= .int j∧Q (g i j) H:=rfl
theorem rd_I{C:Int→Int→Prop}{g:Int→Int→V}{x y:V}:rI C g x y H Q=∃i j,x= .int i∧y= .int j∧C i j∧Q (g i j) H:=rfl
theorem rd_U{g:Int→V}{x:V}:rU g x H Q=∃i,x= .int i∧Q (g i) H:=rfl
theorem rd_name{i:Nat}{v:V}{N:St→Hp→Prop}:gName i v σ H N=N (σ.set i (some v)) H:=rfl
theorem rd_ifS{c:TT}{t u:TS}:tIfS c t u D σ H=c σ H fun b H1=>if b=true then t D σ H1 else u D σ H1:=rfl
theorem rd_test{t:TE}:tTest t σ H QT=t σ H fun x H'=>∃k,x= .bl k∧QT k H':=rfl
theorem rd_b{t:TE}:tB t σ H QT=t σ H fun x H1=>∃c,x= .bl c∧QT c H1:=rfl
theorem rd_ret{te:TE}:tRet te D σ H=te σ H D.rt:=rfl
theorem rd_retN:tRetN D σ H=D.rt .non H:=rfl
theorem rd_next:tNext D σ H=D.nx σ H:=rfl
theorem rd_break:tBreak D σ H=D.bk σ H:=rfl
theorem rd_cont:tCont D σ H=D.ct σ H:=rfl
theorem rd_cb{r:List V→Hp→VK→Prop}{t:TA}:tCB r t σ H Q=t σ H fun vs H1=>r vs H1 Q:=rfl
theorem rd_cons{ta:TE}{tr:TA}:tCons ta tr σ H QA=ta σ H fun x H1=>tr σ H1 fun xs H2=>QA (x::xs) H2:=rfl
theorem rd_nil:tNil σ H QA=QA [] H:=rfl
theorem rd_call{sp:Sp}{E:XK}{t:TA}:tCallD sp E t σ H Q=t σ H fun vs H1=>sp vs H1 Q E:=rfl
theorem rd_not{t:TT}:tNot t σ H QT=t σ H fun c H1=>QT (!c) H1:=rfl
theorem rd_or{t u:TT}:tOr t u σ H QT=t σ H fun c H1=>if c=true then QT true H1 else u σ H1 QT:=rfl
theorem rd_and{t u:TT}:tAnd t u σ H QT=t σ H fun c H1=>if c=true then u σ H1 QT else QT false H1:=rfl
theorem rd_andV{ta tb:TE}:tAndV ta tb σ H Q=ta σ H fun x H1=>∃c,x= .bl c∧if c=true then tb σ H1 Q else Q (.bl false) H1:=rfl
theorem rd_orV{ta tb:TE}:tOrV ta tb σ H Q=ta σ H fun x H1=>∃c,x= .bl c∧if c=true then Q (.bl true) H1 else tb σ H1 Q:=rfl
theorem rd_notV{ta:TE}:tNotV ta σ H Q=ta σ H fun x H1=>∃c,x= .bl c∧Q (.bl (!c)) H1:=rfl
theorem rd_if{t:TT}{ta tb:TE}:tIf t ta tb σ H Q=t σ H fun c H1=>if c=true then ta σ H1 Q else tb σ H1 Q:=rfl
theorem rd_un{r:V→Hp→VK→Prop}{ta:TE}:tUn r ta σ H Q=ta σ H fun x H1=>r x H1 Q:=rfl
theorem rd_eq{x y:V}:rEq x y H Q=(scal x y=true∧Q (.bl (decide (x=y))) H):=rfl
theorem rd_ne{x y:V}:rNe x y H Q=(scal x y=true∧Q (.bl (!decide (x=y))) H):=rfl
theorem rd_par{i j:Nat}{ta:TA}:tPar i j ta D σ H=ta σ H fun vs H1=>∃v w,vs=[v,w]∧D.nx ((σ.set i (some v)).set j (some w)) H1:=rfl
theorem rd_tup{t:TA}:tTup t σ H Q=t σ H fun xs H1=>xs.length≤sizeLine∧∀p,H1 p=none→Q (.ref p) (upd H1 p (.tup xs)):=rfl
theorem rd_lst{t:TA}:tLst t σ H Q=t σ H fun xs H1=>xs.length≤sizeLine∧∀p,H1 p=none→Q (.ref p) (upd H1 p (.lst xs)):=rfl
theorem rd_never:tNever D σ H=False:=rfl
theorem rd_drop{te:TE}:tDrop te D σ H=te σ H fun _ H1=>D.nx σ H1:=rfl
theorem rd_gcons{t:TG}{u:TGs}{vs:List V}{N:St→Hp→Prop}:gCons t u vs σ H N=∃v r,vs=v::r∧t v σ H fun σ' H'=>u r σ' H' N:=rfl
theorem rd_gnil{vs:List V}{N:St→Hp→Prop}:gNil vs σ H N=(vs=[]∧N σ H):=rfl
theorem rd_gsub{to ti:TE}{t:TSet}{v:V}{N:St→Hp→Prop}:gSub to ti t v σ H N=to σ H fun o H1=>ti σ H1 fun i H2=>t o i v H2 fun H3=>N σ H3:=rfl
theorem rd_chain{r r':R2}{ta tb tc:TE}:tChain r r' ta tb tc σ H Q=ta σ H fun x H1=>tb σ H1 fun y H2=>r x y H2 fun z H3=>∃k,z= .bl k∧
 (if k=true then tc σ H3 fun w' H4=>r' y w' H4 Q else Q (.bl false) H3):=rfl
theorem rd_rng1{ta:TA}{R:It→Hp→Prop}:iRng1 ta σ H R=ta σ H fun vs H1=>∃j:Int,vs=[.int j]∧-(2 ^ 62)≤j∧j < 2 ^ 62∧R (Itr 0 j.toNat) H1:=rfl
theorem rd_rng2{ta:TA}{R:It→Hp→Prop}:iRng2 ta σ H R=ta σ H fun vs H1=>∃i j:Int,vs=[.int i,.int j]∧(-(2 ^ 62)≤i∧i < 2 ^ 62∧-(2 ^ 62)≤j∧j < 2 ^ 62)∧R (Itr i (j - i).toNat) H1:=rfl
theorem rd_ilist{tl:TE}{R:It→Hp→Prop}:iList K tl σ H R=tl σ H fun x H1=>∃a,x= .ref a∧(∃xs,SqL K H1 a xs)∧R (Itl K a) H1:=rfl
theorem rd_itup{tl:TE}{R:It→Hp→Prop}:iTup K tl σ H R=tl σ H fun x H1=>∃a,x= .ref a∧(∃xs,SqT K H1 a xs)∧R (Itt K a) H1:=rfl
noncomputable def ForTail(g:TG)(tb:TS)(D:Ends)(σ:St):It→Hp→Prop:=fun J H1=>∃W:Nat→Nat→St→Hp→Prop,(∃m,W 0 m σ H1)∧∀i m σ H,W i m σ H→
 (J.stop i H∧D.nx σ H)∨(J.go i H∧∃N:St→Hp→Prop,(∀σ' H',N σ' H'→∃m',m' < m∧W (i+1) m' σ' H')∧∀x H',J.yld i H x H'→g x σ H' fun σ2 H2=>tb {D with nx:=N,ct:=N,bk:=D.nx} σ2 H2)
theorem rd_for'{wi:TI}{g:TG}{tb:TS}:tFor wi g tb D σ H=wi σ H (ForTail g tb D σ):=rfl
theorem forR_by{lo:Int}{n:Nat}{g:TG}{tb:TS}(Pv:Nat→St→Hp→Prop)(h0:Pv 0 σ H)
 (hs:∀i σ H,i < n→Pv i σ H→g (.int (lo+i)) σ H fun σ2 H2=>tb {D with nx:=Pv (i+1),ct:=Pv (i+1),bk:=D.nx} σ2 H2) (hd:∀σ H,Pv n σ H→D.nx σ H):ForTail g tb D σ (Itr lo n) H:=for_range Pv h0 hs hd
theorem forL_by{a:Addr}{xs:List V}{g:TG}{tb:TS}(Pv:Nat→St→Hp→Prop)(h0:Pv 0 σ H)(hl:∀i σ H,i≤xs.length→Pv i σ H→SqL K H a xs)
 (hs:∀i x σ H,xs[i]?=some x→Pv i σ H→g x σ H fun σ2 H2=>tb {D with nx:=Pv (i+1),ct:=Pv (i+1),bk:=D.nx} σ2 H2) (hd:∀σ H,Pv xs.length σ H→D.nx σ H):ForTail g tb D σ (Itl K a) H:=for_list Pv h0 hl hs hd
theorem seq_go{t u:TS}(h:∀rest:St→Hp→Prop,rest=u D→t {D with nx:=rest} σ H):tSeq t u D σ H:=h _ rfl
theorem leaf_go{rest r:St→Hp→Prop}(h:rest=r)(q:r σ H):rest σ H:=by rw [h];exact q
theorem cell_go{a:Addr}{ns:List Int}{k:Int}{R:List Int→Prop}(h:SqL K H a (ns.map V.int))(h0:0≤k)(hl:ns.length≤63)(q:R ns):∃x:List Int,SqL K H a (x.map V.int)∧0≤k∧x.length≤63∧R x:=⟨ns,h,h0,hl,q⟩
theorem cdiv_of{i j:Int}(h1:0 < j)(h2:j < 1073741824):CDiv i j:=⟨h1,h2⟩
theorem cpow_of{i j:Int}(h1:0≤j)(h2:j≤1000000)(h3:i.natAbs < 2 ^ 64):CPow i j:=⟨h1,h2,h3⟩
theorem cmul_l{i j:Int}(h1:-(2 ^ 64) < i)(h2:i < 2 ^ 64):CMul i j:= .inl ⟨h1,h2⟩
theorem cmul_r{i j:Int}(h1:-(2 ^ 64) < j)(h2:j < 2 ^ 64):CMul i j:= .inr ⟨h1,h2⟩
end
end L2
namespace L2
noncomputable def PassesS(CX:CXT)(X:Cx)(EE:St→XK):Prop:=∀(pins:List (Addr×Obj)) (σ:St) (H:Hp) (s:Shared) (e:Value) (s':Shared),Inv X pins σ H s→CX X.stack H s (EE σ) e s'→X.xe e s'
noncomputable abbrev TH:=Value→Addr→TS
end L2
namespace L2
theorem compLoop_any{prog:Program}{w:World}{A:Around}{R:Result→Shared→Prop}{s:Shared}{elt target iter:Expr}{ifs:List Expr}{scope:Scope}{pos:Pos}{it acc:Value}{env:Env}(I:Nat→Shared→Prop)
 (turn:∀n s,I n s→wpAny (model prog w) A (pyNext it) (fun r s₁=>match r with
  | none=>R (.ok .next) s₁
  | some v=>wpAny (model prog w) A (letOwnedTupleGo target it v) (fun _ s₁=>wpAny (model prog w) A (assign target env v) (fun _ s₂=>
   wpAny (model prog w) A (forIn ifs true fun c r=>if r=true then do let ok ← isTrue c env (eval c env);pure (ForInStep.yield ok) else pure (ForInStep.yield r)) (fun ok s₃=>
    if ok=true then wpAny (model prog w) A (eval elt env) (fun x s₄=>
     wpAny (model prog w) A (call (.builtin "list.append") [acc,x]) (fun _ s₅=>∃m,m < n∧I m s₅) (notedBy (model prog w) A env fun e s'=>R (.error e) s') s₄) (notedBy (model prog w) A env fun e s'=>R (.error e) s') s₃
    else ∃m,m < n∧I m s₃) (notedBy (model prog w) A env fun e s'=>R (.error e) s') s₂) (notedBy (model prog w) A env fun e s'=>R (.error e) s') s₁) (notedBy (model prog w) A env fun e s'=>R (.error e) s') s₁) (notedBy (model prog w) A env fun e s'=>R (.error e) s') s)
 (n:Nat) (h:I n s):
 codeAny (model prog w) A (.compLoop (.ListComp elt [⟨target,iter,ifs,0⟩] scope pos) 0 it acc env) R s:=by
 refine codeAny_loop rfl I (fun n s hI=>?_) n h
 show wpAny _ A ((compTurn (.ListComp elt [⟨target,iter,ifs,0⟩] scope pos) 0 it acc env).onRaise (fun x=>do noteFrame x env;theTreesLotGoes x)) _ _ s
 refine wpAny_noted ?_
 rw [compTurn_list]
 refine wpAny_bind (wpAny_standAt (wpAny_bind (wpAny_mono (turn n s hI) (fun r s₁ h₁=>?_) fun _ _ h'=>h')))
 cases r with
 | none=>exact wpAny_pure h₁
 | some v=>
  refine wpAny_bind (wpAny_mono h₁ (fun _ s₁ h₁=>?_) fun _ _ h'=>h')
  refine wpAny_bind (wpAny_mono h₁ (fun _ s₂ h₂=>wpAny_bind (wpAny_mono h₂ (fun ok s₃ h₃=>?_) fun _ _ h'=>h')) fun _ _ h'=>h')
  cases ok with
  | false=>exact wpAny_pure ⟨rfl,h₃⟩
  | true=>
   exact wpAny_bind (wpAny_bind (wpAny_mono h₃ (fun x s₄ h₄=>wpAny_bind (wpAny_mono h₄ (fun _ s₅ h₅=>wpAny_pure (wpAny_pure ⟨rfl,h₅⟩)) fun _ _ h'=>h')) fun _ _ h'=>h'))
noncomputable def clo(env:Env):List (Str×NameKind)→List (Str×Addr)→List (Str×Addr)
 | [],cs=>cs
 | (n,k)::r,cs=>clo env r (if (k== .free)=true then (match env.cells.lookup n with | some c=>(n,c)::cs | none=>cs) else cs)
theorem clo_loop{env:Env}:∀(names:List (Str×NameKind)) (cs:List (Str×Addr)),(∀y∈names,y.2= .free→∃c,env.cells.lookup y.1=some c)→
 (forIn (m:=Sem) names cs fun (x:Str×NameKind) (r:List (Str×Addr))=>match x with | (name,kind)=>if (kind== .free)=true then do let c ← cellOf env name;pure (ForInStep.yield ((name,c)::r)) else pure (ForInStep.yield r))=pure (clo env names cs)
 | [],cs,_=>rfl
 | (n,k)::r,cs,h=>by
  rw [List.forIn_cons]
  have ih:=fun cs=>clo_loop r cs fun y hy=>h y (List.mem_cons_of_mem _ hy)
  by_cases hk:(k==NameKind.free)=true
  · obtain ⟨c,hc⟩:=h (n,k) List.mem_cons_self (by simpa using hk)
    have e:cellOf env n=pure c:=by unfold cellOf;rw [show env.cells.lookup n=some c from hc]
    simp only [hk,if_true,e,clo]
    rw [show env.cells.lookup n=some c from hc]
    exact ih _
  · simp only [hk,clo]
    exact ih _
theorem clo_closure{scope:Scope}{env:Env}(h:∀y∈scope.names,y.2= .free→∃c,env.cells.lookup y.1=some c):closureFor scope env=pure (clo env scope.names []):=by
 unfold closureFor
 show (forIn (m:=Sem) scope.names ([]:List (Str×Addr)) _ >>=fun r=>pure r)=_
 rw [clo_loop scope.names [] h]
 rfl
theorem clo_cells{env:Env}{x:Str}{c:Addr}:∀(names:List (Str×NameKind)) (cs:List (Str×Addr)),(clo env names cs).lookup x=some c→env.cells.lookup x=some c∨cs.lookup x=some c
 | [],cs,h=> .inr h
 | (n,k)::r,cs,h=>by
  unfold clo at h
  rcases clo_cells r _ h with q | q
  · exact .inl q
  · split at q
    · split at q
      · rename_i c' hc
        rw [List.lookup_cons]at q
        cases hx:x==n with
        | true=>
         rw [hx]at q
         have e:x=n:=by simpa using hx
         subst e
         simp only [Option.some.injEq]at q
         subst q
         exact .inl hc
        | false=>rw [hx]at q;exact .inr q
      · exact .inr q
    · exact .inr q
theorem clo_has{env:Env}{x:Str}{c:Addr}(hc:env.cells.lookup x=some c):∀(names:List (Str×NameKind)) (cs:List (Str×Addr)),(cs.lookup x=some c∨(cs.lookup x=none∧(x,NameKind.free)∈names))→(clo env names cs).lookup x=some c
 | [],cs,h=>by
  rcases h with h | ⟨_,h⟩
  · exact h
  · cases h
 | (n,k)::r,cs,h=>by
  unfold clo
  refine clo_has hc r _ ?_
  by_cases hx:x=n
  · subst hx
    by_cases hk:(k==NameKind.free)=true
    · rw [if_pos hk,hc]
      exact .inl (by simp [List.lookup_cons])
    · rw [if_neg hk]
      rcases h with h | ⟨h1,h2⟩
      · exact .inl h
      · refine .inr ⟨h1,?_⟩
        rcases List.mem_cons.mp h2 with e | e
        · cases e;exact absurd rfl hk
        · exact e
  · have hb:(x==n)=false:=by simpa using hx
    have key:∀cs':List (Str×Addr),cs'.lookup x=cs.lookup x→(cs'.lookup x=some c∨(cs'.lookup x=none∧(x,NameKind.free)∈r)):=fun cs' e=>by
     rw [e]
     rcases h with h | ⟨h1,h2⟩
     · exact .inl h
     · refine .inr ⟨h1,?_⟩
       rcases List.mem_cons.mp h2 with e | e
       · cases e;exact absurd rfl hx
       · exact e
    refine key _ ?_
    split
    · split
      · simp [List.lookup_cons,hb]
      · rfl
    · rfl
theorem relabel_kind{env:Env}{k':NameKind}:∀{names:List (Str×NameKind)} {x:Str},(∀y∈names,y.2≠ .cell)→
 (names.map fun (n,k)=>if (k==NameKind.free && env.scope.kind== .function && env.kindOf n==some .cell) then (n,NameKind.cell) else (n,k)).lookup x=some k'→(k'= .cell∨k'= .free)→(x,NameKind.free)∈names
 | [],_,_,h,_=>by simp at h
 | (n,k)::r,x,hc,h,hk=>by
  have ih:=@relabel_kind env k' r x (fun y hy=>hc y (List.mem_cons_of_mem _ hy))
  have h':List.lookup x ((if (k==NameKind.free && env.scope.kind== .function && env.kindOf n==some .cell)=true then (n,NameKind.cell) else (n,k))::(r.map fun (n,k)=>if (k==NameKind.free && env.scope.kind== .function && env.kindOf n==some .cell) then (n,NameKind.cell) else (n,k)))=some k':=h
  by_cases hx:x=n
  · subst hx
    by_cases q:(k==NameKind.free && env.scope.kind== .function && env.kindOf x==some .cell)=true
    · have:k= .free:=by simp only [Bool.and_eq_true,beq_iff_eq]at q;exact q.1.1
      subst this
      exact List.mem_cons_self
    · rw [if_neg q,List.lookup_cons]at h'
      simp only [beq_self_eq_true]at h'
      have e:k=k':=Option.some.inj h'
      rcases hk with z | z
      · exact absurd (e.trans z) (hc (x,k) List.mem_cons_self)
      · rw [e.trans z];exact List.mem_cons_self
  · have hb:(x==n)=false:=by simpa using hx
    refine List.mem_cons_of_mem _ (ih ?_ hk)
    split at h'
    · rw [List.lookup_cons,hb]at h';exact h'
    · rw [List.lookup_cons,hb]at h';exact h'
theorem lookup_relabel_free{env:Env}:∀{names:List (Str×NameKind)} {x:Str},names.lookup x=some .free→
 (names.map fun (n,k)=>if (k==NameKind.free && env.scope.kind== .function && env.kindOf n==some .cell) then (n,NameKind.cell) else (n,k)).lookup x=some .cell∨
 (names.map fun (n,k)=>if (k==NameKind.free && env.scope.kind== .function && env.kindOf n==some .cell) then (n,NameKind.cell) else (n,k)).lookup x=some .free
 | [],_,h=>by simp at h
 | (n,k)::r,x,h=>by
  have ih:=@lookup_relabel_free env r x
  show List.lookup x ((if (k==NameKind.free && env.scope.kind== .function && env.kindOf n==some .cell)=true then (n,NameKind.cell) else (n,k))::_)=_∨List.lookup x ((if (k==NameKind.free && env.scope.kind== .function && env.kindOf n==some .cell)=true then (n,NameKind.cell) else (n,k))::_)=_
  cases hx:x==n with
  | true=>
   simp only [List.lookup_cons,hx]at h
   cases h
   split
   · left;simp [List.lookup_cons,hx]
   · right;simp [List.lookup_cons,hx]
  | false=>
   simp only [List.lookup_cons,hx]at h
   split
   · simp only [List.lookup_cons,hx];exact ih h
   · simp only [List.lookup_cons,hx];exact ih h
structure Blk where
 s:Shared
 H:Hp
 C:Addr
 fp:List Addr
noncomputable abbrev Cx.blk(X:Cx)(scope:Scope)(N':List Str)(b:Blk):Cx:=
 {X with N:=N',s₀:=b.s,H₀:=b.H,env:=compEnvC scope (clo X.env scope.names []) b.C X.env,outer:=X.stack,ex:=b.fp,fn:=fun _=>false,pn:=[],xe:=fun _ _=>False}
noncomputable def around(N:List Str)(fs:List Nat):List Str:=fs.map fun j=>N.getD j ""
noncomputable def compOkB(N:List Str)(esc scope:Scope)(xs:List Str)(fs:List Nat):Bool:=
 decide (xs++around N fs).Nodup && (match scope.kind with | .function=>true | _=>false) && xs.all (fun x=>decide (scope.names.lookup x=some .local)) &&
 scope.names.all (fun y=>decide (y.2≠ .cell) && (!decide (y.2= .local) || decide (scope.names.lookup y.1=some .local)) && (!decide (y.2= .free) || decide (esc.names.lookup y.1=some .cell) || decide (esc.names.lookup y.1=some .free))) &&
 fs.all fun j=>decide (j < N.length) && decide (scope.names.lookup (N.getD j "")=some .free)
structure CompOk(N:List Str)(esc scope:Scope)(xs:List Str)(fs:List Nat):Prop where
 nd:(xs++around N fs).Nodup
 kind:scope.kind= .function
 own:∀x∈xs,scope.names.lookup x=some .local
 cell:∀y∈scope.names,y.2≠ .cell
 names:∀y∈scope.names,y.2= .local→scope.names.lookup y.1=some .local
 free:∀y∈scope.names,y.2= .free→esc.names.lookup y.1=some .cell∨esc.names.lookup y.1=some .free
 fs:∀j∈fs,j < N.length∧scope.names.lookup (N.getD j "")=some .free
theorem compOk_of{N:List Str}{esc scope:Scope}{xs:List Str}{fs:List Nat}(h:compOkB N esc scope xs fs=true):CompOk N esc scope xs fs:=by
 unfold compOkB at h
 simp only [Bool.and_eq_true,decide_eq_true_eq,List.all_eq_true]at h
 obtain ⟨⟨⟨⟨h1,h2⟩,h3⟩,h4⟩,h5⟩:=h
 refine ⟨h1,?_,h3,fun y hy=>(h4 y hy).1.1,fun y hy e=>?_,fun y hy e=>?_,h5⟩
 · split at h2
   · assumption
   · cases h2
 · have:=(h4 y hy).1.2
   simpa [e] using this
 · have:=(h4 y hy).2
   simpa [e] using this
section
variable {X:Cx} {pins:List (Addr×Obj)} {σ:St} {H:Hp} {s:Shared} {scope:Scope} {xs:List Str} {fs:List Nat} {fp:List Addr} {C:Addr}
theorem blk_ok(I:Inv X pins σ H s)(O:CompOk X.N X.env.scope scope xs fs)(hf:∀b∈fp,FpOk X pins H b)(hC:s.heap.objs.size≤C)(hfp:∀b∈fp,b < s.heap.objs.size):(X.blk scope (xs++around X.N fs) ⟨s,H,C,fp⟩).Ok:=by
 have hcl:∀x c,(clo X.env scope.names []).lookup x=some c→X.env.cells.lookup x=some c:=fun x c e=>by
  rcases clo_cells _ _ e with q | q
  · exact q
  · cases q
 have hsz:∀b o,X.base.get? b=some o→b < X.s₀.heap.objs.size:=fun b o e=>Nat.lt_of_lt_of_le (Heap.lt_size e) I.ok.bsz
 refine ⟨I.ok.mod,O.kind,I.ok.glob,I.ok.blt,hC,fun x y c h1 h2=>I.ok.inj x y c (hcl x c h1) (hcl y c h2),fun x hx=>?_,fun x c z=>(by cases z),I.ok.hd,I.ok.frames,.inl rfl,fun b hb=>⟨Nat.ne_of_lt (Nat.lt_of_lt_of_le (hfp b hb) hC),fun x c e=>(hf b hb).2.2.2.2.1 x c (hcl x c e)⟩,I.bs,Nat.le_trans I.ok.bsz I.sz,fun b o e hb=>?_,fun b hb hs=>?_,I.stack,I.stkFree⟩
 · have hm:(x,NameKind.free)∈scope.names:=by
    rcases hx with hx | hx
    · exact relabel_kind (env:=X.env) O.cell (show (scope.names.map _).lookup x=some NameKind.cell from hx) (.inl rfl)
    · exact relabel_kind (env:=X.env) O.cell (show (scope.names.map _).lookup x=some NameKind.free from hx) (.inr rfl)
   obtain ⟨c,hc⟩:=I.ok.has x (O.free _ hm rfl)
   exact ⟨c,clo_has hc _ _ (.inr ⟨rfl,hm⟩)⟩
 · obtain ⟨_,_,_,h4,_⟩:=hf b hb
   rcases h4 with h4 | h4
   · exact I.ok.noex b o e h4
   · exact absurd (Nat.lt_of_lt_of_le (hsz b o e) h4) (Nat.lt_irrefl _)
 · obtain ⟨_,h2,h3,_⟩:=hf b hb
   exact (List.mem_cons.mp (I.stkSub b hs)).elim h2 h3
theorem blk_in{h1:Heap}{t:Nat}{D:Addr}{m:Str→Option Value}(I:Inv X pins σ H s)(O:CompOk X.N X.env.scope scope xs fs)(hf:∀b∈fp,FpOk X pins H b)(hD:s.heap.objs.size≤D)(hC:s.heap.objs.size≤C)(hfp:∀b∈fp,b < s.heap.objs.size)(hDC:D≠C)
 (k:∀b u,s.heap.get? b=some u→h1.get? b=some u) (hDo:h1.get? D=some {cls:= .type "list",data:= .seq #[] 0}) (hn:h1.Ns C m):
 Inv (X.blk scope (xs++around X.N fs) ⟨s,H,C,fp⟩) [] (xs.map (fun _=>none)++fs.map fun j=>σ.getD j none) (upd H D (.lst [])) {s with heap:=h1,toks:=t}:=by
 have hcl:∀x c,(clo X.env scope.names []).lookup x=some c→X.env.cells.lookup x=some c:=fun x c e=>by
  rcases clo_cells _ _ e with q | q
  · exact q
  · cases q
 have ok:=blk_ok (C:=C) I O hf hC hfp
 have hnD:H D=none:=I.hok.fresh hD
 refine ⟨ok,rfl,I.bare,Un.laid k hD hnD,⟨m,hn,fun i x v e1 e2 e3=>?_⟩,fun x c e=>?_,?_,fun x c e=>?_,fun p hp=>absurd (show p∈([]:List (Addr×Obj)) from hp) (by simp),I.hok.laid k hD ⟨Nat.zero_le _,[],0,.nil,hDo⟩,by simp [around]⟩
 · by_cases hi:i < xs.length
   · rw [List.getElem?_append_left (by simpa using hi),List.getElem?_map]at e2
     cases q:xs[i]? with
     | none=>rw [q]at e2;cases e2
     | some a=>rw [q]at e2;cases e2
   · have hi:xs.length≤i:=Nat.le_of_not_lt hi
     rw [List.getElem?_append_right (by simpa using hi)]at e1 e2
     unfold around at e1
     rw [List.length_map]at e2
     rw [List.getElem?_map]at e1 e2
     cases q:fs[i - xs.length]? with
     | none=>rw [q]at e2;cases e2
     | some j=>
      rw [q]at e1 e2
      simp only [Option.map_some,Option.some.injEq]at e1 e2
      obtain ⟨hj,hl⟩:=O.fs j (List.mem_of_getElem? q)
      obtain ⟨m0,_,hl0⟩:=I.loc
      have e1':X.N[j]?=some x:=by rw [← e1,List.getD_eq_getElem?_getD,List.getElem?_eq_getElem hj];rfl
      have e2':σ[j]?=some (some v):=by
       rw [List.getD_eq_getElem?_getD]at e2
       cases z:σ[j]? with
       | none=>rw [z]at e2;cases e2
       | some y=>rw [z]at e2;simp only [Option.getD_some]at e2;rw [e2]
      rw [e1]at hl
      have hm:(x,NameKind.free)∈scope.names:=PySem.mem_of_lookup hl
      have hk:=O.free _ hm rfl
      obtain ⟨u,r,l⟩:=hl0 j x v e1' e2' (hk.elim (fun z=> .inr (.inl z)) fun z=> .inr (.inr z))
      refine ⟨u,r,?_⟩
      rcases l with ⟨z,_⟩ | ⟨_,c,hc,cell⟩
      · have z':X.env.scope.names.lookup x=some .local:=z
        rcases hk with hk | hk <;> (rw [z']at hk;cases hk)
      · refine .inr ⟨?_,c,clo_has hc _ _ (.inr ⟨rfl,hm⟩),?_⟩
        · exact lookup_relabel_free (env:=X.env) hl
        · obtain ⟨o,ho,hd⟩:=cell
          exact ⟨o,k _ _ ho,hd⟩
 · obtain ⟨v,o,ho,hd⟩:=I.cell x c (hcl x c e)
   exact ⟨v,o,k _ _ ho,hd⟩
 · show upd H D (.lst []) C=none
   rw [upd_ne (Ne.symm hDC)];exact I.hok.fresh hC
 · obtain ⟨v,q⟩:=I.cell x c (hcl x c e)
   rw [upd_ne (Nat.ne_of_lt (Nat.lt_of_lt_of_le q.lt hD))]
   exact I.freeC x c (hcl x c e)
theorem blk_out{N':List Str}{σ':St}{H':Hp}{s':Shared}{h2:Heap}{pl:List (Addr×Obj)}(I:Inv X pins σ H s)(hf:∀b∈fp,FpOk X pins H b)(hC:s.heap.objs.size≤C)(J:Inv (X.blk scope N' ⟨s,H,C,fp⟩) pl σ' H' s')(sb:Heap.SameBut C s'.heap h2):
 Inv X pins σ H' {s' with heap:=h2}:=by
 have u:=J.base
 have ne:∀b o,s.heap.get? b=some o→b≠C:=fun b o e=>Nat.ne_of_lt (Nat.lt_of_lt_of_le (Heap.lt_size e) hC)
 refine I.call' (ch:=fp) J.os ⟨fun b o e n h1 h2=>(sb.2 b (ne b o e)).trans (u.keep b o e n h1 h2),fun b o e n h1 h2=>?_,u.free,fun b o e hx=>?_,u.tups,u.frzs,u.tbls⟩ (fun a o e=>?_) J.bare fun b hb=>?_
 · obtain ⟨sl,q⟩:=u.slot b o e n h1 h2
   exact ⟨sl,(sb.2 b (ne b o e)).trans q⟩
 · obtain ⟨o',q⟩:=u.there b o e hx
   exact ⟨o',(sb.2 b (ne b o e)).trans q⟩
 · have fr:H' C=none:=J.free
   refine (J.hok a o e).stay (fun b v hc q=>(sb.2 b ?_).trans q) (fun _ q=>q) fun _ _ q=>q
   rcases hc with rfl | hc
   · exact ne_of_none e fr
   · exact ne_of_none hc fr
 · obtain ⟨_,h2,h3,h4,h5,h6⟩:=hf b hb
   exact ⟨h4,h2,h5,h6⟩
end
end L2
namespace L2
noncomputable def Kept(σ σ':St):Prop:=∀(i:Nat) (v:V),σ[i]?=some (some v)→σ'[i]?=some (some v)
noncomputable def PTs(X:Cx)(ifs:List Expr)(t:TT):Prop:=
 ∀(pins:List (Addr×Obj)) (s:Shared) (σ:St) (H:Hp) (Q:Bool→Hp→Prop),Inv X pins σ H s→t σ H Q→
   wpAny (model X.prog X.w) X.A (forIn ifs true fun c r=>if r=true then do let ok ← isTrue c X.env (eval c X.env);pure (ForInStep.yield ok) else pure (ForInStep.yield r)) (TP X pins σ Q) X.xe s
noncomputable def tYes:TT:=fun _ H Q=>Q true H
theorem pts_nil{X:Cx}:PTs X [] tYes:=fun _ _ _ H _ I h=>wpAny_tests_nil ⟨H,I,h⟩
theorem pts_one{X:Cx}{c:Expr}{t:TT}(hc:PT X c t):PTs X [c] t:=fun pins s σ H Q I h=>wpAny_tests_one (hc pins s σ H Q I h)
noncomputable def CompTail(σ0:St)(g:Blk→TG)(tt:Blk→TT)(te:Blk→TE)(Q:VK)(J:It)(H1:Hp):Prop:=∀(b:Blk) (D:Addr),H1 D=none→∃W:Nat→Nat→List V→Hp→Prop,(∃m,W 0 m [] (upd H1 D (.lst [])))∧∀i m ys H2,W i m ys H2→H2 D=some (.lst ys)∧
 ((J.stop i H2∧Q (.ref D) H2)∨(J.go i H2∧∀x H3,J.yld i H2 x H3→g b x σ0 H3 fun σ6 H6=>Kept σ0 σ6∧tt b σ6 H6 fun ok H7=>
   if ok=true then te b σ6 H7 fun y H8=>H8 D=some (.lst ys)∧ys.length < sizeLine∧∃m',m' < m∧W (i+1) m' (ys++[y]) (upd H8 D (.lst (ys++[y])))
   else ∃m',m' < m∧W (i+1) m' ys H7))
noncomputable def tComp(wi:TI)(n:Nat)(fs:List Nat)(g:Blk→TG)(tt:Blk→TT)(te:Blk→TE):TE:=fun σ H Q=>wi σ H (CompTail (List.replicate n none++fs.map fun j=>σ.getD j none) g tt te Q)
section
variable {X:Cx} {pins:List (Addr×Obj)} {σ:St} {scope:Scope} {xs:List Str} {fs:List Nat} {elt tg iter:Expr} {ifs:List Expr} {pos:Pos} {wi:TI} {g:Blk→TG} {tt:Blk→TT} {te:Blk→TE}
theorem turned_of{H:Hp}{s:Shared}{C:Addr}{h2:Heap}(I:Inv X pins σ H s)(F:FpOk X pins H C)(sb:Heap.SameBut C s.heap h2):Inv X pins σ H {s with heap:=h2}:=
 I.turned (t':=s.toks) (fun b o hb e=>(sb.2 b hb).trans e) F.1 F.2.1 F.2.2.2.1 F.2.2.2.2.1 F.2.2.2.2.2
theorem comp_run{Q:VK}{itv:Value}{s2:Shared}{E:Value→Shared→Prop}{RR:Value→Addr→Result→Shared→Prop}(hc:X.calm=true)(O:CompOk X.N X.env.scope scope xs fs)
 (hg:∀b,PG (X.blk scope (xs++around X.N fs) b) tg (g b)) (ht:∀b,PTs (X.blk scope (xs++around X.N fs) b) ifs (tt b)) (he:∀b,PE (X.blk scope (xs++around X.N fs) b) elt (te b))
 (h:PIE X pins σ tg (CompTail (List.replicate xs.length none++fs.map fun j=>σ.getD j none) g tt te Q) itv s2)
 (hR:∀D C s' m H',s'.heap.Ns C m→Inv X pins σ H' s'→Q (.ref D) H'→FpOk X pins H' C→RR (.ref D) C (.ok .next) s'):
 wpAny (model X.prog X.w) X.A (newList []) (fun acc s₃=>wpAny (model X.prog X.w) X.A (newFunctionEnv scope X.env.globals (clo X.env scope.names []) [] X.env.qual none .none (some X.env)) (fun cenv s₄=>
  codeAny (model X.prog X.w) X.A (.compStart (.ListComp elt [⟨tg,iter,ifs,0⟩] scope pos) 0 itv acc {cenv with scope:=relabel scope X.env}) (RR acc cenv.locals) s₄) E s₃) E s2:=by
 obtain ⟨it,fp,tn,J,H2,rfl,I2,T,st2,f2,rd⟩:=h
 have hfp:∀b∈fp,b < s2.heap.objs.size:=fun b hb=>by
  obtain ⟨o,e,_⟩:=T.obj _ _ st2 b hb
  exact Heap.lt_size e
 refine wpAny_newObj_type (wpAny_newFunctionEnv O.cell (by intro y hy;simp at hy) (fun h₁ hns₁ hsb₁=>?_) O.kind)
 dsimp only at hns₁ hsb₁ ⊢
 generalize hH2:s2.heap.push {cls:= .type "list",dict:=none,data:= .seq ([]:List Value).toArray}=HH at hns₁ hsb₁ ⊢
 have hC:HH.objs.size=s2.heap.objs.size+1:=by rw [← hH2,Heap.size_push]
 have hDC:s2.heap.objs.size≠HH.objs.size:=by rw [hC];exact Nat.ne_of_lt (Nat.lt_succ_self _)
 have hCle:s2.heap.objs.size≤HH.objs.size:=by rw [hC];exact Nat.le_succ _
 have old:∀b o,s2.heap.get? b=some o→h₁.get? b=some o:=fun b o e=>hsb₁.extBut b o (by rw [hC];exact Nat.ne_of_lt (Nat.lt_succ_of_lt (Heap.lt_size e))) (Heap.get?_push_of_some _ (hH2▸Heap.get?_push_of_some _ e))
 have hacc:h₁.get? s2.heap.objs.size=some {cls:= .type "list",data:= .seq #[] 0}:=hsb₁.extBut _ _ hDC (Heap.get?_push_of_some _ (hH2▸Heap.get?_push_size _ rfl))
 obtain ⟨W,⟨m0,w0⟩,turn⟩:=rd ⟨s2,H2,HH.objs.size,fp⟩ s2.heap.objs.size I2.fresh
 have I3:=blk_in (t:=s2.toks+([]:List (Str×Value)).length) I2 O f2 (Nat.le_refl _) hCle hfp hDC old hacc hns₁
 rw [show xs.map (fun _=>(none:Option V))=List.replicate xs.length none from List.map_const' ..]at I3
 generalize hX:X.blk scope (xs++around X.N fs) ⟨s2,H2,HH.objs.size,fp⟩=X' at I3
 have stat:∀{H':Hp},(∀b∈fp,H' b=none)→∀b∈fp,FpOk X' [] H' b:=fun hn b hb=>by
  subst hX
  refine ⟨hn b hb,?_,?_,.inl hb,fun x c e=>?_,fun p hp=>absurd hp (by simp)⟩
  · exact (I3.ok.exf b hb).1
  · exact I3.ok.exfs b hb
  · exact (I3.ok.exf b hb).2 x c e
 have fr3:∀b∈fp,upd H2 s2.heap.objs.size (.lst []) b=none:=fun b hb=>by
  rw [upd_ne (Nat.ne_of_lt (hfp b hb))];exact (f2 b hb).1
 have ccell:∀y c,X.env.cells.lookup y=some c→c≠HH.objs.size:=fun y c e=>by
  obtain ⟨v,q⟩:=I2.cell y c e
  exact Nat.ne_of_lt (Nat.lt_of_lt_of_le q.lt hCle)
 have cloc:HH.objs.size≠X.env.locals:=(Nat.ne_of_lt (Nat.lt_of_lt_of_le I2.lt hCle)).symm
 have eP:X'.prog=X.prog:=by rw [← hX]
 have ew:X'.w=X.w:=by rw [← hX]
 have eK:X'.K=X.K:=by rw [← hX]
 have eA:X'.A=X.A:=by rw [← hX]
 have ec:X'.calm=true:=by rw [← hX];exact hc
 have ex:X'.xe=fun _ _=>False:=by rw [← hX]
 have een:X'.env=compEnvC scope (clo X.env scope.names []) HH.objs.size X.env:=by rw [← hX]
 have hg':=hg ⟨s2,H2,HH.objs.size,fp⟩
 have ht':=ht ⟨s2,H2,HH.objs.size,fp⟩
 have he':=he ⟨s2,H2,HH.objs.size,fp⟩
 rw [hX]at hg' ht' he'
 have st1:tn 0 h₁:=T.keep _ _ _ st2 fun b hb o e=>old b o e
 have loop:∀s₃:Shared,s₃={s2 with heap:=h₁,toks:=s2.toks+([]:List (Str×Value)).length}→
  codeAny (model X.prog X.w) X.A (.compLoop (.ListComp elt [⟨tg,iter,ifs,0⟩] scope pos) 0 (.ref it) (.ref s2.heap.objs.size) (compEnvC scope (clo X.env scope.names []) HH.objs.size X.env))
   (RR (.ref s2.heap.objs.size) HH.objs.size) s₃:=by
  rintro s₃ rfl
  refine compLoop_any (fun n s'=>∃i ys H',Inv X' [] (List.replicate xs.length none++fs.map fun j=>σ.getD j none) H' s'∧tn i s'.heap∧(∀b∈fp,H' b=none)∧W i n ys H') ?_ m0 ⟨0,[],_,I3,st1,fr3,w0⟩
  rintro n s4 ⟨i,ys,H4,I4,st4,fr4,w4⟩
  obtain ⟨hD4,tn4⟩:=turn i n ys H4 w4
  rcases tn4 with ⟨stop,qn⟩ | ⟨go,step⟩
  · have td:=T.done X' eP ew eK ec i [] s4 _ H4 (notedBy (model X.prog X.w) X.A (compEnvC scope (clo X.env scope.names []) HH.objs.size X.env) fun e s'=>RR (.ref s2.heap.objs.size) HH.objs.size (.error e) s') I4 (stat fr4) st4 stop
    rw [eA]at td
    refine thn td fun r s5 ⟨hr,I5⟩=>?_
    subst hr
    obtain ⟨m5,hn5,_⟩:=I5.loc
    rw [een]at hn5
    have fr5:H4 HH.objs.size=none:=by have:=I5.free;rw [een]at this;exact this
    rw [← hX]at I5
    exact hR _ _ _ m5 H4 hn5 (blk_out I2 f2 hCle I5 (Heap.SameBut.refl ..)) qn (I2.fpOk hCle fr5)
  · have ti:=T.item X' eP ew eK ec i [] s4 _ H4 (notedBy (model X.prog X.w) X.A (compEnvC scope (clo X.env scope.names []) HH.objs.size X.env) fun e s'=>RR (.ref s2.heap.objs.size) HH.objs.size (.error e) s') I4 (stat fr4) st4 go
    rw [eA]at ti
    refine thn ti fun r s5 ⟨u,hr,h5⟩=>?_
    subst hr
    refine thn h5 fun _ s6 hq_=>?_
    obtain ⟨x,H6,I6,r6,y6,st6,fr6⟩:=hq_
    have I6':=I6.pinned (stat fr6) (T.obj _ _ st6)
    have g1:=hg' _ s6 _ H6 x u _ I6' r6 (step x H6 y6)
    rw [eP,ew,eA,een,ex]at g1
    refine wpAny_mono g1 (fun _ s7 hq_=>?_) fun _ _ z=>z.elim
    obtain ⟨σ7,H7,I7,kp7,q7⟩:=hq_
    have t1:=ht' _ s7 σ7 H7 _ I7 q7
    rw [eP,ew,eA,een,ex]at t1
    have back:∀{H9:Hp} {s9:Shared},Inv X' ([]++pinsAt fp s6.heap) σ7 H9 s9→Inv X' [] (List.replicate xs.length none++fs.map fun j=>σ.getD j none) H9 s9∧tn (i+1) s9.heap∧∀b∈fp,H9 b=none:=fun {H9 s9} I9=>by
     refine ⟨I9.unpinned.weak ?_ kp7,T.keep _ _ _ st6 fun b hb o e=>(I9.pin (b,o) (List.mem_append_right _ (List.mem_append_right _ (mem_pinsAt hb e)))).1,fun b hb=>?_⟩
     · rw [I9.len,I4.len]
     · obtain ⟨o,e,d⟩:=T.obj _ _ st6 b hb
       exact (I9.pin (b,o) (List.mem_append_right _ (List.mem_append_right _ (mem_pinsAt hb e)))).2.1
    refine wpAny_mono t1 (fun ok s8 ⟨H8,I8,q8⟩=>?_) fun _ _ z=>z.elim
    cases ok with
    | false=>
     rw [if_neg Bool.false_ne_true]at q8 ⊢
     obtain ⟨m',hm,w8⟩:=q8
     obtain ⟨b1,b2,b3⟩:=back I8
     exact ⟨m',hm,i+1,ys,H8,b1,b2,b3,w8⟩
    | true=>
     rw [if_pos rfl]at q8 ⊢
     have e1:=he' _ s8 σ7 H8 _ I8 q8
     rw [eP,ew,eA,een,ex]at e1
     refine wpAny_mono e1 (fun uy s9 hq_=>?_) fun _ _ z=>z.elim
     obtain ⟨y,H9,I9,r9,hD9,hz,m',hm,w9⟩:=hq_
     have a1:=mt_append (X:=X') (pins:=[]++pinsAt fp s6.heap) (s:=s9) (σ:=σ7) (H:=H9) (x:= .ref s2.heap.objs.size) (xs:=[y]) (v:= .ref s2.heap.objs.size) (us:=[uy]) (Q:=fun _ H'=>H'=upd H9 s2.heap.objs.size (.lst (ys++[y]))) I9 rfl (.cons r9 .nil) ⟨_,ys,y,rfl,rfl,hD9,hz,rfl⟩
     rw [eP,ew,eA,ex]at a1
     refine wpAny_mono a1 (fun _ s10 hq_=>?_) fun _ _ z=>z.elim
     obtain ⟨_,H10,I10,_,e10⟩:=hq_
     subst e10
     obtain ⟨b1,b2,b3⟩:=back I10
     exact ⟨m',hm,i+1,_,_,b1,b2,b3,w9⟩
 exact codeAny_compStart_list (loop _ rfl) (T.self _ 0 _ _ _ st1 (loop _ rfl))
theorem pe_compG(hc:X.calm=true)(hok:compOkB X.N X.env.scope scope xs fs=true)(hi:PI X tg iter wi)
 (hg:∀b,PG (X.blk scope (xs++around X.N fs) b) tg (g b)) (ht:∀b,PTs (X.blk scope (xs++around X.N fs) b) ifs (tt b)) (he:∀b,PE (X.blk scope (xs++around X.N fs) b) elt (te b))
 (hs:∀x,foldedSetIterable iter X.env x=pure x:=by intro _;rfl):
 PE X (.ListComp elt [⟨tg,iter,ifs,0⟩] scope pos) (tComp wi xs.length fs g tt te):=by
 intro pins s σ H Q I h
 have O:=compOk_of hok
 rw [eval_ListComp]
 refine wpAny_comprehension_free (use:=none) rfl hs (clo_closure fun y hy hf=>I.ok.has _ (O.free y hy hf)) O.kind O.names (thn (hi pins s σ H _ I h) fun v s1 h1=>thn h1 fun itv s2 h2=>?_)
 exact comp_run (RR:=fun acc C=>compPost (model X.prog X.w) X.A X.xe none (EP X pins σ Q) acc C) hc O hg ht he h2 fun D C s' m H' hn I' q F=>⟨m,hn,fun h2 sb=>⟨.ref D,H',turned_of I' F sb,rfl,q⟩⟩
theorem ps_comp{y:Str}{py:Pos}{i:Nat}(hN:X.N.Nodup)(hy:X.N[i]?=some y)(hyl:X.env.kindOf y=some .local)(hc:X.calm=true)(hok:compOkB X.N X.env.scope scope xs fs=true)(hi:PI X tg iter wi)
 (hg:∀b,PG (X.blk scope (xs++around X.N fs) b) tg (g b)) (ht:∀b,PTs (X.blk scope (xs++around X.N fs) b) ifs (tt b)) (he:∀b,PE (X.blk scope (xs++around X.N fs) b) elt (te b)) {spos:Pos}
 (hsw:swapsWith (.ListComp elt [⟨tg,iter,ifs,0⟩] scope pos) (some (.Name y py)) spos.line X.env=pure true:=by rfl)
 (hs:∀x,foldedSetIterable iter X.env x=pure x:=by intro _;rfl):
 PS X (.Assign [.Name y py] (.ListComp elt [⟨tg,iter,ifs,0⟩] scope pos) spos) (tAsg (tComp wi xs.length fs g tt te) (gName i)):=by
 intro pins s σ H D I h
 have O:=compOk_of hok
 rw [exec_Assign_Name_used _ _ _ _ hsw]
 refine wpAny_bind (wpAny_standAt (wpAny_bind ?_))
 show wpAny _ X.A (do let _ ← comprehension (.ListComp elt [⟨tg,iter,ifs,0⟩] scope pos) scope X.env _ (newList []) false (eval iter X.env) (some (assign (.Name y py) X.env))) _ _ s
 refine wpAny_bind (wpAny_mono (wpAny_comprehension_free (use:=some (assign (.Name y py) X.env)) (Q:=fun _ s'=>SP X pins D .next s') rfl hs (clo_closure fun y hy hf=>I.ok.has _ (O.free y hy hf)) O.kind O.names
  (thn (hi pins s σ H _ I h) fun v s1 h1=>thn h1 fun itv s2 h2=>?_)) (fun _ s' hq=>wpAny_pure (wpAny_pure hq)) fun _ _ e=>e)
 refine comp_run (RR:=fun acc C=>compPost (model X.prog X.w) X.A X.xe (some (assign (.Name y py) X.env)) (fun _ s'=>SP X pins D .next s') acc C) hc O hg ht he h2 fun D' C s' m H' hn I0 q0 F=>?_
 show wpAny _ X.A (assign (.Name y py) X.env (.ref D')) _ _ _
 refine wpAny_assign_Name (store_ok2 I0 hN hy (.inl hyl) (v:= .ref D') rfl (fun s3 I3 hsb=>?_) (.inr hyl))
 obtain ⟨a,sb3,ha⟩:=hsb
 have haC:C≠a:=by
  rcases ha with rfl | ha
  · exact F.2.1
  · exact (F.2.2.2.2.1 y a ha).symm
 exact ⟨m,hn.sameBut sb3 haC,fun h4 sb4=>⟨_,H',turned_of I3 F sb4,q0⟩⟩
end
end L2
namespace L2
noncomputable def Its(z:Str):It:=⟨fun i _=>i < z.cps.size,fun i H x H'=>H'=H∧∃c,z.cps[i]?=some c∧x= .str ⟨#[c]⟩,fun i _=>z.cps.size≤i⟩
noncomputable def iStr(tl:TE):TI:=fun σ H R=>tl σ H fun x H1=>∃z,x= .str z∧R (Its z) H1
section
variable {P:Program} {w:World} {K:PySem.W.Frag} {tg:Expr}
theorem turn_str(ty:String)(hty:ty="str_ascii_iterator"∨ty="str_iterator")(z:Str)(t:Tok)(it:Addr):Turn P w K tg (Its z) [it] it (fun i h=>i≤z.cps.size∧h.IsStrIter it ty z t i) where
 mem:=by simp
 obj:=fun i h st b hb=>by
  have e:b=it:=by simpa using hb
  subst e
  obtain ⟨o,e,c,d⟩:=st.2
  exact ⟨o,e,fun v z=>by rw [d]at z;cases z⟩
 keep:=fun i h h' st k=>⟨st.1,by obtain ⟨o,e,r⟩:=st.2;exact ⟨o,k it (by simp) o e,r⟩⟩
 item:=by
  intro X hP hw hK hc i pins s σ H E I hf st hg
  subst hP hw hK
  obtain ⟨f0,f1,f2,f3,f4,f5⟩:=hf it (by simp)
  have W:Walks X.prog X.w X.A it [it] [it] z.cps.size (SignAt z) (fun i h=>h.IsStrIter it ty z t i):=by
   rcases hty with rfl | rfl
   · exact Walks.strAscii (I.ok.hd hc) it z t
   · exact Walks.strWide (I.ok.hd hc) it z t
  refine W.item i s _ _ hg st.2 fun v h' tk hv st' kk=>?_
  obtain ⟨c,u,hcc,rfl⟩:=hv
  have I1:Inv X pins σ H {s with heap:=h',toks:=tk}:=I.turned (fun b o hb e=>kk b o (by simpa using hb) e) f0 f1 f3 f4 f5
  obtain ⟨o,e,cc,d⟩:=id st'
  refine ⟨_,rfl,go_of (s:={s with heap:=h',toks:=tk}) (n:=ty) e cc d (by rcases hty with rfl | rfl <;> decide) ⟨.str ⟨#[c]⟩,H,I1,⟨u,rfl⟩,⟨rfl,c,hcc,rfl⟩,⟨hg,st'⟩,fun b hb=>(hf b hb).1⟩⟩
 done:=by
   intro X hP hw hK hc i pins s σ H E I hf st hg
   subst hP hw hK
   obtain ⟨f0,f1,f2,f3,f4,f5⟩:=hf it (by simp)
   have W:Walks X.prog X.w X.A it [it] [it] z.cps.size (SignAt z) (fun i h=>h.IsStrIter it ty z t i):=by
    rcases hty with rfl | rfl
    · exact Walks.strAscii (I.ok.hd hc) it z t
    · exact Walks.strWide (I.ok.hd hc) it z t
   have hi:i=z.cps.size:=Nat.le_antisymm st.1 hg
   subst hi
   exact W.done s _ _ st.2 fun h' tk kk=>⟨rfl,I.turned (fun b o hb e=>kk b o (by simpa using hb) e) f0 f1 f3 f4 f5⟩
 self:=fun _ _ _ _ _ st h=>by
  rcases hty with rfl | rfl
  · exact wpAny_pyIter_striter_ascii st.2 h
  · exact wpAny_pyIter_striter_wide st.2 h
end
section
variable {X:Cx} {tg:Expr}
theorem pi_str{l:Expr}{tl:TE}(hl:PE X l tl):PI X tg l (iStr tl):=by
 intro pins s σ H R I h
 refine thn (hl pins s σ H _ I h) fun v s1 hq_=>?_
 obtain ⟨x,H1,I1,r1,q1⟩:=hq_
 obtain ⟨z,e,q⟩:=q1
 subst e
 obtain ⟨t,rfl⟩:=r1
 have fin:∀ty,(ty="str_ascii_iterator"∨ty="str_iterator")→PIE X pins σ tg R (.ref s1.heap.objs.size) {s1 with heap:=s1.heap.push {cls:= .type ty,data:= .fields #[.str z t,.int 0 0]}}:=fun ty hty=>by
  refine ⟨s1.heap.objs.size,[s1.heap.objs.size],_,_,H1,rfl,I1.kept (t':=s1.toks) fun b o e=>Heap.get?_push_of_some _ e,turn_str ty hty z t _,⟨Nat.zero_le _,_,Heap.get?_push_size _ rfl,rfl,rfl⟩,fun b hb=>?_,q⟩
  have e:b=s1.heap.objs.size:=by simpa using hb
  subst e
  exact I1.fpOk (Nat.le_refl _) I1.fresh
 cases ha:z.cps.all (· < 128)
 · exact wpAny_pyIter_wide ha (fin _ (.inr rfl))
 · exact wpAny_pyIter_ascii ha (fin _ (.inl rfl))
noncomputable def rSlS:V→Option Int→Option Int→Hp→VK→Prop:=fun x lo hi H Q=>∃z,x= .str z∧z.length≤sizeLine∧Q (.str (Txt.slice z lo hi)) H
noncomputable def rJoin(K:PySem.W.Frag):V→List V→Hp→VK→Prop:=fun x vs H Q=>∃z p ys,x= .str z∧vs=[.ref p]∧SqL K H p (ys.map V.str)∧(ys.map (·.length)).sum+ys.length * z.length≤16777216∧Q (.str (Txt.join z ys)) H
noncomputable def rFind:V→List V→Hp→VK→Prop:=fun x vs H Q=>∃z y,x= .str z∧vs=[.str y]∧Q (.int (Txt.find z y)) H
noncomputable def rSplit:V→List V→Hp→VK→Prop:=fun x vs H Q=>∃z y,x= .str z∧vs=[.str y]∧(y.length==0)=false∧z.length+2≤sizeLine∧∀p,H p=none→Q (.ref p) (upd H p (.lst ((Txt.split z y).map V.str)))
noncomputable def rMulS:R2:=fun x y H Q=>∃z n,x= .str z∧y= .int n∧MulOk z n∧Q (.str (Txt.mul z n)) H
theorem op_mulS:OpR X (binaryOp .Mult) rMulS:=by
 intro pins s σ H x y v u Q I rx ry h
 obtain ⟨z,n,rfl,rfl,hok,q⟩:=h
 obtain ⟨t,rfl⟩:=rx
 obtain ⟨t2,rfl⟩:=ry
 exact SB.mul hok fun t' k=>⟨.str _,H,I.tok k,⟨t',rfl⟩,q⟩
noncomputable def rAll(K:PySem.W.Frag):List V→Hp→VK→Prop:=fun xs H Q=>∃(p:Addr) (bs:List Bool),xs=[.ref p]∧SqL K H p (bs.map V.bl)∧Q (.bl (bs.all id)) H
theorem call_all(hc:X.calm=true):CallR X (.builtin "all") (rAll X.K):=by
 intro pins s σ H xs us Q I r h
 obtain ⟨p,bs,rfl,hp,q⟩:=h
 obtain ⟨u,rfl,ru⟩:=vals1 r
 cases ru
 obtain ⟨its,r,pl,hz⟩:=I.list hp
 have hlt:p < s.heap.objs.size:=by obtain ⟨o,n,e,_⟩:=pl;exact Heap.lt_size e
 refine call_all_walk (wpAny_pyIter_list pl.isList ⟨s.heap.objs.size,_,_,_,_,_,fun i=>bs.getD i true,rfl,Walks.list (show X.A.in1.handled=none from I.ok.hd hc) s.heap.objs.size p (Nat.ne_of_lt hlt) its.toArray,⟨⟨_,Heap.get?_push_size _ rfl,rfl,rfl⟩,pl.isList.push _⟩,?_,fun h' tk kk=>?_⟩)
 · intro i v s' Q' E' hP hQ'
   have hP:its.toArray[i]?=some v:=hP
   have hlen:=r.length
   rw [List.length_map]at hlen
   have hi:i < bs.length:=by
    have:=(Array.getElem?_eq_some_iff.mp hP).1
    rw [List.size_toArray]at this
    omega
   obtain ⟨u,hu,ru⟩:=r.get (i:=i) (x:=V.bl (bs[i])) (by simp [hi])
   have e:u=v:=by
    have:its[i]?=some v:=by simpa using hP
    rw [hu]at this;exact Option.some.inj this
   subst e
   cases ru
   dsimp only at hQ'
   rw [List.getD_eq_getElem?_getD,List.getElem?_eq_getElem hi]at hQ'
   exact wpAny_pure hQ'
 · refine ⟨.bl _,H,I.kept (t':=tk) fun b o e=>kk b o ?_ (Heap.get?_push_of_some _ e),rfl,?_⟩
   · simpa using Nat.ne_of_lt (Heap.lt_size e)
   · have hlen:=r.length
     rw [List.length_map]at hlen
     have:((List.range its.toArray.size).all fun i=>bs.getD i true)=bs.all id:=by
      rw [List.size_toArray,← hlen]
      rw [Bool.eq_iff_iff,List.all_eq_true,List.all_eq_true]
      constructor
      · intro h x hx
        obtain ⟨i,hi,rfl⟩:=List.mem_iff_getElem.mp hx
        have:=h i (by simpa using hi)
        simpa [List.getD_eq_getElem?_getD,List.getElem?_eq_getElem hi] using this
      · intro h i hi
        have hi:i < bs.length:=by simpa using hi
        rw [List.getD_eq_getElem?_getD,List.getElem?_eq_getElem hi]
        exact h _ (List.getElem_mem hi)
     rw [this];exact q
end
noncomputable abbrev TJ:=Str→St→Hp→(Str→Hp→Prop)→Prop
noncomputable def jNil:TJ:=fun acc _ H Q=>Q acc H
noncomputable def jCons(te:TE)(tr:TJ):TJ:=fun acc σ H Q=>te σ H fun x H1=>∃y,x= .str y∧(acc++y).length≤sizeLine∧tr (acc++y) σ H1 Q
noncomputable def tFstr(t:TJ):TE:=fun σ H Q=>t Str.empty σ H fun out H1=>out.length≤sizeLine∧Q (.str out) H1
noncomputable def tFmt(te:TE):TE:=fun σ H Q=>te σ H fun x H1=>(∃z,x= .str z∧z.length≤sizeLine∧Q (.str z) H1)∨∃i,x= .int i∧i.natAbs.log2 < 1920∧Q (.str (toString i)) H1
noncomputable def tFmtR(te:TE):TE:=fun σ H Q=>te σ H fun x H1=>∃z,x= .str z∧(PySem.reprText z).length≤sizeLine∧Q (.str (PySem.reprText z)) H1
end L2
namespace L2
noncomputable abbrev tComp1(wi:TI)(fs:List Nat)(te:Blk→TE):TE:=tComp wi 1 fs (fun _=>gName 0) (fun _=>tYes) te
section
variable {X:Cx} {scope:Scope} {x:Str} {px:Pos} {fs:List Nat} {elt iter:Expr} {pos:Pos} {wi:TI} {te:Blk→TE}
theorem pg_own(hok:compOkB X.N X.env.scope scope [x] fs=true)(b:Blk):PG (X.blk scope ([x]++around X.N fs) b) (.Name x px) (gName 0):=
 pg_name (compOk_of hok).nd rfl (.inl (lookup_relabel_local ((compOk_of hok).own x (by simp)))) (.inr (lookup_relabel_local ((compOk_of hok).own x (by simp))))
theorem pe_comp1(x:Str)(fs:List Nat)(hc:X.calm=true)(hok:compOkB X.N X.env.scope scope [x] fs=true)(hi:PI X (.Name x px) iter wi)(he:∀b,PE (X.blk scope ([x]++around X.N fs) b) elt (te b))
 (hs:∀x,foldedSetIterable iter X.env x=pure x:=by intro _;rfl):PE X (.ListComp elt [⟨.Name x px,iter,[],0⟩] scope pos) (tComp1 wi fs te):=
 pe_compG (xs:=[x]) (g:=fun _=>gName 0) (tt:=fun _=>tYes) hc hok hi (pg_own hok) (fun _=>pts_nil) he hs
theorem ps_comp1{y:Str}{py:Pos}{i:Nat}{spos:Pos}(x:Str)(fs:List Nat)(hN:X.N.Nodup)(hy:X.N[i]?=some y)(hyl:X.env.kindOf y=some .local)(hc:X.calm=true)(hok:compOkB X.N X.env.scope scope [x] fs=true)(hi:PI X (.Name x px) iter wi)(he:∀b,PE (X.blk scope ([x]++around X.N fs) b) elt (te b))
 (hsw:swapsWith (.ListComp elt [⟨.Name x px,iter,[],0⟩] scope pos) (some (.Name y py)) spos.line X.env=pure true:=by rfl)
 (hs:∀x,foldedSetIterable iter X.env x=pure x:=by intro _;rfl):PS X (.Assign [.Name y py] (.ListComp elt [⟨.Name x px,iter,[],0⟩] scope pos) spos) (tAsg (tComp1 wi fs te) (gName i)):=
 ps_comp (xs:=[x]) (g:=fun _=>gName 0) (tt:=fun _=>tYes) hN hy hyl hc hok hi (pg_own hok) (fun _=>pts_nil) he hsw hs
end
theorem kept0{x:Option V}{r:St}:Kept (none::r) (x::r):=fun i v e=>by
 cases i with
 | zero=>cases e
 | succ i=>exact e
section
variable {K:PySem.W.Frag} {tail:St} {te:Blk→TE} {Q:VK} {H1:Hp}
noncomputable def CompNext(D:Addr)(n i:Nat)(ys:List V)(Pv:Nat→List V→Hp→Prop):VK:=fun y H4=>H4 D=some (.lst ys)∧ys.length < sizeLine∧∃m',m' < n - i∧(m'=n - (i+1)∧i+1≤n∧Pv (i+1) (ys++[y]) (upd H4 D (.lst (ys++[y]))))
theorem compNext{D:Addr}{n i:Nat}{ys:List V}{Pv:Nat→List V→Hp→Prop}{y:V}{H4:Hp}(h1:H4 D=some (.lst ys))(h2:ys.length < sizeLine)(h3:i < n)(h4:Pv (i+1) (ys++[y]) (upd H4 D (.lst (ys++[y])))):CompNext D n i ys Pv y H4:=
 ⟨h1,h2,n - (i+1),by omega,rfl,h3,h4⟩
theorem comp_by{J:It}(n:Nat)
 (h:∀(b:Blk) (D:Addr),H1 D=none→∃Pv:Nat→List V→Hp→Prop,Pv 0 [] (upd H1 D (.lst []))∧(∀i ys H,Pv i ys H→H D=some (.lst ys))∧(∀ys H,Pv n ys H→J.stop n H∧Q (.ref D) H)∧
  ∀i ys H,i < n→Pv i ys H→J.go i H∧∀x H3,J.yld i H x H3→te b (some x::tail) H3 (CompNext D n i ys Pv)):CompTail (none::tail) (fun _=>gName 0) (fun _=>tYes) te Q J H1:=by
 intro b D hD
 obtain ⟨Pv,p0,p1,p2,p3⟩:=h b D hD
 refine ⟨fun i m ys H=>m=n - i∧i≤n∧Pv i ys H,⟨n,rfl,Nat.zero_le _,p0⟩,?_⟩
 rintro i m ys H ⟨rfl,hi,p⟩
 refine ⟨p1 i ys H p,?_⟩
 by_cases hlt:i < n
 · obtain ⟨go,st⟩:=p3 i ys H hlt p
   refine .inr ⟨go,fun x H3 y=>⟨kept0,?_⟩⟩
   exact st x H3 y
 · have e:i=n:=by omega
   subst e
   exact .inl (p2 ys H p)
theorem same_new{D:Addr}{o:HO}(h:H1 D=none):Same H1 (upd H1 D o):=fun b u e=>by rw [upd_ne (ne_of_none e h)];exact e
theorem compS_pure{z:Str}(f:Nat→V)(hz:z.cps.size≤sizeLine)(he:∀b c H Q',c∈z.cps.toList→Same H1 H→Q' (f c) H→te b (some (.str ⟨#[c]⟩)::tail) H Q')
 (q:∀D,H1 D=none→Q (.ref D) (upd H1 D (.lst (z.cps.toList.map f)))):CompTail (none::tail) (fun _=>gName 0) (fun _=>tYes) te Q (Its z) H1:=by
 refine comp_by z.cps.size (fun b D hD=>⟨fun i ys H=>i≤z.cps.size∧ys=(z.cps.toList.take i).map f∧H=upd H1 D (.lst ys),⟨Nat.zero_le _,rfl,rfl⟩,?_,?_,?_⟩)
 · rintro i ys H ⟨hi,rfl,rfl⟩
   exact upd_same
 · rintro ys H ⟨_,rfl,rfl⟩
   refine ⟨Nat.le_refl _,?_⟩
   have e:z.cps.toList.take z.cps.size=z.cps.toList:=List.take_of_length_le (by simp)
   rw [e];exact q D hD
 · rintro i ys H hi ⟨_,rfl,rfl⟩
   refine ⟨hi,fun x H3 ⟨e3,c,hc,ex⟩=>?_⟩
   subst e3 ex
   have hc':z.cps.toList[i]?=some c:=by simpa using hc
   refine he b c _ _ (List.mem_of_getElem? hc') (same_new hD) (compNext upd_same (by rw [List.length_map,List.length_take,Array.length_toList];omega) hi ⟨hi,?_,?_⟩)
   · rw [List.take_add_one,hc'];simp
   · funext a;by_cases ha:a=D <;> simp [upd,ha]
theorem compL_pure{a:Addr}{xs:List V}(f:V→V)(hS:SqL K H1 a xs)(hz:xs.length≤sizeLine)(he:∀b x H Q',x∈xs→Same H1 H→Q' (f x) H→te b (some x::tail) H Q')
 (q:∀D,H1 D=none→Q (.ref D) (upd H1 D (.lst (xs.map f)))):CompTail (none::tail) (fun _=>gName 0) (fun _=>tYes) te Q (Itl K a) H1:=by
 refine comp_by xs.length (fun b D hD=>⟨fun i ys H=>i≤xs.length∧ys=(xs.take i).map f∧H=upd H1 D (.lst ys),⟨Nat.zero_le _,rfl,rfl⟩,?_,?_,?_⟩)
 · rintro i ys H ⟨hi,rfl,rfl⟩
   exact upd_same
 · rintro ys H ⟨_,rfl,rfl⟩
   refine ⟨⟨xs,(same_new hD).seq hS,Nat.le_refl _⟩,?_⟩
   rw [List.take_length];exact q D hD
 · rintro i ys H hi ⟨_,rfl,rfl⟩
   refine ⟨⟨xs,xs[i],(same_new hD).seq hS,by simp [hi]⟩,fun x H3 ⟨e3,ex⟩=>?_⟩
   subst e3
   have hc':=ex xs ((same_new hD).seq hS)
   refine he b x _ _ (List.mem_of_getElem? hc') (same_new hD) (compNext upd_same (by rw [List.length_map,List.length_take];omega) hi ⟨hi,?_,?_⟩)
   · rw [List.take_add_one,hc'];simp
   · funext a;by_cases ha:a=D <;> simp [upd,ha]
end
section
variable {σ:St} {H:Hp} {Q:VK} {D:Ends} {K:PySem.W.Frag}
theorem rd_comp{wi:TI}{fs:List Nat}{te:Blk→TE}:tComp1 wi fs te σ H Q=wi σ H (CompTail (none::fs.map fun j=>σ.getD j none) (fun _=>gName 0) (fun _=>tYes) te Q):=rfl
theorem rd_istr{tl:TE}{R:It→Hp→Prop}:iStr tl σ H R=tl σ H fun x H1=>∃z,x= .str z∧R (Its z) H1:=rfl
theorem rd_sl{r:V→Option Int→Option Int→Hp→VK→Prop}{te:TE}{tl th:TO}:tSl r te tl th σ H Q=te σ H fun x H1=>tl σ H1 fun l H2=>th σ H2 fun u H3=>r x l u H3 Q:=rfl
theorem rd_noPart{QO:Option Int→Hp→Prop}:tNoPart σ H QO=QO none H:=rfl
theorem rd_part{t:TE}{QO:Option Int→Hp→Prop}:tPart t σ H QO=t σ H fun x H1=>∃i,x= .int i∧QO (some i) H1:=rfl
theorem rd_slS{x:V}{lo hi:Option Int}:rSlS x lo hi H Q=∃z,x= .str z∧z.length≤sizeLine∧Q (.str (Txt.slice z lo hi)) H:=rfl
theorem rd_slL{x:V}{lo hi:Option Int}:rSlL K x lo hi H Q=∃a xs,x= .ref a∧SqL K H a xs∧∀p,H p=none→Q (.ref p) (upd H p (.lst (cutV xs lo hi))):=rfl
theorem rd_bm{T:String}{r:V→List V→Hp→VK→Prop}{to:TE}{t:TA}:tBM K T r to t σ H Q=to σ H fun x H1=>tyV K T x H1∧t σ H1 fun xs H2=>r x xs H2 Q:=rfl
theorem rd_bm0{T:String}{r:V→List V→Hp→VK→Prop}{to:TE}:tBM0 K T r to σ H Q=to σ H fun x H1=>tyV K T x H1∧r x [] H1 Q:=rfl
theorem tyV_str{z:Str}:tyV K "str" (.str z) H=True:=eq_true rfl
theorem rd_join{x:V}{vs:List V}:rJoin K x vs H Q=∃z p ys,x= .str z∧vs=[.ref p]∧SqL K H p (ys.map V.str)∧(ys.map (·.length)).sum+ys.length * z.length≤16777216∧Q (.str (Txt.join z ys)) H:=rfl
theorem rd_find{x:V}{vs:List V}:rFind x vs H Q=∃z y,x= .str z∧vs=[.str y]∧Q (.int (Txt.find z y)) H:=rfl
theorem rd_split{x:V}{vs:List V}:rSplit x vs H Q=∃z y,x= .str z∧vs=[.str y]∧(y.length==0)=false∧z.length+2≤sizeLine∧∀p,H p=none→Q (.ref p) (upd H p (.lst ((Txt.split z y).map V.str))):=rfl
theorem rd_all{xs:List V}:rAll K xs H Q=∃(p:Addr) (bs:List Bool),xs=[.ref p]∧SqL K H p (bs.map V.bl)∧Q (.bl (bs.all id)) H:=rfl
theorem rd_mulS{x y:V}:rMulS x y H Q=∃z n,x= .str z∧y= .int n∧MulOk z n∧Q (.str (Txt.mul z n)) H:=rfl
theorem rd_jnil{acc:Str}{QS:Str→Hp→Prop}:jNil acc σ H QS=QS acc H:=rfl
theorem rd_jcons{te:TE}{tr:TJ}{acc:Str}{QS:Str→Hp→Prop}:jCons te tr acc σ H QS=te σ H fun x H1=>∃y,x= .str y∧(acc++y).length≤sizeLine∧tr (acc++y) σ H1 QS:=rfl
theorem rd_fstr{t:TJ}:tFstr t σ H Q=t Str.empty σ H fun out H1=>out.length≤sizeLine∧Q (.str out) H1:=rfl
theorem rd_fmtR{te:TE}:tFmtR te σ H Q=te σ H fun x H1=>∃z,x= .str z∧(PySem.reprText z).length≤sizeLine∧Q (.str (PySem.reprText z)) H1:=rfl
theorem rd_fmt{te:TE}:tFmt te σ H Q=te σ H fun x H1=>(∃z,x= .str z∧z.length≤sizeLine∧Q (.str z) H1)∨∃i,x= .int i∧i.natAbs.log2 < 1920∧Q (.str (toString i)) H1:=rfl
theorem rd_dnewK:tDNewK σ H Q=∀p,H p=none→Q (.ref p) (upd H p (.dK [])):=rfl
theorem ixS_of{z:Str}{i:Int}{c:Nat}(hz:z.length≤sizeLine)(e:atI z.cps.toList i=some c)(q:Q (.str ⟨#[c]⟩) H):rIxS (.str z) (.int i) H Q:=⟨z,i,c,rfl,rfl,hz,e,q⟩
theorem blk_K{X:Cx}{scope:Scope}{N':List Str}{b:Blk}:(X.blk scope N' b).K=X.K:=rfl
end
section
variable {X:Cx} {x:Str} {pos:Pos}
theorem pe_gint{i:Int}(hg:Gl X x)(hm:∃t,X.mg x=some (.int i t))(hd:(x==("__debug__":Str))=false:=by decide):PE X (.Name x pos) (tC (.int i)):=by
 obtain ⟨t,hm⟩:=hm
 exact pe_glob hg hm ⟨t,rfl⟩ hd
theorem pe_gstr{z:Str}(hg:Gl X x)(hm:∃t,X.mg x=some (.str z t))(hd:(x==("__debug__":Str))=false:=by decide):PE X (.Name x pos) (tC (.str z)):=by
 obtain ⟨t,hm⟩:=hm
 exact pe_glob hg hm ⟨t,rfl⟩ hd
end
theorem line_val:sizeLine=16777216:=by decide
theorem len_app{a b:Str}:(a++b).length=a.length+b.length:=strLen_append a b
theorem len_one{c:Nat}:(⟨#[c]⟩:Str).length=1:=rfl
theorem str_len{z:Str}:z.cps.toList.length=z.length:=by simp [Str.length]
theorem app_list{a b:Str}:(a++b).cps.toList=a.cps.toList++b.cps.toList:=by
 show (a.cps++b.cps).toList=_
 simp
theorem script_go{K:PySem.W.Frag}{H:Hp}{a:Addr}{ns:List Int}{R:List Int→Prop}(h:SqL K H a (ns.map V.int))(hl:ns.length≤63)(q:R ns):∃x:List Int,SqL K H a (x.map V.int)∧x.length≤63∧R x:=⟨ns,h,hl,q⟩
noncomputable def hasS(z y:Str):Bool:=!(Builtin.Str.occurrences z y 0 z.length 1).isEmpty
theorem hasS_one{z:Str}{c:Nat}:hasS z ⟨#[c]⟩=decide (c∈z.cps.toList):=StrLaws.found_one z c
noncomputable def rInS:R2:=fun x y H Q=>∃i j,x= .str i∧y= .str j∧Q (.bl (hasS j i)) H
noncomputable def rNotInS:R2:=fun x y H Q=>∃i j,x= .str i∧y= .str j∧Q (.bl (!hasS j i)) H
theorem op_inS{X:Cx}:OpR X (compareOp .In) rInS:=op_in_str
theorem rd_inS{x y:V}{H:Hp}{Q:VK}:rInS x y H Q=∃i j,x= .str i∧y= .str j∧Q (.bl (hasS j i)) H:=rfl
theorem rd_notinS{x y:V}{H:Hp}{Q:VK}:rNotInS x y H Q=∃i j,x= .str i∧y= .str j∧Q (.bl (!hasS j i)) H:=rfl
theorem at_0{α:Type}{c:α}{r:List α}:atI (c::r) 0=some c:=atI_of (by decide) rfl
end L2
namespace L2
noncomputable def flatEq(xs ys:List V):Bool:=match xs,ys with
 | [],[]=>true
 | x::xs,y::ys=>eqV x y && flatEq xs ys
 | _,_=>false
theorem eqV_str{x y:Str}:eqV (.str x) (.str y)=decide (x=y):=rfl
noncomputable def EqQ(K:PySem.W.Frag)(H:Hp)(x y:V)(r:Bool):Prop:=∃a b xs ys,x= .ref a∧y= .ref b∧((SqL K H a xs∧SqL K H b ys)∨(SqT K H a xs∧SqT K H b ys))∧xs.all flatV=true∧ys.all flatV=true∧r=flatEq xs ys
section
variable {X:Cx} {pins:List (Addr×Obj)} {σ:St} {H:Hp} {s:Shared}
noncomputable def rEqQ(K:PySem.W.Frag):R2:=fun x y H Q=>∃r,EqQ K H x y r∧Q (.bl r) H
noncomputable def rNeQ(K:PySem.W.Frag):R2:=fun x y H Q=>∃r,EqQ K H x y r∧Q (.bl (!r)) H
end
section
variable {K:PySem.W.Frag} {H:Hp} {Q:VK} {x y:V}
theorem rd_eqQ:rEqQ K x y H Q=∃r,EqQ K H x y r∧Q (.bl r) H:=rfl
theorem rd_neQ:rNeQ K x y H Q=∃r,EqQ K H x y r∧Q (.bl (!r)) H:=rfl
theorem all_strs{xs:List Str}:(xs.map V.str).all flatV=true:=by
 rw [List.all_map]
 exact List.all_eq_true.mpr fun _ _=>rfl
end
end L2
namespace L2
structure DefM(P:Program)(w:World)(K:PySem.W.Frag)(mg:Str→Option Value)(base:Heap)(CX:CXT)(k:Nat)(C:Addr)(m:Str)(ps:List Str)(sp:Sp):Prop where
 ex:∃(f:Addr) (fd:FuncData),FnOk P w K mg base CX k f fd ps sp∧Meth K C m f∧Binds K fd ps []
structure DefI(P:Program)(w:World)(K:PySem.W.Frag)(mg:Str→Option Value)(base:Heap)(CX:CXT)(k:Nat)(x:Str)(C:Addr)(ps:List Str)(sp:Sp):Prop where
 ex:∃(f:Addr) (fd:FuncData),FnOk P w K mg base CX k f fd ps sp∧Mk K C f∧mg x=some (.ref C)∧Binds K fd ps []
noncomputable def tMethE(C:Addr)(m:Str)(sp:Sp)(EE:St→XK)(ta:TE)(t:TA):TE:=fun σ H Q=>ta σ H fun x H1=>∃a dx fs,x= .ref a∧H1 a=some (.ins C dx fs)∧fs.lookup m=none∧t σ H1 fun vs H2=>sp (x::vs) H2 Q (EE σ)
noncomputable def tMakeE(C:Addr)(sp:Sp)(EE:St→XK)(t:TA):TE:=fun σ H Q=>t σ H fun vs H1=>∀x dx,H1 x=none→H1 dx=none→dx≠x→sp (.ref x::vs) (upd (upd H1 dx (.own x)) x (.ins C dx [])) (fun v H2=>v= .non∧Q (.ref x) H2) (EE σ)
section
variable {X:Cx} {CX:CXT} {k j:Nat} {f C:Addr} {fd:FuncData} {ps:List Str} {sp:Sp} {EE:St→XK} {E:XK} {x m:Str} {p pos apos:Pos} {e o:Expr} {es:List Expr} {ta:TE} {t:TA}
theorem passS(h:Passes CX X E):PassesS CX X fun _=>E:=fun pins σ H s e s' I hc=>h pins σ H s e s' I hc
theorem run_fnS{pins:List (Addr×Obj)}{σ:St}{H:Hp}{s:Shared}{Q:VK}{us:List Value}{vs:List V}(F:FnOk X.prog X.w X.K X.mg X.base CX k f fd ps sp)(hr:Room k X.A)(hb:Binds X.K fd ps [])(hx:PassesS CX X EE)
 (I:Inv X pins σ H s) (r:Vals vs us) (h:sp vs H Q (EE σ)):wpAny (model X.prog X.w) X.A (call (.ref f) us) (EP X pins σ Q) X.xe s:=by
 have hl:us.length=ps.length:=by rw [← r.length];exact F.len _ _ _ _ h
 have hb':=hb s us I.kIn (by simpa using hl)
 rw [List.append_nil]at hb'
 refine wpAny_call (codeAny_mono (F.run X.A X.stack s H ⟨us,[]⟩ us vs Q (EE σ) hr I.env0 hb' r h) fun r s' hq=>?_)
 cases r with
 | error e=>exact hx pins σ H s e s' I hq
 | ok fl=>
  cases fl with
  | ret u=>exact I.after hq
  | next=>exact False.elim hq
  | brk=>exact False.elim hq
  | cont=>exact False.elim hq
theorem pe_methS{pl:Sem Bool}(D:DefM X.prog X.w X.K X.mg X.base CX j C m ps sp)(c:Cls X.K C)(hr:Room k X.A)(hx:PassesS CX X EE)(he:PE X o ta)(ha:PA X (e::es) t)(hj:j≤k:=by decide)
 (hst:starEach (e::es) X.env=(false,eval e X.env)::starEach es X.env:=by rfl) (hpl:(backTo pos (starEach es X.env)).any (·.1)=false:=by rfl)
 (ht:eval (.Call (.Attribute o m apos) (e::es) [] pos) X.env=(do
  let ov ← eval o X.env
  standAt apos.atName
  let (f,first) ← holding [ov] (getMethod ov m pl)
  callWith pos f first (backTo pos (starEach (e::es) X.env)) (backToKw pos (keywordEach [] X.env))):=by rfl):
 PE X (.Call (.Attribute o m apos) (e::es) [] pos) (tMethE C m sp EE ta t):=by
 obtain ⟨f,fd,F,hm,hb⟩:=D.ex
 intro pins s σ H Q I h
 refine PySem.W.methodCall_KW (pl:=pl) (thn (he pins s σ H _ I h) fun u s1 hq_=>?_) ht
 obtain ⟨x,H1,I1,rx,a,dx,fs,ex,ea,l,q⟩:=hq_
 subst ex
 obtain rfl:u=Value.ref a:=rx
 refine getmeth_ok I1 ea c hm l ?_
 refine PySem.W.callWith_K (first:=[.ref a]) (h₀:=X.base) I.ok.mod.kin hm.kp (thn (ha pos pins s1 σ H1 _ I1 q) fun us s2 ⟨vs,H2,I2,r,q2⟩=>⟨I2.kIn,?_⟩) hst hpl
 exact run_fnS (us:= .ref a::us) (vs:= .ref a::vs) (F.mono hj) hr hb hx I2 (.cons rfl r) q2
theorem pe_makeS(D:DefI X.prog X.w X.K X.mg X.base CX j x C ps sp)(hr:Room k X.A)(hg:Gl X x)(hx:PassesS CX X EE)(ha:PA X (e::es) t)(hj:j+1≤k:=by decide)(hdb:(x==("__debug__":Str))=false:=by decide)
 (he:starEach (e::es) X.env=(false,eval e X.env)::starEach es X.env:=by rfl) (hpl:(backTo pos (starEach es X.env)).any (·.1)=false:=by rfl):
 PE X (.Call (.Name x p) (e::es) [] pos) (tMakeE C sp EE t):=by
 obtain ⟨f,fd,F,M,hm,hb⟩:=D.ex
 intro pins s0 σ H0 Q I0 h
 refine wpAny_Call_Name_kw (ld_glob I0 hg hm ?_ hdb)
 refine PySem.W.callWith_K (h₀:=X.base) I0.ok.mod.kin M.kp (thn (ha pos pins s0 σ H0 _ I0 h) fun us s ⟨vs,H,I,r,q⟩=>⟨I.kIn,?_⟩) he hpl
 have hq:=q (s.heap.objs.size+1) s.heap.objs.size (I.hok.fresh (Nat.le_succ _)) (I.hok.fresh (Nat.le_refl _)) (Nat.ne_of_lt (Nat.lt_succ_self _))
 have I2:=Inv.made (C:=C) I
 have r2:Vals (V.ref (s.heap.objs.size+1)::vs) (Value.ref (s.heap.objs.size+1)::us):= .cons rfl r
 have hl:(Value.ref (s.heap.objs.size+1)::us).length=ps.length:=by
  rw [← r2.length];exact F.len _ _ _ _ hq
 have hb':=fun s' (h':X.K.In s'.heap)=>hb s' (Value.ref (s.heap.objs.size+1)::us) h' (by simpa using hl)
 have hr':Room (j+1) X.A:=hr.mono hj
 refine wpAny_call (make_map (f:=f) I.kIn M.makes M.init (beq_iff_eq.mp M.fn) (codeAny_mono (F.run _ X.stack _ _ ⟨Value.ref (s.heap.objs.size+1)::us,[]⟩ (Value.ref (s.heap.objs.size+1)::us) _ _ (EE σ) (hr'.make C us [])
  (I2.env0.make C us []) (by have:=hb' _ I2.kIn;rw [List.append_nil]at this;exact this) r2 hq) fun r s' hq'=>?_))
 cases r with
 | error e=>exact hx pins σ _ _ e s' I2 hq'
 | ok fl=>
  cases fl with
  | ret u=>
   obtain ⟨v,H',I3,rv,ev,q3⟩:=I2.after hq'
   subst ev
   exact ⟨rv,⟨V.ref (s.heap.objs.size+1),H',I3,rfl,q3⟩⟩
  | next=>exact False.elim hq'
  | brk=>exact False.elim hq'
  | cont=>exact False.elim hq'
end
section
variable {σ:St} {H:Hp} {Q:VK} {D:Ends} {K:PySem.W.Frag}
theorem rd_methE{C:Addr}{m:Str}{sp:Sp}{EE:St→XK}{ta:TE}{t:TA}:tMethE C m sp EE ta t σ H Q=ta σ H fun x H1=>∃a dx fs,x= .ref a∧H1 a=some (.ins C dx fs)∧fs.lookup m=none∧t σ H1 fun vs H2=>sp (x::vs) H2 Q (EE σ):=rfl
theorem rd_makeE{C:Addr}{sp:Sp}{EE:St→XK}{t:TA}:tMakeE C sp EE t σ H Q=t σ H fun vs H1=>∀x dx,H1 x=none→H1 dx=none→dx≠x→sp (.ref x::vs) (upd (upd H1 dx (.own x)) x (.ins C dx [])) (fun v H2=>v= .non∧Q (.ref x) H2) (EE σ):=rfl
theorem rd_fld{ta:TE}{f:Str}:tFld K ta f σ H Q=ta σ H fun x H1=>∃a C dx fs v,x= .ref a∧H1 a=some (.ins C dx fs)∧Cls K C∧NoAttr K C f∧fs.lookup f=some v∧Q v H1:=rfl
theorem rd_sfld{ta tv:TE}{f:Str}:sFld K ta tv f D σ H=tv σ H fun y H1=>ta σ H1 fun x H2=>∃a C dx fs,x= .ref a∧H2 a=some (.ins C dx fs)∧Cls K C∧NoAttr K C f∧fs.length < 1000∧D.nx σ (upd H2 a (.ins C dx (putF f y fs))):=rfl
theorem rd_din{ty td:TE}:tDIn ty td σ H Q=ty σ H fun y H1=>td σ H1 fun x H2=>∃a o,x= .ref a∧DGet H2 a y o∧Q (.bl o.isSome) H2:=rfl
theorem rd_dnotin{ty td:TE}:tDNotIn ty td σ H Q=ty σ H fun y H1=>td σ H1 fun x H2=>∃a o,x= .ref a∧DGet H2 a y o∧Q (.bl (!o.isSome)) H2:=rfl
theorem rd_dget{td ty:TE}:tDGet td ty σ H Q=td σ H fun x H1=>ty σ H1 fun y H2=>∃a v,x= .ref a∧DGet H2 a y (some v)∧Q v H2:=rfl
theorem rd_dput{td ty tv:TE}:sDPut td ty tv D σ H=tv σ H fun v H1=>td σ H1 fun x H2=>ty σ H2 fun y H3=>∃a H4,x= .ref a∧DPut H3 a y v H4∧D.nx σ H4:=rfl
theorem rd_gtup{n:Nat}{t:TGs}{v:V}{N:St→Hp→Prop}:gTup K n t v σ H N=∃a xs,v= .ref a∧SqT K H a xs∧xs.length=n∧t xs σ H N:=rfl
end
theorem le_app{a b:Str}{n:Nat}(h1:a.length≤n / 2)(h2:b.length≤n / 2):(a++b).length≤n:=by
 rw [len_app];omega
end L2
namespace L2
open PySem.W
noncomputable def rMaxL(K:PySem.W.Frag):List V→Hp→VK→Prop:=fun xs H Q=>∃(p:Addr) (is:List Int),xs=[.ref p]∧SqL K H p (is.map V.int)∧is≠[]∧∀v∈is,(∀x∈is,x≤v)→Q (.int v) H
noncomputable def rMinL(K:PySem.W.Frag):List V→Hp→VK→Prop:=fun xs H Q=>∃(p:Addr) (is:List Int),xs=[.ref p]∧SqL K H p (is.map V.int)∧is≠[]∧∀v∈is,(∀x∈is,v≤x)→Q (.int v) H
theorem best_gt(val:Nat→Int):∀k,argBest (fun i j=>decide (val i > val j)) k≤k∧∀j,j≤k→val j≤val (argBest (fun i j=>decide (val i > val j)) k):=by
 intro k
 induction k with
 | zero=>exact ⟨Nat.le_refl _,fun j hj=>by rw [Nat.le_zero.mp hj];exact Int.le_refl _⟩
 | succ k ih=>
  unfold argBest
  split
  · rename_i h
    have h:=of_decide_eq_true h
    refine ⟨Nat.le_refl _,fun j hj=>?_⟩
    by_cases e:j=k+1
    · rw [e];exact Int.le_refl _
    · have:=ih.2 j (by omega);omega
  · rename_i h
    have h:¬(val (k+1) > _):=fun z=>h (decide_eq_true z)
    refine ⟨Nat.le_succ_of_le ih.1,fun j hj=>?_⟩
    by_cases e:j=k+1
    · rw [e];omega
    · exact ih.2 j (by omega)
theorem best_lt(val:Nat→Int):∀k,argBest (fun i j=>decide (val i < val j)) k≤k∧∀j,j≤k→val (argBest (fun i j=>decide (val i < val j)) k)≤val j:=by
 intro k
 induction k with
 | zero=>exact ⟨Nat.le_refl _,fun j hj=>by rw [Nat.le_zero.mp hj];exact Int.le_refl _⟩
 | succ k ih=>
  unfold argBest
  split
  · rename_i h
    have h:=of_decide_eq_true h
    refine ⟨Nat.le_refl _,fun j hj=>?_⟩
    by_cases e:j=k+1
    · rw [e];exact Int.le_refl _
    · have:=ih.2 j (by omega);omega
  · rename_i h
    have h:¬(val (k+1) < _):=fun z=>h (decide_eq_true z)
    refine ⟨Nat.le_succ_of_le ih.1,fun j hj=>?_⟩
    by_cases e:j=k+1
    · rw [e];omega
    · exact ih.2 j (by omega)
section
variable {X:Cx}
theorem ints_at{is:List Int}{its:List Value}(r:Vals (is.map V.int) its){i:Nat}{v:Value}(hP:its.toArray[i]?=some v):i < is.length∧∃t,v=Value.int (is.getD i 0) t:=by
 have hlen:=r.length
 rw [List.length_map]at hlen
 have hi:i < is.length:=by
  have:=(Array.getElem?_eq_some_iff.mp hP).1
  rw [List.size_toArray]at this
  omega
 obtain ⟨u,hu,ru⟩:=r.get (i:=i) (x:=V.int (is[i])) (by simp [hi])
 have e:u=v:=by
  have:its[i]?=some v:=by simpa using hP
  rw [hu]at this;exact Option.some.inj this
 subst e
 refine ⟨hi,?_⟩
 rw [List.getD_eq_getElem?_getD,List.getElem?_eq_getElem hi]
 exact ru
theorem call_maxL(hc:X.calm=true):CallR X (.builtin "max") (rMaxL X.K):=by
 intro pins s σ H xs us Q I r h
 obtain ⟨p,is,rfl,hp,hne,q⟩:=h
 obtain ⟨u,rfl,ru⟩:=vals1 r
 cases ru
 obtain ⟨its,r,pl,hz⟩:=I.list hp
 have hlt:p < s.heap.objs.size:=by obtain ⟨o,n,e,_⟩:=pl;exact Heap.lt_size e
 have hlen:=r.length
 rw [List.length_map]at hlen
 have hpos:0 < is.length:=List.length_pos_iff.mpr hne
 have hb:=best_gt (fun i=>is.getD i 0) (is.length - 1)
 refine call_max_walkS (wpAny_pyIter_list pl.isList ⟨s.heap.objs.size,_,_,_,_,_,_,fun i j=>decide (is.getD i 0 > is.getD j 0),rfl,(Walks.list (show X.A.in1.handled=none from I.ok.hd hc) s.heap.objs.size p (Nat.ne_of_lt hlt) its.toArray).toS,⟨⟨_,Heap.get?_push_size _ rfl,rfl,rfl⟩,pl.isList.push _⟩,fun b hb=>?_,by rw [List.size_toArray];omega,CmpOf.ints_gt (fun i=>is.getD i 0) (fun i v hP=>(ints_at r hP).2),fun v s' hP hmv=>?_⟩)
 · show b < (s.heap.push _).objs.size
   rw [Heap.size_push]
   rcases List.mem_cons.mp hb with e | hb
   · rw [e];exact Nat.lt_succ_self _
   · rw [List.mem_singleton.mp hb];exact Nat.lt_succ_of_lt hlt
 · have hk:∀b o,s.heap.get? b=some o→s'.heap.get? b=some o:=fun b o e=>
    hmv.heap b o (fun hI=>absurd (Heap.lt_size e) (by rw [List.mem_singleton.mp hI];exact Nat.lt_irrefl _)) (Heap.get?_push_of_some _ e)
   rw [Moved.eq_with hmv]
   rw [List.size_toArray,← hlen]at hP
   obtain ⟨hi,t,rfl⟩:=ints_at r hP
   refine ⟨V.int _,H,I.kept (t':=s'.toks) hk,⟨t,rfl⟩,q _ ?_ fun x hx=>?_⟩
   · rw [List.getD_eq_getElem?_getD,List.getElem?_eq_getElem hi];exact List.getElem_mem hi
   · obtain ⟨j,hj⟩:=List.mem_iff_getElem?.mp hx
     have hjl:=(List.getElem?_eq_some_iff.mp hj).1
     have:=hb.2 j (by omega)
     rw [show is.getD j 0=x by rw [List.getD_eq_getElem?_getD,hj];rfl]at this
     exact this
theorem call_minL(hc:X.calm=true):CallR X (.builtin "min") (rMinL X.K):=by
 intro pins s σ H xs us Q I r h
 obtain ⟨p,is,rfl,hp,hne,q⟩:=h
 obtain ⟨u,rfl,ru⟩:=vals1 r
 cases ru
 obtain ⟨its,r,pl,hz⟩:=I.list hp
 have hlt:p < s.heap.objs.size:=by obtain ⟨o,n,e,_⟩:=pl;exact Heap.lt_size e
 have hlen:=r.length
 rw [List.length_map]at hlen
 have hpos:0 < is.length:=List.length_pos_iff.mpr hne
 have hb:=best_lt (fun i=>is.getD i 0) (is.length - 1)
 refine call_min_walkS (wpAny_pyIter_list pl.isList ⟨s.heap.objs.size,_,_,_,_,_,_,fun i j=>decide (is.getD i 0 < is.getD j 0),rfl,(Walks.list (show X.A.in1.handled=none from I.ok.hd hc) s.heap.objs.size p (Nat.ne_of_lt hlt) its.toArray).toS,⟨⟨_,Heap.get?_push_size _ rfl,rfl,rfl⟩,pl.isList.push _⟩,fun b hb=>?_,by rw [List.size_toArray];omega,CmpOf.ints_lt (fun i=>is.getD i 0) (fun i v hP=>(ints_at r hP).2),fun v s' hP hmv=>?_⟩)
 · show b < (s.heap.push _).objs.size
   rw [Heap.size_push]
   rcases List.mem_cons.mp hb with e | hb
   · rw [e];exact Nat.lt_succ_self _
   · rw [List.mem_singleton.mp hb];exact Nat.lt_succ_of_lt hlt
 · have hk:∀b o,s.heap.get? b=some o→s'.heap.get? b=some o:=fun b o e=>
    hmv.heap b o (fun hI=>absurd (Heap.lt_size e) (by rw [List.mem_singleton.mp hI];exact Nat.lt_irrefl _)) (Heap.get?_push_of_some _ e)
   rw [Moved.eq_with hmv]
   rw [List.size_toArray,← hlen]at hP
   obtain ⟨hi,t,rfl⟩:=ints_at r hP
   refine ⟨V.int _,H,I.kept (t':=s'.toks) hk,⟨t,rfl⟩,q _ ?_ fun x hx=>?_⟩
   · rw [List.getD_eq_getElem?_getD,List.getElem?_eq_getElem hi];exact List.getElem_mem hi
   · obtain ⟨j,hj⟩:=List.mem_iff_getElem?.mp hx
     have hjl:=(List.getElem?_eq_some_iff.mp hj).1
     have:=hb.2 j (by omega)
     rw [show is.getD j 0=x by rw [List.getD_eq_getElem?_getD,hj];rfl]at this
     exact this
end
section
variable {K:PySem.W.Frag} {H:Hp} {Q:VK} {xs:List V}
theorem rd_maxL:rMaxL K xs H Q=∃(p:Addr) (is:List Int),xs=[.ref p]∧SqL K H p (is.map V.int)∧is≠[]∧∀v∈is,(∀x∈is,x≤v)→Q (.int v) H:=rfl
theorem rd_minL:rMinL K xs H Q=∃(p:Addr) (is:List Int),xs=[.ref p]∧SqL K H p (is.map V.int)∧is≠[]∧∀v∈is,(∀x∈is,v≤x)→Q (.int v) H:=rfl
end
end L2
namespace L2
noncomputable def btK(kf:Nat→List Int):Nat→Nat→Bool:=fun i j=>HT.lexLt (kf i) (kf j)
end L2
namespace L2
section
variable {prog:Program} {w:World} {A:Around} {R:Result→Shared→Prop} {I:Addr} {fp wr:List Addr} {n:Nat} {P:Nat→Value→Prop} {St:Nat→Heap→Prop} {d:Value}
noncomputable abbrev dfl(d:Value):List (Str×Value):=[(Str.ofString "default",d)]
end
theorem args_minD(a v:Value):argsOk "min" ⟨[a],[(Str.ofString "default",v)]⟩:=by unfold argsOk;kernel_rfl
end L2
namespace L2
open Sem (wp)
section
variable {Pg:Program} {w:World} {A:Around} {E:Value→Shared→Prop} {h:Heap} {g:Array GenState} {d:Drawn} {t:Nat} {os:OsState}
variable {nm q:Str} {C N:Addr} {bs bm bmB:List Value} {hd:Bool} {sn:List Str} {su:List Value} {ab:Bool} {co:Option Bool} {dd:Option Addr} {k0 k1 k2 k3 k5:Option Value} {B nw ni:String}
noncomputable abbrev bareExc(h:Heap)(C:Addr):Obj:={cls:= .ref C,data:= .fields #[.ref h.objs.size,.none,.none,.none,.bool false,.none]}
noncomputable abbrev twoMore(h:Heap)(C:Addr)(rest:List Value):Heap:=(h.push {cls:= .type "tuple",data:= .seq rest.toArray}).push (bareExc h C)
theorem keep2{rest:List Value}:∀b o,h.get? b=some o→(twoMore h C rest).get? b=some o:=fun _ _ e=>Heap.get?_push_of_some _ (Heap.get?_push_of_some _ e)
end
end L2
namespace L2
theorem kV_of{P:Program}{w:World}{k:Key}{u:Value}(h:(mixKind P w).is k u=true):RelV (kV k) u:=by
 cases k with
 | inl i=>
  cases u <;> first | (exact absurd h (by intro z;cases z)) | skip
  rename_i j t
  have e:j=i:=by simpa [mixKind,keyIs,Value.isInt] using h
  exact ⟨t,by rw [e]⟩
 | inr x=>
  cases u <;> first | (exact absurd h (by intro z;cases z)) | skip
  rename_i j t
  have e:j=x:=by simpa [mixKind,keyIs,Value.isStrOf] using h
  exact ⟨t,by rw [e]⟩
theorem vals_get:∀{xs:List V} {us:List Value},Vals xs us→∀{i:Nat} {u:Value},us[i]?=some u→∃x,xs[i]?=some x∧RelV x u
 | _,_,.cons r t,0,u,e=>by cases e;exact ⟨_,rfl,r⟩
 | _,_,.cons r t,i+1,u,e=>vals_get t (i:=i) e
theorem paired_get{α β:Type}{F:α→β→Prop}:∀{l:List α} {m:List β},Paired F l m→∀{i:Nat} {b:β},m[i]?=some b→∃a,l[i]?=some a∧F a b
 | _,_,.cons r t,0,b,e=>by cases e;exact ⟨_,rfl,r⟩
 | _,_,.cons r t,i+1,b,e=>paired_get t (i:=i) e
theorem erase_map{α β:Type}(f:α→β):∀(l:List α) (i:Nat),(l.map f).eraseIdx i=(l.eraseIdx i).map f
 | [],_=>rfl
 | _::_,0=>rfl
 | a::l,i+1=>by rw [List.map_cons,List.eraseIdx_cons_succ,List.eraseIdx_cons_succ,List.map_cons,erase_map f l i]
theorem erase_at(z:Str):∀l:List Str,l.eraseIdx (l.idxOf z)=l.erase z
 | []=>rfl
 | a::l=>by
  by_cases h:a=z
  · subst h;simp
  · have e:(a::l).idxOf z=l.idxOf z+1:=by rw [List.idxOf_cons,show (a==z)=false from beq_false_of_ne h];rfl
    rw [e,List.eraseIdx_cons_succ,erase_at z l,List.erase_cons_tail (by simpa using h)]
noncomputable def viewO(v d:Addr):HO:= .ext fun h=>h.IsValuesView v d
theorem preSum_eq:∀(is:List Int),preSum (fun i=>is.getD i 0) is.length=is.sum:=by
 intro is
 have key:∀n,n≤is.length→preSum (fun i=>is.getD i 0) n=(is.take n).sum:=by
  intro n
  induction n with
  | zero=>intro _;rfl
  | succ n ih=>
   intro h
   have e:is.take (n+1)=is.take n++[is.getD n 0]:=by
    rw [List.take_add_one,List.getD_eq_getElem?_getD,List.getElem?_eq_getElem (by omega)]
    rfl
   rw [preSum,ih (by omega),e,List.sum_append]
   simp
 have:=key is.length (Nat.le_refl _)
 rwa [List.take_length]at this
noncomputable def rValues:V→List V→Hp→VK→Prop:=fun x vs H Q=>∃a kvs,x= .ref a∧vs=[]∧H a=some (.dK kvs)∧∀v,H v=none→Q (.ref v) (upd H v (viewO v a))
noncomputable def rSumV:List V→Hp→VK→Prop:=fun xs H Q=>∃(v d:Addr) (kvs:List (Key×V)) (is:List Int),xs=[.ref v]∧H v=some (viewO v d)∧H d=some (.dK kvs)∧kvs.map (·.2)=is.map V.int∧Q (.int is.sum) H
noncomputable def rRemove:V→List V→Hp→VK→Prop:=fun x vs H Q=>∃(l:Addr) (ys:List Str) (z:Str),x= .ref l∧vs=[.str z]∧H l=some (.lst (ys.map V.str))∧z∈ys∧Q .non (upd H l (.lst ((ys.erase z).map V.str)))
section
variable {X:Cx}
theorem mt_values:MtM X "dict.values" rValues:=by
 intro pins s σ H x vs v us Q I rx rv h
 obtain ⟨a,kvs,rfl,rfl,ha,q⟩:=h
 cases rx
 have hus:=rv.zero
 subst hus
 obtain ⟨z,lo,ws,rel,dd⟩:=I.hok a _ ha
 refine call_meetsIn PySem.F.slot_dict_values dd.typeIs PySem.F.entry_dict_values (PySem.F.args_dict_values_1 _) (meets_dict_values (mixKind X.prog X.w) a lo) ⟨⟨ws,dd⟩,?_⟩
 refine ⟨.ref s.heap.objs.size,_,I.laid (t':=s.toks) (fun b o e=>Heap.get?_push_of_some _ e) (Nat.le_refl _) (show ObjOk X.prog X.w _ _ _ (viewO s.heap.objs.size a) from ⟨⟨_,Heap.get?_push_size _ rfl,rfl,rfl⟩,⟨_,Heap.get?_push_size _ rfl⟩,fun h1 h2 ⟨o,e1,e2⟩ k=>⟨o,k _ e1,e2⟩⟩),rfl,q _ I.fresh⟩
theorem call_sumV(hc:X.calm=true):CallR X (.builtin "sum") rSumV:=by
 intro pins s σ H xs us Q I r h
 obtain ⟨v,d,kvs,is,rfl,hv,hd,hm,q⟩:=h
 obtain ⟨u,rfl,rx⟩:=vals1 r
 cases rx
 obtain ⟨z,lo,ws,rel,ob,es,ep,e1,e2⟩:=I.hok d _ hd
 have dat:s.heap.DictAt (mixKind X.prog X.w) d ws ep:=⟨ob,es,e1,e2⟩
 have hvw:s.heap.IsValuesView v d:=(I.hok v _ hv).1
 have src:=PySem.W.kdl_values (prog:=X.prog) (w:=X.w) (r:=v) (d:=d) (knd:=mixKind X.prog X.w) (kvs:=ws) (ep:=ep)
 have hlen:ws.length=is.length:=by
  have:=congrArg List.length hm
  simp only [List.length_map]at this
  rw [← rel.length];exact this
 refine call_sum_walkAnyS ?_
 obtain ⟨oI,St,hit,W,st⟩:=src.iter X.A.in1 s (I.ok.hd hc) ⟨hvw,dat⟩
 refine hit _ _ ⟨s.heap.objs.size,_,_,_,_,_,_,fun i=>is.getD i 0,rfl,W.toS,st,fun b hb=>?_,fun i u hp=>?_,fun s' t' hmv=>?_⟩
 · show b < (s.heap.push oI).objs.size
   rw [size_push']
   rcases List.mem_cons.mp hb with e | hb
   · rw [e];exact Nat.lt_succ_self _
   · rw [List.mem_singleton.mp hb];exact Nat.lt_succ_of_lt (Heap.lt_size e1)
 · obtain ⟨k,ek⟩:=hp
   obtain ⟨p,ep',hp'⟩:=paired_get rel ek
   have e3:(kvs.map (·.2))[i]?=some p.2:=by rw [List.getElem?_map,ep'];rfl
   rw [hm,List.getElem?_map]at e3
   cases hi:is[i]? with
   | none=>rw [hi]at e3;cases e3
   | some n=>
    rw [hi]at e3
    have e4:V.int n=p.2:=Option.some.inj e3
    have r2:=hp'.2
    rw [← e4]at r2
    show ∃t,u=Value.int (is.getD i 0) t
    rw [List.getD_eq_getElem?_getD,hi]
    exact r2
 · have hk:∀b o,s.heap.get? b=some o→s'.heap.get? b=some o:=fun b o e=>
    hmv.heap b o (fun hI=>absurd (Heap.lt_size e) (by rw [List.mem_singleton.mp hI];exact Nat.lt_irrefl _)) (Heap.get?_push_of_some _ e)
   rw [Moved.eq_with hmv]
   refine ⟨.int is.sum,H,I.kept (t':=s'.toks) hk,⟨t',?_⟩,q⟩
   rw [hlen,preSum_eq]
theorem mt_remove:MtM X "list.remove" rRemove:=by
 intro pins s σ H x vs v us Q I rx rv h
 obtain ⟨l,ys,z,rfl,rfl,hH,hz,q⟩:=h
 cases rx
 obtain ⟨u,rfl,ru⟩:=rv.one
 obtain ⟨t,rfl⟩:=ru
 obtain ⟨hs,its,n,r,hl,e⟩:=I.lstM hH
 have hj:ys.idxOf z < ys.length:=List.idxOf_lt_length_iff.mpr hz
 have at_:∀(m:Nat) (u:Value),its[m]?=some u→∃y t,ys[m]?=some y∧u= .str y t:=fun m u em=>by
  obtain ⟨x,ex,rx⟩:=vals_get r em
  rw [List.getElem?_map]at ex
  cases hy:ys[m]? with
  | none=>rw [hy]at ex;cases ex
  | some y=>
   rw [hy]at ex
   cases ex
   obtain ⟨t,e⟩:=rx
   exact ⟨y,t,rfl,e⟩
 have ev:∀y,y∈its.toArray→MeetsSeq.EqGives y (.str z t) (PyProof.Rows.isStrOf z y):=fun y hy=>by
  obtain ⟨m,hm⟩:=List.mem_iff_getElem?.mp (by simpa using hy)
  obtain ⟨y',t',_,rfl⟩:=at_ m y hm
  exact eqGives_str y' z t' t
 have hit:∀(m:Nat) (hm:m < its.toArray.size),∃y t,ys[m]?=some y∧its.toArray[m]= .str y t:=fun m hm=>at_ m _ (by simp)
 refine call_meets F.slot_list_remove ⟨_,e,rfl⟩ F.entry_list_remove (F.args_list_remove_2 _ _) (MeetsSeq.list_remove l its.toArray n (.str z t) (isStrOf z) ev (ys.idxOf z) (by rw [List.size_toArray,← hl,List.length_map];exact hj) ?_ ?_ (by rw [List.size_toArray];omega)) ⟨e,?_⟩
 · obtain ⟨y,t',h1,h2⟩:=hit (ys.idxOf z) (by rw [List.size_toArray,← hl,List.length_map];exact hj)
   rw [h2]
   have e3:ys[ys.idxOf z]?=some z:=by rw [List.getElem?_eq_getElem hj,List.getElem_idxOf hj]
   rw [e3]at h1;cases h1
   simp [isStrOf]
 · intro m hm hlt
   obtain ⟨y,t',h1,h2⟩:=hit m hm
   rw [h2]
   have e3:(ys[m]'(by omega)==z)=false:=List.not_of_lt_findIdx hlt
   rw [List.getElem?_eq_getElem (by omega)]at h1
   cases h1
   exact e3
 · refine ⟨.non,_,I.lset (its':=its.eraseIdx (ys.idxOf z)) hH e ?_ (ys:=(ys.erase z).map V.str) ?_ ?_,rfl,q⟩
   · rw [List.eraseIdxIfInBounds_toArray]
   · have:=r.eraseIdx (ys.idxOf z)
     have e5:(ys.map V.str).eraseIdx (ys.idxOf z)=(ys.erase z).map V.str:=by
      rw [erase_map,erase_at]
     rw [e5]at this
     exact this
   · have:=List.length_erase_le (a:=z) (l:=ys)
     rw [List.length_map]at hs ⊢
     omega
end
section
variable {σ:St} {H:Hp} {Q:VK} {xs:List V} {x y:V}
theorem rd_popAt:rPopAt x xs H Q=∃l ys i k y,x= .ref l∧xs=[.int i]∧H l=some (.lst ys)∧-(2 ^ 63)≤i∧i < 2 ^ 63∧seqIndex? i ys.length=some k∧ys[k]?=some y∧Q y (upd H l (.lst (ys.eraseIdx k))):=rfl
theorem rd_values:rValues x xs H Q=∃a kvs,x= .ref a∧xs=[]∧H a=some (.dK kvs)∧∀v,H v=none→Q (.ref v) (upd H v (viewO v a)):=rfl
theorem rd_sumV:rSumV xs H Q=∃(v d:Addr) (kvs:List (Key×V)) (is:List Int),xs=[.ref v]∧H v=some (viewO v d)∧H d=some (.dK kvs)∧kvs.map (·.2)=is.map V.int∧Q (.int is.sum) H:=rfl
theorem rd_remove:rRemove x xs H Q=∃(l:Addr) (ys:List Str) (z:Str),x= .ref l∧xs=[.str z]∧H l=some (.lst (ys.map V.str))∧z∈ys∧Q .non (upd H l (.lst ((ys.erase z).map V.str))):=rfl
end
end L2
namespace N1
open PySem L2
noncomputable def letters:List Nat:=List.range' 97 26
noncomputable def figures:List Nat:=List.range' 48 10
theorem let_list:(Str.ofString "abcdefghijklmnopqrstuvwxyz").cps.toList=letters:=by decide+kernel
theorem fig_list:(Str.ofString "0123456789").cps.toList=figures:=by decide+kernel
theorem both_list:(Str.ofString "abcdefghijklmnopqrstuvwxyz0123456789").cps.toList=letters++figures:=by decide+kernel
theorem both_len:(letters++figures).length=36:=by decide
noncomputable def headIn(l:List Nat)(s:List Nat):Bool:=match l with
 | []=>false
 | c::_=>decide (c∈s)
noncomputable def nameB(l:List Nat):Bool:=decide (1≤l.length) && decide (l.length≤8) && headIn l letters && l.all fun c=>decide (c∈letters++figures)
end N1
namespace N1
open PySem L2
noncomputable def tx(l:List Nat):Str:=⟨l.toArray⟩
theorem T_list{l:List Nat}:(tx l).cps.toList=l:=by simp [tx]
theorem T_eq{z:Str}:tx z.cps.toList=z:=by cases z;simp [tx]
theorem T_inj{a b:List Nat}(h:tx a=tx b):a=b:=by rw [← T_list (l:=a),h,T_list]
theorem T_app{a b:List Nat}:tx a++tx b=tx (a++b):=by
 have h:=app_list (a:=tx a) (b:=tx b)
 rw [T_list,T_list]at h
 rw [← T_eq (z:=tx a++tx b),h]
theorem T_len{l:List Nat}:(tx l).length=l.length:=by rw [← str_len,T_list]
theorem T_one{c:Nat}:(⟨#[c]⟩:Str)=tx [c]:=rfl
theorem both_length:(Str.ofString "abcdefghijklmnopqrstuvwxyz0123456789").length=36:=by decide+kernel
noncomputable def bc(i:Int):Nat:=(letters++figures).getD i.toNat 0
theorem ix_bc(i:Int){k:Int}(h0:0 < k)(h1:k≤36):atI (Str.ofString "abcdefghijklmnopqrstuvwxyz0123456789").cps.toList (i % k)=some (bc (i % k)):=by
 have h2:=Int.emod_lt_of_pos i h0
 have h3:=Int.emod_nonneg i (show k≠0 by omega)
 refine atI_of h3 ?_
 have h4:(i % k).toNat < (letters++figures).length:=by rw [both_len];omega
 unfold bc
 rw [both_list,List.getD_eq_getElem?_getD,List.getElem?_eq_getElem h4]
 rfl
end N1
namespace N1
open L2
noncomputable def sp_cell(K:PySem.W.Frag):Sp:=fun vs H Q _=>∃(a:Addr) (ns:List Int) (k:Int),vs=[.ref a,.int k]∧SqL K H a (ns.map V.int)∧0≤k∧ns.length≤63∧Q (.int (ns.getD k.toNat 0)) H
noncomputable def sp_made:Sp:=fun vs H Q _=>∃(z w:Str),vs=[.str z,.str w]∧z.length≤sizeLine∧∀H',Same H H'→Q (.bl (z.cps.toList.all fun c=>decide (c∈w.cps.toList))) H'
noncomputable def sp_is_name(K:PySem.W.Frag):Sp:=fun vs H Q _=>∃(x:V),vs=[x]∧((∃z:Str,x= .str z∧z.length≤sizeLine∧∀H',Same H H'→Q (.bl (nameB z.cps.toList)) H')∨(Isi K H x "str" false∧Q (.bl false) H))
noncomputable def sp_law(K:PySem.W.Frag):Sp:=fun vs H Q _=>∃(a:Addr) (ns:List Int),vs=[.ref a]∧SqL K H a (ns.map V.int)∧ns.length≤63∧∀H',Q (.bl true) H'
end N1
namespace N1
open L2
inductive StE where
 | noname | twice | nonum | many
noncomputable def nOk:V→Bool
 | .str z=>nameB z.cps.toList
 | _=>false
noncomputable def sOf:V→Str
 | .str z=>z
 | _=>Str.empty
noncomputable def wIn(lo hi:Int):V→Bool
 | .int i=>decide (lo≤i) && decide (i≤hi)
 | _=>false
noncomputable abbrev Rw:=Addr×V×V×V
noncomputable def rowR(ks:List Str)(n c r:V):Option StE:=if nOk n=false then some .noname else if sOf n∈ks then some .twice else if wIn 0 (10 ^ 30) c=false then some .nonum else if wIn 1 1000 r=false then some .nonum else none
noncomputable def stockR(ks:List Str):List Rw→Option StE
 | []=>none
 | t::rs=>match rowR ks t.2.1 t.2.2.1 t.2.2.2 with
  | some e=>some e
  | none=>stockR (ks++[sOf t.2.1]) rs
noncomputable def initR(rs:List Rw):Option StE:=if 60 < rs.length then some .many else stockR [] rs
theorem num_isi{K:PySem.W.Frag}{H:Hp}{v:V}(h:flatV v=true):∃b c,Isi K H v "int" b∧(b=true→Isi K H v "bool" c)∧((b && !c)=true→∃i,v= .int i)∧((b && !c)=false→∀i,v≠ .int i):=by
 cases v with
 | non=>exact ⟨false,false,isi_ni,fun h=>by (cases h),fun h=>by (cases h),fun _ i h=>by cases h⟩
 | bl b=>exact ⟨true,true,isi_bi,fun _=>isi_bb,fun h=>by (cases h),fun _ i h=>by cases h⟩
 | int i=>exact ⟨true,false,isi_ii,fun _=>isi_ib,fun _=>⟨i,rfl⟩,fun h=>by cases h⟩
 | str z=>exact ⟨false,false,isi_si,fun h=>by (cases h),fun h=>by (cases h),fun _ i h=>by cases h⟩
 | _=>cases h
noncomputable def sp_is_whole(K:PySem.W.Frag):Sp:=fun vs H Q _=>∃(x:V) (b c:Bool),vs=[x]∧Isi K H x "int" b∧(b=true→Isi K H x "bool" c)∧Q (.bl (b && !c)) H
noncomputable def sp_within(K:PySem.W.Frag):Sp:=fun vs H Q _=>∃(v:V) (lo hi:Int),vs=[v,.int lo,.int hi]∧flatV v=true∧Q (.bl (wIn lo hi v)) H
noncomputable def SameBut(p:Addr)(H H':Hp):Prop:=∀b o,H b=some o→b≠p→H' b=some o
theorem sameBut_upd{p:Addr}{H:Hp}{o:HO}:SameBut p H (upd H p o):=fun b u e n=>by rw [upd_ne n];exact e
noncomputable abbrev Th:=Str×Int×Int
noncomputable def flds(d:Addr):List (Str×V):=putF "things" (.ref d) []
structure StockAt(K:PySem.W.Frag)(C:Addr)(H:Hp)(p:Addr)(ts:List Th):Prop where
 ex:∃(dx d:Addr) (kvs:List (Key×V)),H p=some (.ins C dx (flds d))∧H d=some (.dK kvs)∧kvs.map (·.1)=ts.map (fun t=>Sum.inr t.1)∧
  ∀(i:Nat) (t:Th),ts[i]?=some t→∃a,kvs[i]?=some (Sum.inr t.1,.ref a)∧SqT K H a [.int i,.int t.2.1,.int t.2.2]
theorem StockAt.same{K:PySem.W.Frag}{C:Addr}{H H':Hp}{p:Addr}{ts:List Th}(s:Same H H')(h:StockAt K C H p ts):StockAt K C H' p ts:=by
 obtain ⟨dx,d,kvs,h1,h2,h3,h4⟩:=h.ex
 refine ⟨dx,d,kvs,s _ _ h1,s _ _ h2,h3,fun i t e=>?_⟩
 obtain ⟨a,e1,e2⟩:=h4 i t e
 exact ⟨a,e1,s.tup e2⟩
noncomputable def iOf:V→Int
 | .int i=>i
 | _=>0
noncomputable def thOf(t:Rw):Th:=(sOf t.2.1,iOf t.2.2.1,iOf t.2.2.2)
theorem SqT.but{K:PySem.W.Frag}{H H':Hp}{p a C dx:Addr}{fs:List (Str×V)}{xs:List V}(s:SameBut p H H')(hp:H p=some (.ins C dx fs))(h:SqT K H a xs):SqT K H' a xs:=by
 rcases h with (h | ⟨o,h⟩) | h
 · exact .inl (.inl (s _ _ h (ne_of h hp (by intro z;cases z))))
 · exact .inl (.inr ⟨o,s _ _ h (ne_of h hp (by intro z;cases z))⟩)
 · exact .inr h
theorem SqL.but{K:PySem.W.Frag}{H H':Hp}{p a C dx:Addr}{fs:List (Str×V)}{xs:List V}(s:SameBut p H H')(hp:H p=some (.ins C dx fs))(h:SqL K H a xs):SqL K H' a xs:=by
 rcases h with (h | ⟨o,h⟩) | h
 · exact .inl (.inl (s _ _ h (ne_of h hp (by intro z;cases z))))
 · exact .inl (.inr ⟨o,s _ _ h (ne_of h hp (by intro z;cases z))⟩)
 · exact .inr h
theorem key_mem{kvs:List (Key×V)}{ks:List Str}{z:Str}(h:kvs.map (·.1)=ks.map Sum.inr):(valV kvs (Sum.inr z)).isSome=decide (z∈ks):=by
 have e:(Sum.inr z:Key)∈kvs.map (·.1)↔z∈ks:=by
  rw [h,List.mem_map]
  constructor
  · rintro ⟨a,ha,e⟩;injection e with e;subst e;exact ha
  · intro h;exact ⟨z,h,rfl⟩
 cases hv:valV kvs (Sum.inr z:Key) with
 | none=>rw [decide_eq_false fun q=>valV_not hv (e.mpr q)];rfl
 | some v=>rw [decide_eq_true (e.mp (valV_in hv))];rfl
theorem flds_things{d:Addr}:(flds d).lookup ("things":Str)=some (V.ref d):=by
 unfold flds
 rw [lookup_putF,if_pos rfl]
theorem rowR_none{ks:List Str}{n co r:V}(h:rowR ks n co r=none):∃z c q,n= .str z∧co= .int c∧r= .int q∧¬z∈ks∧nameB z.cps.toList=true∧0≤c∧c≤10 ^ 30∧1≤q∧q≤1000:=by
 unfold rowR at h
 split at h
 · cases h
 rename_i h1
 split at h
 · cases h
 rename_i h2
 split at h
 · cases h
 rename_i h3
 split at h
 · cases h
 rename_i h4
 cases n with
 | str z=>
  cases co with
  | int c=>
   cases r with
   | int q=>
    simp only [wIn,Bool.and_eq_false_iff,decide_eq_false_iff_not,not_or,Decidable.not_not]at h3 h4
    exact ⟨z,c,q,rfl,rfl,rfl,h2,by simpa [nOk] using h1,h3.1,h3.2,h4.1,h4.2⟩
   | _=>exact absurd rfl h4
  | _=>exact absurd rfl h3
 | _=>exact absurd rfl h1
theorem stockR_step{ks:List Str}{rs:List Rw}{i:Nat}{t:Rw}(h:rs[i]?=some t):stockR ks (rs.drop i)=match rowR ks t.2.1 t.2.2.1 t.2.2.2 with
 | some e=>some e
 | none=>stockR (ks++[sOf t.2.1]) (rs.drop (i+1)):=by
 have e:rs.drop i=t::rs.drop (i+1):=by
  obtain ⟨hi,rfl⟩:=List.getElem?_eq_some_iff.mp h
  exact List.drop_eq_getElem_cons hi
 rw [e]
 rfl
noncomputable def nmsOf(rs:List Rw):List Str:=rs.map fun t=>sOf t.2.1
structure MidAt(K:PySem.W.Frag)(H:Hp)(d:Addr)(rs:List Rw):Prop where
 ex:∃kvs:List (Key×V),H d=some (.dK kvs)∧kvs.map (·.1)=(nmsOf rs).map Sum.inr∧∀(j:Nat) (t:Rw),rs[j]?=some t→∃a,kvs[j]?=some (Sum.inr (sOf t.2.1),.ref a)∧SqT K H a [.int j,.int (iOf t.2.2.1),.int (iOf t.2.2.2)]
theorem MidAt.snoc{K:PySem.W.Frag}{H:Hp}{d a:Addr}{rs:List Rw}{t:Rw}{kvs:List (Key×V)}{c q:Int}{z:Str}(h1:H d=some (.dK kvs))(h2:kvs.map (·.1)=(nmsOf rs).map Sum.inr)
 (h3:∀(j:Nat) (t:Rw),rs[j]?=some t→∃a,kvs[j]?=some (Sum.inr (sOf t.2.1),.ref a)∧SqT K H a [.int j,.int (iOf t.2.2.1),.int (iOf t.2.2.2)])
 (e1:t.2.1= .str z) (e2:t.2.2.1= .int c) (e3:t.2.2.2= .int q) (nz:¬z∈nmsOf rs) (ha:H a=some (.tup [.int kvs.length,.int c,.int q])):
 MidAt K (upd H d (.dK (putK kvs (Sum.inr z) (.ref a)))) d (rs++[t]):=by
 have hl:kvs.length=rs.length:=by
  have:=congrArg List.length h2
  simpa [nmsOf] using this
 have hv:valV kvs (Sum.inr z:Key)=none:=by
  have:=key_mem (z:=z) h2
  rw [decide_eq_false nz]at this
  cases h:valV kvs (Sum.inr z:Key) with
  | none=>rfl
  | some v=>rw [h]at this;cases this
 have keep2:∀{b:Addr} {xs:List V} {o:List (Key×V)},SqT K H b xs→SqT K (upd H d (.dK o)) b xs:=fun {b xs o} h=>by
  rcases h with (h | ⟨o',h⟩) | h
  · exact .inl (.inl (by rw [upd_ne (ne_of h h1 (by intro z;cases z))];exact h))
  · exact .inl (.inr ⟨_,by rw [upd_ne (ne_of h h1 (by intro z;cases z))];exact h⟩)
  · exact .inr h
 refine ⟨_,upd_same,?_,fun j t' hj=>?_⟩
 · rw [putK_new _ hv,List.map_append,h2]
   simp [nmsOf,e1,sOf]
 · rw [putK_new _ hv]
   by_cases hlt:j < rs.length
   · rw [List.getElem?_append_left hlt]at hj
     obtain ⟨b,e,hb⟩:=h3 j t' hj
     exact ⟨b,by rw [List.getElem?_append_left (by omega)];exact e,keep2 hb⟩
   · rw [List.getElem?_append_right (by omega)]at hj
     have hj0:j - rs.length=0:=by
      have:=(List.getElem?_eq_some_iff.mp hj).1
      simp at this;omega
     rw [hj0]at hj
     cases hj
     have ej:j=rs.length:=by omega
     subst ej
     refine ⟨a,?_,?_⟩
     · rw [← hl,List.getElem?_append_right (by omega)];simp [e1,sOf]
     · rw [e2,e3]
       refine keep2 (SqT.of ?_)
       rw [ha,hl];rfl
end N1
namespace L2
theorem rd_setL{o i v:V}{H:Hp}{Q:Hp→Prop}:rSetL o i v H Q=∃p xs k j,o= .ref p∧i= .int k∧H p=some (.lst xs)∧ixN xs.length k=some j∧Q (upd H p (.lst (xs.set j v))):=rfl
end L2
namespace N5
open L2 N1
noncomputable def md(j:Nat):Int:=if j=0 then 26 else 36
noncomputable def sgn(F:Nat→Int)(at':Int)(k j:Nat):Nat:=bc ((F j+if (j:Int)=at' then (k:Int) else 0) % md j)
noncomputable def nmL(F:Nat→Int)(at':Int)(long k:Nat):List Nat:=(List.range long).map (sgn F at' k)
theorem bc_let{i:Int}:bc (i % 26)∈letters:=by
 have h1:=Int.emod_nonneg i (show (26:Int)≠0 by decide)
 have h2:=Int.emod_lt_of_pos i (show (0:Int) < 26 by decide)
 unfold bc
 generalize i % 26=x at *
 have h3:x.toNat < letters.length:=by simp [letters];omega
 rw [List.getD_eq_getElem?_getD,List.getElem?_append_left h3,List.getElem?_eq_getElem h3]
 exact List.getElem_mem h3
theorem bc_both{i:Int}:bc (i % 36)∈letters++figures:=by
 have h1:=Int.emod_nonneg i (show (36:Int)≠0 by decide)
 have h2:=Int.emod_lt_of_pos i (show (0:Int) < 36 by decide)
 unfold bc
 generalize i % 36=x at *
 have h3:x.toNat < (letters++figures).length:=by rw [both_len];omega
 rw [List.getD_eq_getElem?_getD,List.getElem?_eq_getElem h3]
 exact List.getElem_mem h3
theorem bc_inj{x y:Int}(hx0:0≤x)(hx:x < 36)(hy0:0≤y)(hy:y < 36)(h:bc x=bc y):x=y:=by
 have key:∀a:Fin 36,∀b:Fin 36,(letters++figures).getD a.val 0=(letters++figures).getD b.val 0→a=b:=by decide+kernel
 have:=key ⟨x.toNat,by omega⟩ ⟨y.toNat,by omega⟩ h
 have:=congrArg Fin.val this
 simp at this
 omega
theorem nmL_name{F:Nat→Int}{at':Int}{long k:Nat}(h1:1≤long)(h2:long≤8):nameB (nmL F at' long k)=true:=by
 obtain ⟨n,rfl⟩:∃n,long=n+1:=⟨long - 1,by omega⟩
 have hall:∀c∈nmL F at' (n+1) k,c∈letters++figures:=by
  intro c hc
  obtain ⟨j,_,rfl⟩:=List.mem_map.mp hc
  have hm:md j=26∨md j=36:=by unfold md;split <;> simp
  unfold sgn
  rcases hm with hm | hm <;> rw [hm]
  · exact List.mem_append_left _ bc_let
  · exact bc_both
 have hl:(nmL F at' (n+1) k).length=n+1:=by simp [nmL]
 have hh:headIn (nmL F at' (n+1) k) letters=true:=by
  unfold nmL
  rw [List.range_succ_eq_map,List.map_cons]
  show decide (sgn F at' k 0∈letters)=true
  rw [decide_eq_true_eq]
  unfold sgn md
  rw [if_pos rfl]
  exact bc_let
 unfold nameB
 rw [hl,hh,decide_eq_true h1,decide_eq_true h2]
 simp only [Bool.true_and]
 exact List.all_eq_true.mpr fun c hc=>decide_eq_true (hall c hc)
theorem nmL_inj{F:Nat→Int}{at':Int}{long k k':Nat}(h0:0≤at')(h1:at' < long)(hk:k < 26)(hk':k' < 26)(h:nmL F at' long k=nmL F at' long k'):k=k':=by
 have hl:at'.toNat < long:=by omega
 have e:=congrArg (fun l=>l[at'.toNat]?) h
 simp only [nmL,List.getElem?_map,List.getElem?_range hl,Option.map_some,Option.some.injEq]at e
 unfold sgn at e
 rw [if_pos (by omega),if_pos (by omega)]at e
 have hm:md at'.toNat=26∨md at'.toNat=36:=by unfold md;split <;> simp
 rcases hm with hm | hm <;> rw [hm]at e
 · have:=bc_inj (by omega) (by omega) (by omega) (by omega) e
   omega
 · have:=bc_inj (by omega) (by omega) (by omega) (by omega) e
   omega
theorem ne1:Str.ofString "no name"≠Str.ofString "nothing":=by decide+kernel
theorem same_made{H H':Hp}{x dx C:Addr}(hx:H x=none)(hd:H dx=none)(s:SameBut x (upd (upd H dx (.own x)) x (.ins C dx [])) H'):Same H H':=fun b o e=>by
 have n1:=ne_of_none e hx
 have n2:=ne_of_none e hd
 exact s b o (by rw [upd_ne n1,upd_ne n2];exact e) n1
theorem name_len{z:Str}(h:nameB z.cps.toList=true):z.length≤8:=by
 unfold nameB at h
 simp only [Bool.and_eq_true,decide_eq_true_eq]at h
 have:=h.1.1.2
 rw [str_len]at this;exact this
end N5
namespace L2
open N1 N5
section
variable {K:PySem.W.Frag} {tail:St} {te:Blk→TE} {Q:VK} {H1:Hp}
theorem compL_ix{a:Addr}{xs:List V}(f:Nat→V)(hS:SqL K H1 a xs)(hz:xs.length≤sizeLine)(he:∀b i x H Q',xs[i]?=some x→Same H1 H→Q' (f i) H→te b (some x::tail) H Q')
 (q:∀D,H1 D=none→Q (.ref D) (upd H1 D (.lst ((List.range xs.length).map f)))):CompTail (none::tail) (fun _=>gName 0) (fun _=>tYes) te Q (Itl K a) H1:=by
 refine comp_by xs.length (fun b D hD=>⟨fun i ys H=>i≤xs.length∧ys=(List.range i).map f∧H=upd H1 D (.lst ys),⟨Nat.zero_le _,rfl,rfl⟩,?_,?_,?_⟩)
 · rintro i ys H ⟨hi,rfl,rfl⟩
   exact upd_same
 · rintro ys H ⟨_,rfl,rfl⟩
   exact ⟨⟨xs,(same_new hD).seq hS,Nat.le_refl _⟩,q D hD⟩
 · rintro i ys H hi ⟨_,rfl,rfl⟩
   refine ⟨⟨xs,xs[i],(same_new hD).seq hS,by simp [hi]⟩,fun x H3 ⟨e3,ex⟩=>?_⟩
   subst e3
   refine he b i x _ _ (ex xs ((same_new hD).seq hS)) (same_new hD) (compNext upd_same (by rw [List.length_map,List.length_range];omega) hi ⟨hi,?_,?_⟩)
   · rw [List.range_succ];simp
   · funext a;by_cases ha:a=D <;> simp [upd,ha]
noncomputable def OffLists(P:V→Hp→Prop):Prop:=∀y H H' l zs,P y H→H l=some (.lst zs)→SameBut l H H'→P y H'
theorem compR_mk{lo:Int}{n:Nat}(P:Nat→V→Hp→Prop)(hP:∀i,OffLists (P i))(hz:n≤sizeLine)(he:∀b (i:Nat) H Q',i < n→Same H1 H→(∀y H',Same H H'→P i y H'→Q' y H')→te b (some (.int (lo+i))::tail) H Q')
 (q:∀D ys H',H1 D=none→Same H1 H'→H' D=some (.lst ys)→ys.length=n→(∀i y,ys[i]?=some y→P i y H')→Q (.ref D) H'):CompTail (none::tail) (fun _=>gName 0) (fun _=>tYes) te Q (Itr lo n) H1:=by
 refine comp_by n (fun b D hD=>⟨fun i ys H=>i≤n∧ys.length=i∧H D=some (.lst ys)∧Same H1 H∧∀j y,ys[j]?=some y→P j y H,⟨Nat.zero_le _,rfl,upd_same,same_new hD,fun j y e=>by simp at e⟩,?_,?_,?_⟩)
 · rintro i ys H ⟨hi,_,h,_⟩
   exact h
 · rintro ys H ⟨_,hl,h,sm,hall⟩
   exact ⟨Nat.le_refl _,q D ys H hD sm h hl hall⟩
 · rintro i ys H hi ⟨_,hl,h,sm,hall⟩
   refine ⟨hi,fun x H3 ⟨e3,ex⟩=>?_⟩
   subst e3 ex
   refine he b i _ _ hi sm fun y H4 sm4 py=>?_
   have h4:=sm4 _ _ h
   have sb:SameBut D H4 (upd H4 D (.lst (ys++[y]))):=sameBut_upd
   refine compNext h4 (by omega) hi ⟨hi,by rw [List.length_append,hl];rfl,upd_same,fun c o e=>?_,fun j y' e=>?_⟩
   · rw [upd_ne (ne_of_none e hD)];exact sm4 _ _ (sm _ _ e)
   · by_cases hj:j < ys.length
     · rw [List.getElem?_append_left hj]at e
       have:=hall j y' e
       exact hP j _ _ _ _ _ this h fun c o e n=>by rw [upd_ne n];exact sm4 _ _ e
     · rw [List.getElem?_append_right (by omega)]at e
       have hj0:j=i:=by have:=(List.getElem?_eq_some_iff.mp e).1;simp at this;omega
       subst hj0
       rw [show j - ys.length=0 by omega]at e
       cases e
       exact hP j _ _ _ _ _ py h4 sb
end
end L2
namespace N4
open L2 N1 N5
noncomputable def sp_checkG(K:PySem.W.Frag):Sp:=fun vs H Q _=>∃(n co r:V) (e:Addr) (kvs:List (Key×V)) (ks:List Str),vs=[n,co,r,.ref e]∧H e=some (.dK kvs)∧kvs.map (·.1)=ks.map Sum.inr∧rowR ks n co r=none∧∀H',Same H H'→Q .non H'
noncomputable def sp_initG(K:PySem.W.Frag)(C:Addr):Sp:=fun vs H Q _=>∃(p dx ra:Addr) (rs:List Rw),vs=[.ref p,.ref ra]∧H p=some (.ins C dx [])∧SqL K H ra (rs.map fun t=>V.ref t.1)∧(∀t∈rs,SqT K H t.1 [t.2.1,t.2.2.1,t.2.2.2])∧initR rs=none∧
 ∀H',SameBut p H H'→StockAt K C H' p (rs.map thOf)→Q .non H'
theorem initR_none{rs:List Rw}(h:initR rs=none):rs.length≤60∧stockR [] rs=none:=by
 unfold initR at h
 split at h
 · cases h
 · exact ⟨by omega,h⟩
theorem wIn_ok{lo hi c:Int}(h1:lo≤c)(h2:c≤hi):wIn lo hi (.int c)=true:=by
 show (decide (lo≤c) && decide (c≤hi))=true
 rw [decide_eq_true h1,decide_eq_true h2];rfl
theorem stockR_ok:∀(rs:List Rw) (ks:List Str),(∀t∈rs,∃z c q,t.2.1= .str z∧t.2.2.1= .int c∧t.2.2.2= .int q∧nameB z.cps.toList=true∧0≤c∧c≤10 ^ 30∧1≤q∧q≤1000)→(ks++rs.map fun t=>sOf t.2.1).Nodup→stockR ks rs=none
 | [],_,_,_=>rfl
 | t::rs,ks,h,nd=>by
  obtain ⟨z,c,q,e1,e2,e3,hn,h1,h2,h3,h4⟩:=h t (List.mem_cons_self ..)
  have hz:¬z∈ks:=fun hz=>by
   rw [List.map_cons,List.nodup_append]at nd
   exact nd.2.2 z hz (sOf t.2.1) (List.mem_cons_self ..) (by rw [e1];rfl)
  have r0:rowR ks t.2.1 t.2.2.1 t.2.2.2=none:=by
   unfold rowR
   rw [e1,e2,e3]
   rw [if_neg (by show ¬nameB z.cps.toList=false;rw [hn];decide),if_neg (show ¬sOf (.str z)∈ks from hz),if_neg (by rw [wIn_ok h1 h2];decide),if_neg (by rw [wIn_ok h3 h4];decide)]
  unfold stockR
  rw [r0]
  refine stockR_ok rs _ (fun t' ht=>h t' (List.mem_cons_of_mem _ ht)) ?_
  rw [List.append_assoc]
  exact nd
theorem valV_nth{kvs:List (Key×V)}{i:Nat}{k:Key}{v:V}(nd:(kvs.map (·.1)).Nodup)(e:kvs[i]?=some (k,v)):valV kvs k=some v:=by
 induction kvs generalizing i with
 | nil=>rw [List.getElem?_nil]at e;cases e
 | cons p r ih=>
  cases i with
  | zero=>cases e;exact valV_pos rfl
  | succ i=>
   rw [List.map_cons,List.nodup_cons]at nd
   have hm:(k,v)∈r:=List.mem_of_getElem? e
   rw [valV_neg (fun z=>nd.1 (by rw [z];exact List.mem_map_of_mem (f:=(·.1)) hm))]
   exact ih nd.2 e
theorem inr_nodup{ks:List Str}(h:ks.Nodup):(ks.map (Sum.inr:Str→Key)).Nodup:=by
 unfold List.Nodup at *
 rw [List.pairwise_map]
 exact h.imp fun n e=>n (by injection e)
section
variable {K:PySem.W.Frag} {C:Addr} {H H':Hp} {p:Addr} {ts:List Th} {z:Str}
theorem StockAt.has(h:StockAt K C H p ts):∃dx d kvs,H p=some (.ins C dx (flds d))∧H d=some (.dK kvs)∧(kvs.map fun q=>kV q.1)=ts.map (fun t=>V.str t.1)∧(∀z,(valV kvs (Sum.inr z)).isSome=decide (z∈ts.map (·.1)))∧
 ((ts.map (·.1)).Nodup→∀(i:Nat) (t:Th),ts[i]?=some t→∃a,valV kvs (Sum.inr t.1)=some (.ref a)∧SqT K H a [.int i,.int t.2.1,.int t.2.2]):=by
 obtain ⟨dx,d,kvs,h1,h2,h3,h4⟩:=h.ex
 have h3':kvs.map (·.1)=(ts.map (·.1)).map Sum.inr:=by rw [h3,List.map_map];rfl
 refine ⟨dx,d,kvs,h1,h2,?_,fun z=>key_mem h3',fun nd i t e=>?_⟩
 · have:=congrArg (List.map kV) h3
   rw [List.map_map,List.map_map]at this
   exact this
 · obtain ⟨a,e1,e2⟩:=h4 i t e
   exact ⟨a,valV_nth (by rw [h3'];exact inr_nodup nd) e1,e2⟩
end
noncomputable def pick(w:Nat)(i:Nat)(t:Th):Int:=if w=0 then i else if w=1 then t.2.1 else t.2.2
noncomputable def sp_has(K:PySem.W.Frag)(C:Addr):Sp:=fun vs H Q _=>∃(p:Addr) (ts:List Th) (z:Str),vs=[.ref p,.str z]∧StockAt K C H p ts∧Q (.bl (decide (z∈ts.map (·.1)))) H
theorem mem_nth{ts:List Th}{z:Str}(h:z∈ts.map (·.1)):∃(i:Nat) (t:Th),ts[i]?=some t∧t.1=z:=by
 obtain ⟨t,ht,e⟩:=List.mem_map.mp h
 obtain ⟨i,hi⟩:=List.mem_iff_getElem?.mp ht
 exact ⟨i,t,hi,e⟩
end N4
namespace N4
open L2 N1 N5
structure RowsAt(K:PySem.W.Frag)(H:Hp)(r:Addr)(as:List Addr)(ts:List Th):Prop where
 l:SqL K H r (as.map V.ref)
 n:as.length=ts.length
 m:ts.length≤60
 at_:∀(i:Nat) (a:Addr) (t:Th),as[i]?=some a→ts[i]?=some t→SqT K H a [.str t.1,.int t.2.1,.int t.2.2]
 ok:∀t∈ts,nameB t.1.cps.toList=true∧0≤t.2.1∧t.2.1≤10 ^ 30∧1≤t.2.2∧t.2.2≤1000
 nd:(ts.map (·.1)).Nodup
noncomputable def rwOf(a:Addr)(t:Th):Rw:=(a,.str t.1,.int t.2.1,.int t.2.2)
theorem RowsAt.init{K:PySem.W.Frag}{H:Hp}{r:Addr}{as:List Addr}{ts:List Th}(h:RowsAt K H r as ts):∃rs:List Rw,rs.map (fun t=>V.ref t.1)=as.map V.ref∧(∀t∈rs,SqT K H t.1 [t.2.1,t.2.2.1,t.2.2.2])∧initR rs=none∧rs.map thOf=ts:=by
 have hn:=h.n
 have gt:∀(i:Nat) (x:Addr×Th),(as.zip ts)[i]?=some x→as[i]?=some x.1∧ts[i]?=some x.2:=fun i x e=>by
  rw [List.getElem?_zip_eq_some]at e;exact e
 have e1:((as.zip ts).map fun x=>rwOf x.1 x.2).map thOf=ts:=by
  rw [List.map_map]
  have:(thOf∘fun x:Addr×Th=>rwOf x.1 x.2)=Prod.snd:=by funext x;rfl
  rw [this,List.map_snd_zip (by omega)]
 refine ⟨(as.zip ts).map fun x=>rwOf x.1 x.2,?_,?_,?_,e1⟩
 · rw [List.map_map]
   have:((fun t:Rw=>V.ref t.1)∘fun x:Addr×Th=>rwOf x.1 x.2)=V.ref∘Prod.fst:=by funext x;rfl
   rw [this,← List.map_map,List.map_fst_zip (by omega)]
 · intro t ht
   obtain ⟨x,hx,rfl⟩:=List.mem_map.mp ht
   obtain ⟨i,hi⟩:=List.mem_iff_getElem?.mp hx
   obtain ⟨h1,h2⟩:=gt i x hi
   exact h.at_ i x.1 x.2 h1 h2
 · unfold initR
   rw [if_neg (by rw [List.length_map,List.length_zip];have:=h.m;omega)]
   refine stockR_ok _ _ (fun t ht=>?_) ?_
   · obtain ⟨x,hx,rfl⟩:=List.mem_map.mp ht
     obtain ⟨i,hi⟩:=List.mem_iff_getElem?.mp hx
     obtain ⟨h1,h2⟩:=gt i x hi
     obtain ⟨o1,o2,o3,o4,o5⟩:=h.ok x.2 (List.mem_of_getElem? h2)
     exact ⟨x.2.1,x.2.2.1,x.2.2.2,rfl,rfl,rfl,o1,o2,o3,o4,o5⟩
   · rw [List.nil_append,List.map_map]
     have:((fun t:Rw=>sOf t.2.1)∘fun x:Addr×Th=>rwOf x.1 x.2)=(fun t:Th=>t.1)∘Prod.snd:=by funext x;rfl
     rw [this,← List.map_map,List.map_snd_zip (by omega)]
     exact h.nd
end N4
namespace N6
open L2 N1 N5 N4
noncomputable abbrev Ly:=List (Str×Int)
noncomputable def lyN(ls:Ly):List Str:=ls.map (·.1)
end N6
namespace N6
open L2 N1 N5 N4
theorem inV_strs{z:Str}{ys:List Str}:inV (.str z) (ys.map V.str)=decide (z∈ys):=by
 unfold inV
 induction ys with
 | nil=>rfl
 | cons y ys ih=>
  rw [List.map_cons,List.any_cons,ih,eqV_str]
  by_cases h:y=z
  · subst h;simp
  · have h':¬z=y:=fun e=>h e.symm
    simp [h,h']
theorem in_go{K:PySem.W.Frag}{H:Hp}{p:Addr}{z:Str}{ys:List Str}{Q:VK}(h:SqL K H p (ys.map V.str))(q:Q (.bl (decide (z∈ys))) H):rIn K false (.str z) (.ref p) H Q:=by
 refine ⟨p,_,rfl,.inl h,rfl,all_strs,?_⟩
 rw [if_neg (by decide),inV_strs]
 exact q
theorem notin_go{K:PySem.W.Frag}{H:Hp}{p:Addr}{z:Str}{ys:List Str}{Q:VK}(h:SqL K H p (ys.map V.str))(q:Q (.bl (!decide (z∈ys))) H):rIn K true (.str z) (.ref p) H Q:=by
 refine ⟨p,_,rfl,.inl h,rfl,all_strs,?_⟩
 rw [if_pos rfl,inV_strs]
 exact q
noncomputable def aOf:V→Addr
 | .ref a=>a
 | _=>0
end N6
namespace L2
theorem Inv.turned2{X:Cx}{pins:List (Addr×Obj)}{σ:St}{H:Hp}{s:Shared}{h':Heap}{t':Nat}{fp:List Addr}(I:Inv X pins σ H s)(k:∀b o,b∉fp→s.heap.get? b=some o→h'.get? b=some o)(hf:∀it∈fp,FpOk X pins H it):
 Inv X pins σ H {s with heap:=h',toks:=t'}:=by
 have nit:∀b u,H b=some u→b∉fp:=fun b u e z=>by rw [(hf b z).1]at e;cases e
 refine I.step (g':=s.gens) (d':=s.drawn) (ch:=fp) (fun b hb=>?_) (fun b o _ _ hc e _=>k b o hc e) (fun b o _ _ hc e _=>⟨o.slots,k b o hc e⟩) (fun _ _ _ _ n=>n)
  (fun b o hc e=>⟨o,k b o hc e⟩) (fun _ _ e=>e) (fun _ _ _ e=>e) (fun b ps e=>⟨#[],by rw [e];simp⟩) (fun m hm=>?_) (fun b u e=>?_) I.bare
 · obtain ⟨_,h1,_,h2,h3,h4⟩:=hf b hb
   exact ⟨h2,h1,h3,h4⟩
 · obtain ⟨o,es,ep,ho,r⟩:=hm
   exact ⟨o,es,ep,k _ o (fun z=>(hf _ z).2.1 rfl) ho,r⟩
 · refine (I.hok b u e).stay (fun c v hc q=>k c v ?_ q) (fun _ q=>q) fun _ _ q=>q
   rcases hc with z | z
   · rw [z];exact nit b u e
   · exact nit c _ z
noncomputable def Ite(K:PySem.W.Frag)(a:Addr):It:=
 ⟨fun i H=>∃xs x,SqL K H a xs∧xs[i]?=some x,fun i H y H'=>∃t x,y= .ref t∧H t=none∧H'=upd H t (.tup [.int i,x])∧∀xs,SqL K H a xs→xs[i]?=some x,fun i H=>∃xs,SqL K H a xs∧xs.length≤i⟩
noncomputable def tnE(e it a:Addr)(i:Nat)(h:Heap):Prop:=(∃old,IsEnum h e it i old)∧h.IsListIter it a i
theorem turn_enum{P:Program}{w:World}{K:PySem.W.Frag}{es:List Expr}{k:Nat}{pos:Pos}(a e it:Addr)(ne:e≠it):Turn P w K (.Tuple es k pos) (Ite K a) [e,it] e (tnE e it a) where
 mem:=by simp
 obj:=fun i h st b hb=>by
  obtain ⟨⟨old,h1⟩,o,h2,c,d⟩:=st
  have hb:b=e∨b=it:=by simpa using hb
  rcases hb with rfl | rfl
  · exact ⟨_,h1,fun v z=>by cases z⟩
  · exact ⟨o,h2,fun v z=>by rw [d]at z;cases z⟩
 keep:=fun i h h' st kk=>by
  obtain ⟨⟨old,h1⟩,h2⟩:=st
  exact ⟨⟨old,kk e (by simp) _ h1⟩,h2.at fun o q=>kk it (by simp) o q⟩
 item:=by
  intro X hP hw hK hc i pins s σ H E I hf st hg
  subst hP hw hK
  obtain ⟨xs,x,hq,hx⟩:=hg
  obtain ⟨its,rv,p,hz⟩:=I.list hq
  obtain ⟨u,hu,ru⟩:=rv.get hx
  obtain ⟨⟨old,h1⟩,h2⟩:=st
  have hlt:e < s.heap.objs.size:=Heap.lt_size h1
  have hit:it < s.heap.objs.size:=by obtain ⟨o,q,_⟩:=id h2;exact Heap.lt_size q
  refine wpAny_pyNext_enum_item h1 h2 p.isList (x:=u) (by simpa using hu) ne fun h' eo it' ht hs hk=>?_
  refine ⟨_,rfl,wpAny_letOwnedTupleGo_enum (s:={s with heap:=h',toks:=s.toks+1}) eo fun h3 e3 sb=>?_⟩
  have hf0:H s.heap.objs.size=none:=I.hok.fresh (Nat.le_refl _)
  have nt:∀b∈[e,it],b≠s.heap.objs.size:=fun b hb=>by
   have hb:b=e∨b=it:=by simpa using hb
   rcases hb with rfl | rfl
   · exact Nat.ne_of_lt hlt
   · exact Nat.ne_of_lt hit
  have I0:Inv X pins σ (upd H s.heap.objs.size (.tup [.int i,x])) {s with heap:=s.heap.push {cls:= .type "tuple",data:= .seq #[.int i s.toks,u]},toks:=s.toks+1}:=
   I.laid (fun b u e=>Heap.get?_push_of_some _ e) (Nat.le_refl _) ⟨by simp [sizeLine];try decide,[.int i s.toks,u],.cons ⟨_,rfl⟩ (.cons ru .nil),⟨_,Heap.get?_push_size _ rfl,rfl,_,rfl⟩⟩
  have hfp:∀b∈[e,it],FpOk X pins (upd H s.heap.objs.size (.tup [.int i,x])) b:=fun b hb=>by
   obtain ⟨f0,f1,f2,f3,f4,f5⟩:=hf b hb
   exact ⟨by rw [upd_ne (nt b hb)];exact f0,f1,f2,f3,f4,f5⟩
  have I1:Inv X pins σ (upd H s.heap.objs.size (.tup [.int i,x])) {s with heap:=h3,toks:=s.toks+1}:=by
   refine Inv.turned2 (s:={s with heap:=s.heap.push {cls:= .type "tuple",data:= .seq #[.int i s.toks,u]},toks:=s.toks+1}) (t':=s.toks+1) I0 (fun b o hb q=>?_) hfp
   have hb':b≠e∧b≠it:=by simpa using hb
   refine (sb.2 b hb'.1).trans ?_
   rcases Heap.get?_push_cases q with ⟨rfl,rfl⟩ | q2
   · exact ht
   · exact hk b o hb'.1 hb'.2 q2
  refine ⟨.ref s.heap.objs.size,upd H s.heap.objs.size (.tup [.int i,x]),I1,rfl,⟨_,x,rfl,hf0,rfl,fun ys hy=>by rw [I.list_inj hy hq];exact hx⟩,⟨⟨u,?_⟩,?_⟩,fun b hb=>(hfp b hb).1⟩
  · show IsEnum h3 e it ((i+1:Nat):Int) u
    rw [show ((i+1:Nat):Int)=(i:Int)+1 from rfl]
    exact e3
  · exact it'.at fun o q=>(sb.2 it (Ne.symm ne)).trans q
 done:=by
   intro X hP hw hK hc i pins s σ H E I hf st hg
   subst hP hw hK
   obtain ⟨xs,hq,hx⟩:=hg
   obtain ⟨its,rv,p,hz⟩:=I.list hq
   obtain ⟨⟨old,h1⟩,h2⟩:=st
   have hl:=rv.length
   exact wpAny_pyNext_enum_end (I.ok.hd hc) h1 h2 p.isList (by simp;omega) fun h' eb=>⟨rfl,Inv.turned2 (t':=s.toks) I (fun b o hb q=>eb b o (fun z=>hb (by simp [z])) q) hf⟩
 self:=fun _ _ _ _ _ st h=>wpAny_pyIter_enum st.1.choose_spec h
section
variable {X:Cx}
noncomputable def iEnum(K:PySem.W.Frag)(ta:TA):TI:=fun σ H R=>ta σ H fun vs H1=>∃a,vs=[.ref a]∧(∃xs,SqL K H1 a xs)∧R (Ite K a) H1
theorem pi_enum{l:Expr}{ta:TA}{p pos pp:Pos}{es:List Expr}{k:Nat}(hg:Gl X "enumerate")(hm:X.mg "enumerate"=none)(ha:PA X [l] ta)(hs:starEach [l] X.env=[(false,eval l X.env)]:=by rfl):PI X (.Tuple es k pp) (.Call (.Name "enumerate" p) [l] [] pos) (iEnum X.K ta):=by
 intro pins s σ H R I h
 refine Call_ (ld_blt I hg hm boot_enumerate (PyProof.Rows.callWith_type1 (thn (ha pos pins s σ H _ I h) fun us s1 hq_=>?_) hs rfl))
 obtain ⟨vs,H1,I1,r1,q1⟩:=hq_
 obtain ⟨a,e,⟨xs,hq⟩,q⟩:=q1
 subst e
 cases r1 with
 | cons r rr=>
  cases rr
  cases r
  obtain ⟨its,rv,p',hz⟩:=I1.list hq
  refine call_enumerate_list p'.isList fun h' h1 h2 h3 h4=>?_
  refine wpAny_pyIter_enum h1 ?_
  refine ⟨_,[s1.heap.objs.size+1,s1.heap.objs.size],_,_,H1,rfl,I1.kept (t':=s1.toks) h4,turn_enum a _ _ (Nat.succ_ne_self _),⟨⟨_,h1⟩,h2⟩,fun b hb=>?_,q⟩
  have hb:b=s1.heap.objs.size+1∨b=s1.heap.objs.size:=by simpa using hb
  rcases hb with rfl | rfl
  · exact I1.fpOk (Nat.le_succ _) (I1.hok.fresh (Nat.le_succ _))
  · exact I1.fpOk (Nat.le_refl _) (I1.hok.fresh (Nat.le_refl _))
end
section
variable {K:PySem.W.Frag} {σ:St} {H:Hp} {D:Ends}
theorem rd_ienum{ta:TA}{R:It→Hp→Prop}:iEnum K ta σ H R=ta σ H fun vs H1=>∃a,vs=[.ref a]∧(∃xs,SqL K H1 a xs)∧R (Ite K a) H1:=rfl
theorem forE_by{a:Addr}{xs:List V}{g:TG}{tb:TS}(Pv:Nat→St→Hp→Prop)(h0:Pv 0 σ H)(hl:∀i σ H,i≤xs.length→Pv i σ H→SqL K H a xs)
 (hs:∀i x σ H t,xs[i]?=some x→Pv i σ H→H t=none→g (.ref t) σ (upd H t (.tup [.int i,x])) fun σ2 H2=>tb {D with nx:=Pv (i+1),ct:=Pv (i+1),bk:=D.nx} σ2 H2) (hd:∀σ H,Pv xs.length σ H→D.nx σ H):ForTail g tb D σ (Ite K a) H:=by
 refine ⟨fun i m σ H=>i≤xs.length∧m=xs.length - i∧Pv i σ H,⟨_,Nat.zero_le _,rfl,h0⟩,fun i m σ H ⟨hi,hm,hP⟩=>?_⟩
 have hq:=hl i σ H hi hP
 cases hx:xs[i]? with
 | none=>
  have hn:xs.length≤i:=by simpa using hx
  have e:i=xs.length:=Nat.le_antisymm hi hn
  subst e
  exact .inl ⟨⟨xs,hq,Nat.le_refl _⟩,hd σ H hP⟩
 | some x=>
  have hlt:i < xs.length:=(List.getElem?_eq_some_iff.mp hx).1
  refine .inr ⟨⟨xs,x,hq,hx⟩,Pv (i+1),fun σ' H' h=>⟨xs.length - (i+1),by omega,by omega,rfl,h⟩,?_⟩
  rintro y H' ⟨t,x',rfl,ht,rfl,hy⟩
  have e:=(hy xs hq).symm.trans hx
  cases e
  exact hs i x σ H t hx hP ht
end
end L2
namespace L2
noncomputable def Itz(K:PySem.W.Frag)(a b:Addr):It:=
 ⟨fun i H=>∃xs ys x y,SqL K H a xs∧SqL K H b ys∧xs[i]?=some x∧ys[i]?=some y,fun i H v H'=>∃t x y,v= .ref t∧H t=none∧H'=upd H t (.tup [x,y])∧(∀xs,SqL K H a xs→xs[i]?=some x)∧∀ys,SqL K H b ys→ys[i]?=some y,
  fun i H=>∃xs ys,SqL K H a xs∧SqL K H b ys∧(xs.length≤i∨ys.length≤i)⟩
noncomputable def tnZ(z TI TO i1 i2 a b:Addr)(i:Nat)(h:Heap):Prop:=IsZip h z TI TO .none∧IsPair h TI (.ref i1) (.ref i2)∧(∃x y,IsPair h TO x y)∧h.IsListIter i1 a i∧h.IsListIter i2 b i
theorem turn_zip{P:Program}{w:World}{K:PySem.W.Frag}{es:List Expr}{k:Nat}{pos:Pos}(a b z TI TO i1 i2:Addr)(D:ZipApart z TI TO i1 i2 a b):Turn P w K (.Tuple es k pos) (Itz K a b) [z,TI,TO,i1,i2] z (tnZ z TI TO i1 i2 a b) where
 mem:=by simp
 obj:=fun i h st c hc=>by
  obtain ⟨h1,h2,⟨x,y,h3⟩,⟨o4,e4,c4,d4⟩,⟨o5,e5,c5,d5⟩⟩:=st
  have hc:c=z∨c=TI∨c=TO∨c=i1∨c=i2:=by simpa using hc
  rcases hc with rfl | rfl | rfl | rfl | rfl
  · exact ⟨_,h1,fun v z=>by cases z⟩
  · exact ⟨_,h2,fun v z=>by cases z⟩
  · exact ⟨_,h3,fun v z=>by cases z⟩
  · exact ⟨o4,e4,fun v z=>by rw [d4]at z;cases z⟩
  · exact ⟨o5,e5,fun v z=>by rw [d5]at z;cases z⟩
 keep:=fun i h h' st kk=>by
  obtain ⟨h1,h2,⟨x,y,h3⟩,h4,h5⟩:=st
  exact ⟨kk z (by simp) _ h1,kk TI (by simp) _ h2,⟨x,y,kk TO (by simp) _ h3⟩,h4.at fun o q=>kk i1 (by simp) o q,h5.at fun o q=>kk i2 (by simp) o q⟩
 item:=by
  intro X hP hw hK hc i pins s σ H E I hf st hg
  subst hP hw hK
  obtain ⟨xs,ys,x,y,hq,hq2,hx,hy⟩:=hg
  obtain ⟨its,rv,p,hz⟩:=I.list hq
  obtain ⟨jts,rv2,p2,hz2⟩:=I.list hq2
  obtain ⟨u,hu,ru⟩:=rv.get hx
  obtain ⟨v,hv,rw'⟩:=rv2.get hy
  obtain ⟨h1,h2,⟨x0,y0,h3⟩,h4,h5⟩:=st
  have lts:∀c∈[z,TI,TO,i1,i2],c < s.heap.objs.size:=fun c hc'=>by
   have hc':c=z∨c=TI∨c=TO∨c=i1∨c=i2:=by simpa using hc'
   rcases hc' with rfl | rfl | rfl | rfl | rfl
   · exact Heap.lt_size h1
   · exact Heap.lt_size h2
   · exact Heap.lt_size h3
   · obtain ⟨o,q,_⟩:=id h4;exact Heap.lt_size q
   · obtain ⟨o,q,_⟩:=id h5;exact Heap.lt_size q
  refine wpAny_pyNext_zip_item D h1 h2 h3 h4 h5 p.isList p2.isList (x:=u) (y:=v) (by simpa using hu) (by simpa using hv) fun h' e1 e3 e4 e5 ht hs hk=>?_
  refine ⟨_,rfl,wpAny_letOwnedTupleGo_zip (s:={s with heap:=h'}) e1 fun h6 e6 sb=>?_⟩
  have hf0:H s.heap.objs.size=none:=I.hok.fresh (Nat.le_refl _)
  have nt:∀c∈[z,TI,TO,i1,i2],c≠s.heap.objs.size:=fun c hc'=>Nat.ne_of_lt (lts c hc')
  have I0:Inv X pins σ (upd H s.heap.objs.size (.tup [x,y])) {s with heap:=s.heap.push {cls:= .type "tuple",data:= .seq #[u,v]}}:=
   I.laid (t':=s.toks) (fun b u e=>Heap.get?_push_of_some _ e) (Nat.le_refl _) ⟨by simp [sizeLine];try decide,[u,v],.cons ru (.cons rw' .nil),⟨_,Heap.get?_push_size _ rfl,rfl,_,rfl⟩⟩
  have hfp:∀c∈[z,TI,TO,i1,i2],FpOk X pins (upd H s.heap.objs.size (.tup [x,y])) c:=fun c hc'=>by
   obtain ⟨f0,f1,f2,f3,f4,f5⟩:=hf c hc'
   exact ⟨by rw [upd_ne (nt c hc')];exact f0,f1,f2,f3,f4,f5⟩
  have I1:Inv X pins σ (upd H s.heap.objs.size (.tup [x,y])) {s with heap:=h6}:=by
   refine Inv.turned2 (s:={s with heap:=s.heap.push {cls:= .type "tuple",data:= .seq #[u,v]}}) (t':=s.toks) I0 (fun c o hc' q=>?_) hfp
   have hb':c≠z∧c≠TI∧c≠TO∧c≠i1∧c≠i2:=by simpa using hc'
   refine (sb.2 c hb'.1).trans ?_
   rcases Heap.get?_push_cases q with ⟨rfl,rfl⟩ | q2
   · exact ht
   · exact hk c o hb'.1 hb'.2.2.1 hb'.2.2.2.1 hb'.2.2.2.2 q2
  refine ⟨.ref s.heap.objs.size,upd H s.heap.objs.size (.tup [x,y]),I1,rfl,⟨_,x,y,rfl,hf0,rfl,fun zs hy'=>by rw [I.list_inj hy' hq];exact hx,fun zs hy'=>by rw [I.list_inj hy' hq2];exact hy⟩,?_,fun c hc'=>(hfp c hc').1⟩
  have k6:∀c o,c≠z→h'.get? c=some o→h6.get? c=some o:=fun c o n q=>(sb.2 c n).trans q
  exact ⟨e6,k6 TI _ D.TIz (hk TI _ D.TIz D.TITO D.TIi1 D.TIi2 h2),⟨_,_,k6 TO _ D.TOz e3⟩,e4.at fun o q=>k6 i1 o D.i1z q,e5.at fun o q=>k6 i2 o D.i2z q⟩
 done:=by
   intro X hP hw hK hc i pins s σ H E I hf st hg
   subst hP hw hK
   obtain ⟨xs,ys,hq,hq2,hx⟩:=hg
   obtain ⟨its,rv,p,hz⟩:=I.list hq
   obtain ⟨jts,rv2,p2,hz2⟩:=I.list hq2
   obtain ⟨h1,h2,⟨x0,y0,h3⟩,h4,h5⟩:=st
   have hl:=rv.length
   have hl2:=rv2.length
   exact wpAny_pyNext_zip_end (I.ok.hd hc) D h1 h2 h3 h4 h5 p.isList p2.isList (hx.imp (fun h=>by simp;omega) fun h=>by simp;omega) fun h' eb=>⟨rfl,Inv.turned2 (t':=s.toks) I (fun c o hb q=>by
    have hb':c≠z∧c≠TI∧c≠TO∧c≠i1∧c≠i2:=by simpa using hb
    exact eb c o hb'.1 hb'.2.2.1 hb'.2.2.2.1 hb'.2.2.2.2 q) hf⟩
 self:=fun _ _ _ _ _ st h=>wpAny_pyIter_zip st.1 h
section
variable {X:Cx}
noncomputable def iZip(K:PySem.W.Frag)(ta:TA):TI:=fun σ H R=>ta σ H fun vs H1=>∃a b,vs=[.ref a,.ref b]∧(∃xs,SqL K H1 a xs)∧(∃ys,SqL K H1 b ys)∧R (Itz K a b) H1
theorem pi_zip{l r:Expr}{ta:TA}{p pos pp:Pos}{es:List Expr}{k:Nat}(hg:Gl X "zip")(hm:X.mg "zip"=none)(ha:PA X [l,r] ta)(hs:starEach [l,r] X.env=[(false,eval l X.env),(false,eval r X.env)]:=by rfl)(hs2:starEach [r] X.env=[(false,eval r X.env)]:=by rfl):
 PI X (.Tuple es k pp) (.Call (.Name "zip" p) [l,r] [] pos) (iZip X.K ta):=by
 intro pins s σ H R I h
 refine Call_ (ld_blt I hg hm boot_zip (PyProof.Rows.callWith_type1 (thn (ha pos pins s σ H _ I h) fun us s1 ⟨vs,H1,I1,r1,q1⟩=>?_) (by rw [hs,hs2]) (by rw [hs2];rfl)))
 obtain ⟨a,b,e,⟨xs,hq⟩,⟨ys,hq2⟩,q⟩:=q1
 subst e
 cases r1 with
 | cons r rr=>
  cases rr with
  | cons r' rr=>
   cases rr
   cases r
   cases r'
   obtain ⟨its,rv,p',hz⟩:=I1.list hq
   obtain ⟨jts,rv2,p2,hz2⟩:=I1.list hq2
   have la:a < s1.heap.objs.size:=by obtain ⟨o,e,_⟩:=p'.isList;exact Heap.lt_size e
   have lb:b < s1.heap.objs.size:=by obtain ⟨o,e,_⟩:=p2.isList;exact Heap.lt_size e
   refine call_zip_2 p'.isList p2.isList fun h' h1 h2 h3 h4 h5 h6 h7=>?_
   refine wpAny_pyIter_zip h1 ?_
   refine ⟨_,[s1.heap.objs.size+4,s1.heap.objs.size+2,s1.heap.objs.size+3,s1.heap.objs.size,s1.heap.objs.size+1],_,_,H1,rfl,I1.kept (t':=s1.toks) h7,turn_zip a b _ _ _ _ _ (PySem.W.ktu_apart _ _ _ la lb),⟨h1,h2,⟨_,_,h3⟩,h4,h5⟩,fun c hc=>?_,q⟩
   have hc:s1.heap.objs.size≤c:=by
    have hc:c=s1.heap.objs.size+4∨c=s1.heap.objs.size+2∨c=s1.heap.objs.size+3∨c=s1.heap.objs.size∨c=s1.heap.objs.size+1:=by simpa using hc
    rcases hc with rfl | rfl | rfl | rfl | rfl
    · exact Nat.le_add_right _ _
    · exact Nat.le_add_right _ _
    · exact Nat.le_add_right _ _
    · exact Nat.le_refl _
    · exact Nat.le_add_right _ _
   exact I1.fpOk hc (I1.hok.fresh hc)
end
section
variable {K:PySem.W.Frag} {σ:St} {H:Hp} {D:Ends}
theorem rd_izip{ta:TA}{R:It→Hp→Prop}:iZip K ta σ H R=ta σ H fun vs H1=>∃a b,vs=[.ref a,.ref b]∧(∃xs,SqL K H1 a xs)∧(∃ys,SqL K H1 b ys)∧R (Itz K a b) H1:=rfl
theorem forZ_by{a b:Addr}{xs ys:List V}{g:TG}{tb:TS}(hlen:xs.length=ys.length)(Pv:Nat→St→Hp→Prop)(h0:Pv 0 σ H)(hl:∀i σ H,i≤xs.length→Pv i σ H→SqL K H a xs∧SqL K H b ys)
 (hs:∀i x y σ H t,xs[i]?=some x→ys[i]?=some y→Pv i σ H→H t=none→g (.ref t) σ (upd H t (.tup [x,y])) fun σ2 H2=>tb {D with nx:=Pv (i+1),ct:=Pv (i+1),bk:=D.nx} σ2 H2) (hd:∀σ H,Pv xs.length σ H→D.nx σ H):ForTail g tb D σ (Itz K a b) H:=by
 refine ⟨fun i m σ H=>i≤xs.length∧m=xs.length - i∧Pv i σ H,⟨_,Nat.zero_le _,rfl,h0⟩,fun i m σ H ⟨hi,hm,hP⟩=>?_⟩
 obtain ⟨hq,hq2⟩:=hl i σ H hi hP
 by_cases hlt:i < xs.length
 · have hx:xs[i]?=some xs[i]:=List.getElem?_eq_getElem hlt
   have hy:ys[i]?=some (ys[i]'(by omega)):=List.getElem?_eq_getElem (by omega)
   refine .inr ⟨⟨xs,ys,_,_,hq,hq2,hx,hy⟩,Pv (i+1),fun σ' H' h=>⟨xs.length - (i+1),by omega,by omega,rfl,h⟩,?_⟩
   rintro v H' ⟨t,x',y',rfl,ht,rfl,h1,h2⟩
   have e:=(h1 xs hq).symm.trans hx
   have e2:=(h2 ys hq2).symm.trans hy
   cases e
   cases e2
   exact hs i _ _ σ H t hx hy hP ht
 · have e:i=xs.length:=by omega
   subst e
   exact .inl ⟨⟨xs,ys,hq,hq2,.inl (Nat.le_refl _)⟩,hd σ H hP⟩
end
end L2
namespace L2
noncomputable abbrev tComp1I(wi:TI)(fs:List Nat)(tt:Blk→TT)(te:Blk→TE):TE:=tComp wi 1 fs (fun _=>gName 0) tt te
noncomputable abbrev g2(K:PySem.W.Frag):Blk→TG:=fun _=>gTup K 2 (gCons (gName 0) (gCons (gName 1) gNil))
noncomputable abbrev tComp2(K:PySem.W.Frag)(wi:TI)(fs:List Nat)(tt:Blk→TT)(te:Blk→TE):TE:=tComp wi 2 fs (g2 K) tt te
section
variable {X:Cx} {scope:Scope} {x y:Str} {px py pt:Pos} {n:Nat} {fs:List Nat} {elt iter c:Expr} {pos:Pos} {wi:TI} {tt:Blk→TT} {te:Blk→TE}
theorem pe_compI(x:Str)(fs:List Nat)(hc:X.calm=true)(hok:compOkB X.N X.env.scope scope [x] fs=true)(hi:PI X (.Name x px) iter wi)(ht:∀b,PT (X.blk scope ([x]++around X.N fs) b) c (tt b))(he:∀b,PE (X.blk scope ([x]++around X.N fs) b) elt (te b))
 (hs:∀x,foldedSetIterable iter X.env x=pure x:=by intro _;rfl):PE X (.ListComp elt [⟨.Name x px,iter,[c],0⟩] scope pos) (tComp1I wi fs tt te):=
 pe_compG (xs:=[x]) (g:=fun _=>gName 0) (tt:=tt) hc hok hi (pg_own hok) (fun b=>pts_one (ht b)) he hs
theorem pg_own2(hc:X.calm=true)(hok:compOkB X.N X.env.scope scope [x,y] fs=true)(b:Blk):PG (X.blk scope ([x,y]++around X.N fs) b) (.Tuple [.Name x px,.Name y py] n pt) (g2 X.K b):=by
 have O:=compOk_of hok
 refine pg_tup (X:=X.blk scope ([x,y]++around X.N fs) b) hc (pgs_cons (pg_name O.nd rfl (.inl (lookup_relabel_local (O.own x (by simp)))) (.inr (lookup_relabel_local (O.own x (by simp)))))
  (pgs_cons (pg_name O.nd rfl (.inl (lookup_relabel_local (O.own y (by simp)))) (.inr (lookup_relabel_local (O.own y (by simp))))) pgs_nil))
theorem pe_comp2(x y:Str)(fs:List Nat)(hc:X.calm=true)(hok:compOkB X.N X.env.scope scope [x,y] fs=true)(hi:PI X (.Tuple [.Name x px,.Name y py] n pt) iter wi)(he:∀b,PE (X.blk scope ([x,y]++around X.N fs) b) elt (te b))
 (hs:∀x,foldedSetIterable iter X.env x=pure x:=by intro _;rfl):PE X (.ListComp elt [⟨.Tuple [.Name x px,.Name y py] n pt,iter,[],0⟩] scope pos) (tComp2 X.K wi fs (fun _=>tYes) te):=
 pe_compG (xs:=[x,y]) (g:=g2 X.K) (tt:=fun _=>tYes) hc hok hi (pg_own2 hc hok) (fun _=>pts_nil) he hs
theorem pe_comp2I(x y:Str)(fs:List Nat)(hc:X.calm=true)(hok:compOkB X.N X.env.scope scope [x,y] fs=true)(hi:PI X (.Tuple [.Name x px,.Name y py] n pt) iter wi)(ht:∀b,PT (X.blk scope ([x,y]++around X.N fs) b) c (tt b))(he:∀b,PE (X.blk scope ([x,y]++around X.N fs) b) elt (te b))
 (hs:∀x,foldedSetIterable iter X.env x=pure x:=by intro _;rfl):PE X (.ListComp elt [⟨.Tuple [.Name x px,.Name y py] n pt,iter,[c],0⟩] scope pos) (tComp2 X.K wi fs tt te):=
 pe_compG (xs:=[x,y]) (g:=g2 X.K) (tt:=tt) hc hok hi (pg_own2 hc hok) (fun b=>pts_one (ht b)) he hs
end
section
variable {K:PySem.W.Frag} {tail:St} {tt:Blk→TT} {te:Blk→TE} {Q:VK} {H1:Hp} {σ:St} {H:Hp}
theorem rd_compI{wi:TI}{fs:List Nat}:tComp1I wi fs tt te σ H Q=wi σ H (CompTail (none::fs.map fun j=>σ.getD j none) (fun _=>gName 0) tt te Q):=rfl
theorem rd_comp2{wi:TI}{fs:List Nat}:tComp2 K wi fs tt te σ H Q=wi σ H (CompTail (none::none::fs.map fun j=>σ.getD j none) (g2 K) tt te Q):=rfl
theorem kept2{x y:Option V}{r:St}:Kept (none::none::r) (x::y::r):=fun i v e=>by
 match i with
 | 0=>cases e
 | 1=>cases e
 | i+2=>exact e
theorem same_put{H H':Hp}{p:Addr}{o:HO}(s:Same H H')(h:H p=none):Same H (upd H' p o):=fun b u e=>by
 rw [upd_ne (ne_of_none e h)];exact s b u e
theorem compL_if{a:Addr}{xs:List V}(p:V→Bool)(f:V→V)(hS:SqL K H1 a xs)(hz:xs.length≤sizeLine)(ht:∀b x H QT,x∈xs→Same H1 H→(∀H',Same H H'→QT (p x) H')→tt b (some x::tail) H QT)
 (he:∀b x H Q',x∈xs→p x=true→Same H1 H→(∀H',Same H H'→Q' (f x) H')→te b (some x::tail) H Q')
 (q:∀D H',H1 D=none→Same H1 H'→H' D=some (.lst ((xs.filter p).map f))→Q (.ref D) H'):CompTail (none::tail) (fun _=>gName 0) tt te Q (Itl K a) H1:=by
 intro b D hD
 refine ⟨fun i m ys H=>m=xs.length - i∧i≤xs.length∧ys=((xs.take i).filter p).map f∧H D=some (.lst ys)∧Same H1 H,⟨_,rfl,Nat.zero_le _,rfl,upd_same,same_new hD⟩,?_⟩
 rintro i m ys H ⟨rfl,hi,rfl,hd,sm⟩
 refine ⟨hd,?_⟩
 by_cases hlt:i < xs.length
 · refine .inr ⟨⟨xs,xs[i],sm.seq hS,by simp [hlt]⟩,fun x H3 ⟨e3,ex⟩=>⟨kept0,?_⟩⟩
   subst e3
   have hx:=ex xs (sm.seq hS)
   have hm:=List.mem_of_getElem? hx
   have hl:(((xs.take i).filter p).map f).length≤i:=by
    rw [List.length_map];exact Nat.le_trans (List.length_filter_le _ _) (by rw [List.length_take];omega)
   refine ht b x _ _ hm sm fun H7 s7=>?_
   have htk:(xs.take (i+1)).filter p=(xs.take i).filter p++[x].filter p:=by rw [List.take_add_one,hx,List.filter_append];rfl
   by_cases hp:p x=true
   · rw [if_pos hp]
     refine he b x H7 _ hm hp (sm.trans s7) fun H8 s8=>?_
     have hd8:=(s7.trans s8) _ _ hd
     refine ⟨hd8,by omega,xs.length - (i+1),by omega,rfl,hlt,?_,upd_same,same_put ((sm.trans s7).trans s8) hD⟩
     rw [htk,List.filter_cons_of_pos hp,List.filter_nil,List.map_append];rfl
   · rw [if_neg hp]
     refine ⟨xs.length - (i+1),by omega,rfl,hlt,?_,s7 _ _ hd,sm.trans s7⟩
     rw [htk,List.filter_cons_of_neg hp,List.filter_nil,List.append_nil]
 · have e:i=xs.length:=by omega
   subst e
   refine .inl ⟨⟨xs,sm.seq hS,Nat.le_refl _⟩,q D H hD sm ?_⟩
   rw [hd,List.take_length]
end
end L2
namespace L2
section
variable {X:Cx} {scope:Scope} {x y v:Str} {px py pt pv':Pos} {n i:Nat} {fs:List Nat} {elt iter c:Expr} {pos spos:Pos} {wi:TI} {tt:Blk→TT} {te:Blk→TE}
theorem ps_comp2I(x y:Str)(fs:List Nat)(hN:X.N.Nodup)(hy:X.N[i]?=some v)(hyl:X.env.kindOf v=some .local)(hc:X.calm=true)(hok:compOkB X.N X.env.scope scope [x,y] fs=true)(hi:PI X (.Tuple [.Name x px,.Name y py] n pt) iter wi)(ht:∀b,PT (X.blk scope ([x,y]++around X.N fs) b) c (tt b))(he:∀b,PE (X.blk scope ([x,y]++around X.N fs) b) elt (te b))
 (hsw:swapsWith (.ListComp elt [⟨.Tuple [.Name x px,.Name y py] n pt,iter,[c],0⟩] scope pos) (some (.Name v pv')) spos.line X.env=pure true:=by rfl)
 (hs:∀x,foldedSetIterable iter X.env x=pure x:=by intro _;rfl):PS X (.Assign [.Name v pv'] (.ListComp elt [⟨.Tuple [.Name x px,.Name y py] n pt,iter,[c],0⟩] scope pos) spos) (tAsg (tComp2 X.K wi fs tt te) (gName i)):=
 ps_comp (xs:=[x,y]) (g:=g2 X.K) (tt:=tt) hN hy hyl hc hok hi (pg_own2 hc hok) (fun b=>pts_one (ht b)) he hsw hs
end
end L2
namespace L2
noncomputable def itemsO(v d:Addr):HO:= .ext fun h=>h.IsItemsView v d
noncomputable def Iti(o:Obj)(d:Addr):It:=
 ⟨fun i H=>∃kvs p,H d=some (.frz o (.dK kvs))∧kvs[i]?=some p,fun i H v H'=>∃t k x,v= .ref t∧H t=none∧H'=upd H t (.tup [kV k,x])∧∀kvs,H d=some (.frz o (.dK kvs))→kvs[i]?=some (k,x),
  fun i H=>∃kvs,H d=some (.frz o (.dK kvs))∧kvs.length≤i⟩
noncomputable def tnI(o:Obj)(I d:Addr)(i:Nat)(h:Heap):Prop:=d≠I∧∃es ep ok ov,o.data= .dict es ep∧IsItemIter h I d i es.size ep ok ov
theorem turn_items{P:Program}{w:World}{K:PySem.W.Frag}{es:List Expr}{k:Nat}{pos:Pos}(o:Obj)(d I:Addr):Turn P w K (.Tuple es k pos) (Iti o d) [I] I (tnI o I d) where
 mem:=by simp
 obj:=fun i h st c hc=>by
  obtain ⟨_,es,ep,ok,ov,_,h1⟩:=st
  have hc:c=I:=by simpa using hc
  subst hc
  exact ⟨_,h1,fun v z=>by cases z⟩
 keep:=fun i h h' st kk=>by
  obtain ⟨ne,es,ep,ok,ov,hd,h1⟩:=st
  exact ⟨ne,es,ep,ok,ov,hd,kk I (by simp) _ h1⟩
 item:=by
  intro X hP hw hK hc i pins s σ H E J hf st hg
  subst hP hw hK
  obtain ⟨kvs,p,hd,hp⟩:=hg
  obtain ⟨ne,es,ep,ok,ov,hdat,h1⟩:=st
  obtain ⟨e,z,lo,ws,rel,ob,es2,ep2,e1,c1,d1,r1⟩:=J.hok d _ hd
  have e1':=e1
  rw [e]at e1'
  cases e1'
  rw [hdat]at d1
  cases d1
  have dat:s.heap.DictAt (mixKind X.prog X.w) d ws ep:=⟨o,es,e1,c1,hdat,r1⟩
  have hsz:es.size=ws.length:=by
   obtain ⟨_,hpr,_⟩:=r1
   rw [← hpr.length];simp
  rw [hsz]at h1
  have hlw:i < ws.length:=by rw [← rel.length];exact (List.getElem?_eq_some_iff.mp hp).1
  have hw:ws[i]?=some (ws[i]):=List.getElem?_eq_getElem hlw
  obtain ⟨p',hp',hpk,hpv⟩:=paired_get rel hw
  rw [hp]at hp'
  cases hp'
  have ltI:=Heap.lt_size h1
  refine wpAny_pyNext_items_item h1 dat (k:=(ws[i]).1) (v:=(ws[i]).2) hw fun key h' hkey ho hT hsz' hk=>?_
  refine ⟨_,rfl,wpAny_letOwnedTupleGo_items (s:={s with heap:=h'}) ho fun h6 e6 sb=>?_⟩
  have hf0:H s.heap.objs.size=none:=J.hok.fresh (Nat.le_refl _)
  have nI:I≠s.heap.objs.size:=Nat.ne_of_lt ltI
  have rk:RelV (kV p.1) key:=by rw [hpk];exact kV_of hkey
  have I0:Inv X pins σ (upd H s.heap.objs.size (.tup [kV p.1,p.2])) {s with heap:=s.heap.push {cls:= .type "tuple",data:= .seq #[key,(ws[i]).2]}}:=
   J.laid (t':=s.toks) (fun b u e=>Heap.get?_push_of_some _ e) (Nat.le_refl _) ⟨by simp [sizeLine];try decide,[key,(ws[i]).2],.cons rk (.cons hpv .nil),⟨_,Heap.get?_push_size _ rfl,rfl,_,rfl⟩⟩
  have hfp:∀c∈[I],FpOk X pins (upd H s.heap.objs.size (.tup [kV p.1,p.2])) c:=fun c hc'=>by
   have hc2:c=I:=by simpa using hc'
   obtain ⟨f0,f1,f2,f3,f4,f5⟩:=hf c hc'
   exact ⟨by rw [upd_ne (hc2▸nI)];exact f0,f1,f2,f3,f4,f5⟩
  have I1:Inv X pins σ (upd H s.heap.objs.size (.tup [kV p.1,p.2])) {s with heap:=h6}:=by
   refine Inv.turned2 (s:={s with heap:=s.heap.push {cls:= .type "tuple",data:= .seq #[key,(ws[i]).2]}}) (t':=s.toks) I0 (fun c o hc' q=>?_) hfp
   have hb':c≠I:=by simpa using hc'
   refine (sb.2 c hb').trans ?_
   rcases Heap.get?_push_cases q with ⟨rfl,rfl⟩ | q2
   · exact hT
   · exact hk c o hb' q2
  refine ⟨.ref s.heap.objs.size,upd H s.heap.objs.size (.tup [kV p.1,p.2]),I1,rfl,⟨_,p.1,p.2,rfl,hf0,rfl,fun kvs' hy'=>by rw [hd]at hy';cases hy';exact hp⟩,⟨ne,es,ep,key,(ws[i]).2,hdat,?_⟩,fun c hc'=>(hfp c hc').1⟩
  rw [hsz]
  exact e6
 done:=by
   intro X hP hw hK hc i pins s σ H E J hf st hg
   subst hP hw hK
   obtain ⟨kvs,hd,hl⟩:=hg
   obtain ⟨ne,es,ep,ok,ov,hdat,h1⟩:=st
   obtain ⟨e,z,lo,ws,rel,ob,es2,ep2,e1,c1,d1,r1⟩:=J.hok d _ hd
   have e1':=e1
   rw [e]at e1'
   cases e1'
   rw [hdat]at d1
   cases d1
   have dat:s.heap.DictAt (mixKind X.prog X.w) d ws ep:=⟨o,es,e1,c1,hdat,r1⟩
   have hsz:es.size=ws.length:=by
    obtain ⟨_,hpr,_⟩:=r1
    rw [← hpr.length];simp
   rw [hsz]at h1
   have hn:ws[i]?=none:=List.getElem?_eq_none (by rw [← rel.length];exact hl)
   exact wpAny_pyNext_items_end (J.ok.hd hc) h1 dat hn fun h' eb=>⟨rfl,Inv.turned2 (t':=s.toks) J (fun c o hb q=>eb c o (by simpa using hb) q) hf⟩
 self:=fun A i s Q E st h=>by
  obtain ⟨_,es,ep,ok,ov,_,h1⟩:=st
  exact PySem.W.kcp_self h1 h
section
variable {X:Cx}
noncomputable def rItems:V→List V→Hp→VK→Prop:=fun x vs H Q=>∃a kvs,x= .ref a∧vs=[]∧H a=some (.dK kvs)∧∀v,H v=none→Q (.ref v) (upd H v (itemsO v a))
theorem mt_items:MtM X "dict.items" rItems:=by
 intro pins s σ H x vs v us Q I rx rv h
 obtain ⟨a,kvs,rfl,rfl,ha,q⟩:=h
 cases rx
 have hus:=rv.zero
 subst hus
 obtain ⟨z,lo,ws,rel,dd⟩:=I.hok a _ ha
 refine call_meetsIn PySem.F.slot_dict_items dd.typeIs PySem.F.entry_dict_items (PySem.F.args_dict_items_1 _) (meets_dict_items (mixKind X.prog X.w) a lo) ⟨⟨ws,dd⟩,?_⟩
 refine ⟨.ref s.heap.objs.size,_,I.laid (t':=s.toks) (fun b o e=>Heap.get?_push_of_some _ e) (Nat.le_refl _) (show ObjOk X.prog X.w _ _ _ (itemsO s.heap.objs.size a) from ⟨⟨_,Heap.get?_push_size _ rfl,rfl,rfl⟩,⟨_,Heap.get?_push_size _ rfl⟩,fun h1 h2 ⟨o,e1,e2⟩ k=>⟨o,k _ e1,e2⟩⟩),rfl,q _ I.fresh⟩
noncomputable def iView(tv:TE):TI:=fun σ H R=>tv σ H fun x H1=>∃v d kvs,x= .ref v∧H1 v=some (itemsO v d)∧H1 d=some (.dK kvs)∧∀o,R (Iti o d) (upd H1 d (.frz o (.dK kvs)))
theorem pi_view{e:Expr}{tv:TE}{pp:Pos}{es:List Expr}{k:Nat}(hv:PE X e tv):PI X (.Tuple es k pp) e (iView tv):=by
 intro pins s σ H R I h
 refine thn (hv pins s σ H _ I h) fun u s1 hq_=>?_
 obtain ⟨x,H1,I1,rx,q⟩:=hq_
 obtain ⟨v,d,kvs,rfl,hv,hd,q⟩:=q
 cases rx
 have hvw:s1.heap.IsItemsView v d:=(I1.hok v _ hv).1
 obtain ⟨z,lo,ws,rel,ob,es2,ep2,e1,c1,d1,r1⟩:=I1.hok d _ hd
 have dat:s1.heap.DictAt (mixKind X.prog X.w) d ws ep2:=⟨ob,es2,e1,c1,d1,r1⟩
 have hsz:es2.size=ws.length:=by
  obtain ⟨_,hpr,_⟩:=r1
  rw [← hpr.length];simp
 refine wpAny_pyIter_items hvw dat ?_
 have I2:Inv X pins σ (upd H1 d (.frz ob (.dK kvs))) {s1 with heap:=s1.heap,toks:=s1.toks}:=I1.write (x:=d) (e:=d) (by rw [hd];trivial) (.inl rfl) (fun b u _ e=>e) ⟨ob,e1⟩ ⟨e1,z,lo,ws,rel,ob,es2,ep2,e1,c1,d1,r1⟩
 have I3:Inv X pins σ (upd H1 d (.frz ob (.dK kvs))) {s1 with heap:=s1.heap.push {cls:= .type "dict_itemiterator",data:= .fields #[.none,.bool false,.ref d,.int 0 0,.int ws.length 0,.int ep2 0,.none,.none]}}:=I2.kept (t':=s1.toks) fun b o e=>Heap.get?_push_of_some _ e
 have ltd:=Heap.lt_size e1
 refine ⟨s1.heap.objs.size,[s1.heap.objs.size],_,_,_,rfl,I3,turn_items ob d s1.heap.objs.size,⟨Nat.ne_of_lt ltd,es2,ep2,.none,.none,d1,?_⟩,fun c hc=>?_,q ob⟩
 · rw [hsz];exact Heap.get?_push_size _ rfl
 · have hc:c=s1.heap.objs.size:=by simpa using hc
   subst hc
   exact I2.fpOk (Nat.le_refl _) (I2.hok.fresh (Nat.le_refl _))
end
section
variable {K:PySem.W.Frag} {tail:St} {te:Blk→TE} {Q:VK} {H1:Hp} {σ:St} {H:Hp}
theorem rd_items{x:V}{vs:List V}:rItems x vs H Q=∃a kvs,x= .ref a∧vs=[]∧H a=some (.dK kvs)∧∀v,H v=none→Q (.ref v) (upd H v (itemsO v a)):=rfl
theorem rd_iview{tv:TE}{R:It→Hp→Prop}:iView tv σ H R=tv σ H fun x H1=>∃v d kvs,x= .ref v∧H1 v=some (itemsO v d)∧H1 d=some (.dK kvs)∧∀o,R (Iti o d) (upd H1 d (.frz o (.dK kvs))):=rfl
end
end L2
namespace L2
open N1 N5
theorem eqV_self{x:V}(h:flatV x=true):eqV x x=true:=by
 cases x with
 | non=>rfl
 | bl b=>cases b <;> rfl
 | int i=>exact beq_self_eq_true i
 | str z=>rw [eqV_str];simp
 | _=>cases h
end L2
namespace L2
noncomputable abbrev g3(K:PySem.W.Frag):Blk→TG:=fun _=>gTup K 3 (gCons (gName 0) (gCons (gName 1) (gCons (gName 2) gNil)))
noncomputable abbrev tComp3(K:PySem.W.Frag)(wi:TI)(fs:List Nat)(te:Blk→TE):TE:=tComp wi 3 fs (g3 K) (fun _=>tYes) te
section
variable {X:Cx} {scope:Scope} {x y z:Str} {px py pz pt:Pos} {n:Nat} {fs:List Nat} {elt iter:Expr} {pos:Pos} {wi:TI} {te:Blk→TE}
theorem pg_own3(hc:X.calm=true)(hok:compOkB X.N X.env.scope scope [x,y,z] fs=true)(b:Blk):PG (X.blk scope ([x,y,z]++around X.N fs) b) (.Tuple [.Name x px,.Name y py,.Name z pz] n pt) (g3 X.K b):=by
 have O:=compOk_of hok
 refine pg_tup (X:=X.blk scope ([x,y,z]++around X.N fs) b) hc (pgs_cons (pg_name O.nd rfl (.inl (lookup_relabel_local (O.own x (by simp)))) (.inr (lookup_relabel_local (O.own x (by simp))))) (pgs_cons (pg_name O.nd rfl (.inl (lookup_relabel_local (O.own y (by simp)))) (.inr (lookup_relabel_local (O.own y (by simp)))))
  (pgs_cons (pg_name O.nd rfl (.inl (lookup_relabel_local (O.own z (by simp)))) (.inr (lookup_relabel_local (O.own z (by simp))))) pgs_nil)))
end
section
variable {K:PySem.W.Frag} {tail:St} {te:Blk→TE} {Q:VK} {H1:Hp} {σ:St} {H:Hp}
theorem rd_comp3{wi:TI}{fs:List Nat}:tComp3 K wi fs te σ H Q=wi σ H (CompTail (none::none::none::fs.map fun j=>σ.getD j none) (g3 K) (fun _=>tYes) te Q):=rfl
theorem kept3{x y z:Option V}{r:St}:Kept (none::none::none::r) (x::y::z::r):=fun i v e=>by
 match i with
 | 0=>cases e
 | 1=>cases e
 | 2=>cases e
 | i+3=>exact e
end
end L2
namespace N12
open L2 N1 N5 N4 N6
end N12
namespace L2
open PySem.W
noncomputable def rSumL(K:PySem.W.Frag):List V→Hp→VK→Prop:=fun xs H Q=>∃(p:Addr) (is:List Int),xs=[.ref p]∧SqL K H p (is.map V.int)∧Q (.int is.sum) H
theorem preSum_is(is:List Int):preSum (fun i=>is.getD i 0) is.length=is.sum:=by
 have key:∀n,n≤is.length→preSum (fun i=>is.getD i 0) n=(is.take n).sum:=by
  intro n
  induction n with
  | zero=>intro _;rfl
  | succ n ih=>
   intro h
   have e:is.take (n+1)=is.take n++[is.getD n 0]:=by
    rw [List.take_add_one,List.getD_eq_getElem?_getD,List.getElem?_eq_getElem (by omega)]
    rfl
   rw [preSum,ih (by omega),e,List.sum_append]
   simp
 have:=key is.length (Nat.le_refl _)
 rwa [List.take_length]at this
section
variable {X:Cx}
theorem call_sumL(hc:X.calm=true):CallR X (.builtin "sum") (rSumL X.K):=by
 intro pins s σ H xs us Q I r h
 obtain ⟨p,is,rfl,hp,q⟩:=h
 obtain ⟨u,rfl,ru⟩:=vals1 r
 cases ru
 obtain ⟨its,r,pl,hz⟩:=I.list hp
 have hlt:p < s.heap.objs.size:=by obtain ⟨o,n,e,_⟩:=pl;exact Heap.lt_size e
 have hlen:=r.length
 rw [List.length_map]at hlen
 refine call_sum_walkAnyS (wpAny_pyIter_list pl.isList ⟨s.heap.objs.size,_,_,_,_,_,_,fun i=>is.getD i 0,rfl,(Walks.list (show X.A.in1.handled=none from I.ok.hd hc) s.heap.objs.size p (Nat.ne_of_lt hlt) its.toArray).toS,⟨⟨_,Heap.get?_push_size _ rfl,rfl,rfl⟩,pl.isList.push _⟩,fun b hb=>?_,fun i v hP=>?_,fun s' t' hmv=>?_⟩)
 · show b < (s.heap.push _).objs.size
   rw [Heap.size_push]
   rcases List.mem_cons.mp hb with e | hb
   · rw [e];exact Nat.lt_succ_self _
   · rw [List.mem_singleton.mp hb];exact Nat.lt_succ_of_lt hlt
 · have hP:its.toArray[i]?=some v:=hP
   have hi:i < is.length:=by
    have:=(Array.getElem?_eq_some_iff.mp hP).1
    rw [List.size_toArray]at this
    omega
   obtain ⟨u,hu,ru⟩:=r.get (i:=i) (x:=V.int (is[i])) (by simp [hi])
   have e:u=v:=by
    have:its[i]?=some v:=by simpa using hP
    rw [hu]at this;exact Option.some.inj this
   subst e
   show ∃t,u=Value.int (is.getD i 0) t
   rw [List.getD_eq_getElem?_getD,List.getElem?_eq_getElem hi]
   exact ru
 · have hk:∀b o,s.heap.get? b=some o→s'.heap.get? b=some o:=fun b o e=>
    hmv.heap b o (fun hI=>absurd (Heap.lt_size e) (by rw [List.mem_singleton.mp hI];exact Nat.lt_irrefl _)) (Heap.get?_push_of_some _ e)
   rw [Moved.eq_with hmv]
   refine ⟨.int is.sum,H,I.kept (t':=s'.toks) hk,⟨t',?_⟩,q⟩
   rw [List.size_toArray,← hlen,preSum_is]
end
section
variable {σ:St} {H:Hp} {Q:VK} {D:Ends} {K:PySem.W.Frag} {xs:List V} {x y:V}
theorem rd_sumL:rSumL K xs H Q=∃(p:Addr) (is:List Int),xs=[.ref p]∧SqL K H p (is.map V.int)∧Q (.int is.sum) H:=rfl
theorem rd_ipI{f:Int→Int→Int}:ipI f x y H Q=∃i j,x= .int i∧y= .int j∧Q (.int (f i j)) H:=rfl
end
end L2
namespace N31
open L2 N1 N5
end N31
namespace N32
open L2 N1 N5 N31
noncomputable def lastIx(ys:List Str)(z:Str):Nat→Option Nat
 | 0=>none
 | n+1=>if ys.getD n Str.empty=z then some n else lastIx ys z n
noncomputable def ear(ys:List Str)(i:Nat):Option Nat:=lastIx ys (ys.getD i Str.empty) i
noncomputable def W(R:Str→Int)(ys:List Str)(n j:Nat):Int:=if lastIx ys (ys.getD j Str.empty) n=some j then R (ys.getD j Str.empty) else 0
noncomputable def tl(f:Nat→Int)(b n:Nat):Int:=((List.range' b (n - b)).map f).sum
noncomputable def dep(R:Str→Int)(ys:List Str)(n:Nat):Option Int:=(ear ys n).map fun b=>tl (W R ys n) b n
end N32
namespace N32
open L2 N1 N5 N31 N4
noncomputable def rm(ts:List Th)(z:Str):Int:=((ts.find? fun t=>decide (t.1=z)).map (·.2.2)).getD 0
theorem rm_at{ts:List Th}(nd:(ts.map (·.1)).Nodup){i:Nat}{t:Th}(h:ts[i]?=some t):rm ts t.1=t.2.2:=by
 induction ts generalizing i with
 | nil=>simp at h
 | cons u r ih=>
  rw [List.map_cons,List.nodup_cons]at nd
  cases i with
  | zero=>
   rw [List.getElem?_cons_zero]at h
   cases h
   simp [rm]
  | succ i=>
   rw [List.getElem?_cons_succ]at h
   have ne:¬u.1=t.1:=fun e=>nd.1 (by rw [e];exact List.mem_map.mpr ⟨t,List.mem_of_getElem? h,rfl⟩)
   have:=ih nd.2 h
   unfold rm at this ⊢
   rw [List.find?_cons_of_neg (by simpa using ne)]
   exact this
theorem none_of{H H':Hp}{D:Addr}(s:Same H H')(h:H' D=none):H D=none:=by
 cases e:H D with
 | none=>rfl
 | some o=>rw [s _ _ e]at h;cases h
theorem same_upd{H H':Hp}{p:Addr}{o:HO}(s:Same H H')(h:H p=none):Same H (upd H' p o):=fun b u e=>by
 rw [upd_ne (ne_of_none e h)];exact s b u e
noncomputable def sp32_check:Sp:=fun vs H Q _=>∃(i:Int),vs=[.int i]∧1≤i∧i≤1000000∧Q .non H
noncomputable def sp32_thing(K:PySem.W.Frag)(C:Addr):Sp:=fun vs H Q _=>∃(p:Addr) (ts:List Th) (z:Str),vs=[.ref p,.str z]∧StockAt K C H p ts∧(ts.map (·.1)).Nodup∧z∈ts.map (·.1)∧∀(i:Nat) (t:Th),ts[i]?=some t→t.1=z→∀a,SqT K H a [.int i,.int t.2.1,.int t.2.2]→Q (.ref a) H
noncomputable def sp32_room(K:PySem.W.Frag)(C:Addr):Sp:=fun vs H Q _=>∃(p:Addr) (ts:List Th) (z:Str),vs=[.ref p,.str z]∧StockAt K C H p ts∧(ts.map (·.1)).Nodup∧z∈ts.map (·.1)∧Q (.int (rm ts z)) H
section
variable {K:PySem.W.Frag} {σ:L2.St} {H:Hp} {Q:VK}
theorem rd_dget1{td ty:TE}:tDGet1 td ty σ H Q=td σ H fun x H1=>∃a,x= .ref a∧IsD H1 a∧ty σ H1 fun y H2=>∃o,DGet H2 a y o∧Q (o.getD .non) H2:=rfl
theorem rd_disp1{tk tv:TE}:tDisp [(tk,tv)] σ H Q=∀p,H p=none→tk σ (upd H p (.dK [])) fun x H1=>tv σ H1 fun y H2=>H2 p=some (.dK [])∧∃kvs:List (Key×V),[(x,y)]=kvs.map (fun kv=>(kV kv.1,kv.2))∧kvs.length≤15∧Q (.ref p) (upd H2 p (.dK (mergeK [] kvs))):=rfl
end
end N32
namespace N32
open L2 N1 N5 N31 N4
theorem nd_getD{ys:List Str}(nd:ys.Nodup){i j:Nat}(hi:i < ys.length)(hj:j < ys.length)(h:ys.getD i Str.empty=ys.getD j Str.empty):i=j:=by
 rw [List.getD_eq_getElem?_getD,List.getElem?_eq_getElem hi,List.getD_eq_getElem?_getD,List.getElem?_eq_getElem hj]at h
 exact (List.getElem_inj nd).mp h
end N32
open L2 N1 N5 N31 N4 N32
namespace N41
noncomputable def seg(T:List Int)(a b:Nat):Int:=((T.take b).drop a).sum
noncomputable def leastAt(c r:Str→Int)(T:List Int)(S:Int)(ys:List Str)(n:Nat):Int:=
 match ear ys n with
 | none=>c (ys.getD n Str.empty) * S
 | some e=>min (c (ys.getD n Str.empty) * S) (r (ys.getD n Str.empty) * seg T (e+1) n)
noncomputable def fl(c r:Str→Int)(T:List Int)(S P:Int)(ys:List Str):Nat→Int
 | 0=>0
 | n+1=>fl c r T S P ys n+(leastAt c r T S ys n - T.getD n 0 * (P - r (ys.getD n Str.empty)))
noncomputable def sm(f:Str→Int)(L:List Str):Int:=(L.map f).sum
end N41
namespace N41
noncomputable def cst(ts:List Th)(z:Str):Int:=((ts.find? fun t=>decide (t.1=z)).map (·.2.1)).getD 0
theorem cst_at{ts:List Th}(nd:(ts.map (·.1)).Nodup){i:Nat}{t:Th}(h:ts[i]?=some t):cst ts t.1=t.2.1:=by
 induction ts generalizing i with
 | nil=>simp at h
 | cons u r ih=>
  rw [List.map_cons,List.nodup_cons]at nd
  cases i with
  | zero=>
   rw [List.getElem?_cons_zero]at h
   cases h
   simp [cst]
  | succ i=>
   rw [List.getElem?_cons_succ]at h
   have ne:¬u.1=t.1:=fun e=>nd.1 (by rw [e];exact List.mem_map.mpr ⟨t,List.mem_of_getElem? h,rfl⟩)
   have:=ih nd.2 h
   unfold cst at this ⊢
   rw [List.find?_cons_of_neg (by simpa using ne)]
   exact this
noncomputable def sp41_asks(K:PySem.W.Frag)(C:Addr):Sp:=fun vs H Q _=>∃(p a:Addr) (pl:Int) (ts:List Th) (ys:List Str),vs=[.ref p,.ref a,.int pl]∧StockAt K C H p ts∧(ts.map (·.1)).Nodup∧SqL K H a (ys.map V.str)∧ys.length≤200∧(∀y∈ys,y∈ts.map (·.1))∧(∀y∈ys,rm ts y≤pl)∧1≤pl∧pl≤1000000∧∀H',Same H H'→Q (.bl true) H'
noncomputable def sp41_cost(K:PySem.W.Frag)(C:Addr):Sp:=fun vs H Q _=>∃(p:Addr) (ts:List Th) (z:Str),vs=[.ref p,.str z]∧StockAt K C H p ts∧(ts.map (·.1)).Nodup∧z∈ts.map (·.1)∧Q (.int (cst ts z)) H
end N41
namespace L2
theorem rd_augN{σ:St}{H:Hp}{D:Ends}{i:Nat}{te:TE}{ti:TIp}:tAug i te ti D σ H=∃x,σ[i]?=some (some x)∧te σ H fun y H1=>ti x y H1 fun z H2=>D.nx (σ.set i (some z)) H2:=rfl
end L2
namespace N41
open L2 N1 N5 N31 N4 N32
theorem sum_in{l:List Int}{M:Int}(hM:0≤M)(h:∀t∈l,0≤t∧t≤M):0≤l.sum∧l.sum≤l.length * M:=by
 induction l with
 | nil=>simp
 | cons x r ih=>
  rw [List.sum_cons,List.length_cons]
  have h1:=h x List.mem_cons_self
  have h2:=ih fun t ht=>h t (List.mem_cons_of_mem _ ht)
  have e:((r.length+1:Nat):Int) * M=r.length * M+M:=by rw [Int.natCast_add,Int.add_mul];simp
  rw [e]
  omega
noncomputable def nmR(c:Int)(k:Nat):List Nat:=List.replicate (1+k % 8) (bc ((c+(k:Int) / 8) % 26))
theorem nmR_name{c:Int}{k:Nat}:nameB (nmR c k)=true:=by
 have hb:bc ((c+(k:Int) / 8) % 26)∈letters:=bc_let
 unfold nmR
 generalize bc ((c+(k:Int) / 8) % 26)=x at hb ⊢
 have hl:1+k % 8≤8:=by omega
 obtain ⟨n,hn⟩:∃n,1+k % 8=n+1:=⟨k % 8,by omega⟩
 rw [hn]at hl ⊢
 unfold nameB
 have e1:(List.replicate (n+1) x).length=n+1:=List.length_replicate ..
 simp only [Bool.and_eq_true,decide_eq_true_eq,e1]
 refine ⟨⟨⟨by omega,by omega⟩,?_⟩,?_⟩
 all_goals first | (rw [List.replicate_succ];unfold headIn;simp [hb];done) | (rw [List.all_eq_true];intro y hy;rw [(List.mem_replicate.mp hy).2];simp [hb];done) | (simp [List.replicate_succ,hb];done) | simp_all
theorem nmR_inj{c:Int}{k k':Nat}(hk:k < 16)(hk':k' < 16)(h:nmR c k=nmR c k'):k=k':=by
 have h1:=congrArg List.length h
 unfold nmR at h1 h
 rw [List.length_replicate,List.length_replicate]at h1
 have h2:bc ((c+(k:Int) / 8) % 26)=bc ((c+(k':Int) / 8) % 26):=by
  rw [← h1,show 1+k % 8=(k % 8)+1 by omega,List.replicate_succ,List.replicate_succ]at h
  exact (List.cons.inj h).1
 have h3:=bc_inj (Int.emod_nonneg _ (by decide)) (Int.lt_of_lt_of_le (Int.emod_lt_of_pos _ (by decide)) (by decide)) (Int.emod_nonneg _ (by decide)) (Int.lt_of_lt_of_le (Int.emod_lt_of_pos _ (by decide)) (by decide)) h2
 omega
noncomputable def nmB(w:Bool)(c:Int)(at':Int)(L:Nat)(k:Nat):List Nat:=if w then nmL (fun j:Nat=>c+5 * (j:Int)) at' L k else nmR c k
noncomputable def nmsB(w:Bool)(c:Int)(at':Int)(L m:Nat):List Str:=(List.range m).map fun k=>tx (nmB w c at' L k)
theorem nmsB_nodup{w:Bool}{c at':Int}{L m:Nat}(h0:0≤at')(h1:at' < L)(hm:m≤16):(nmsB w c at' L m).Nodup:=by
 unfold nmsB List.Nodup
 rw [List.pairwise_map]
 refine List.Pairwise.imp_of_mem (R:=fun a b=>a≠b) ?_ List.nodup_range
 intro a b ha hb hab e
 have ha':=List.mem_range.mp ha
 have hb':=List.mem_range.mp hb
 have e':=T_inj e
 unfold nmB at e'
 cases w with
 | true=>exact hab (nmL_inj h0 h1 (by omega) (by omega) e')
 | false=>exact hab (nmR_inj (by omega) (by omega) e')
theorem nmsB_name{w:Bool}{c at':Int}{L m:Nat}(h1:1≤L)(h2:L≤8):∀y∈nmsB w c at' L m,nameB y.cps.toList=true:=fun y hy=>by
 unfold nmsB at hy
 obtain ⟨k,_,rfl⟩:=List.mem_map.mp hy
 rw [T_list]
 unfold nmB
 cases w with
 | true=>exact nmL_name h1 h2
 | false=>exact nmR_name
noncomputable def sp41_names:Sp:=fun vs H Q _=>∃(i:Int) (m:Nat),vs=[.int i,.int m]∧m≤9∧∀(p:Addr) (ys:List Str) (H':Hp),H p=none→Same H H'→H' p=some (.lst (ys.map V.str))→ys.length≤m→m≤ys.length→ys.Nodup→(∀y∈ys,nameB y.cps.toList=true)→Q (.ref p) H'
noncomputable def sp41_whole:Sp:=fun vs H Q _=>∃i:Int,vs=[.int i]∧Q (.bl true) H
noncomputable def sp41_mixed:Sp:=fun vs H Q _=>∃(c k:Int),vs=[.int c,.int k]∧∀v:Int,0≤v→v < 2147483629→Q (.int v) H
noncomputable def sp41_lcost:Sp:=fun vs H Q _=>∃(c k:Int),vs=[.int c,.int k]∧∀v:Int,0≤v→v≤10 ^ 30→Q (.int v) H
noncomputable def sp41_lroom:Sp:=fun vs H Q _=>∃(c k:Int),vs=[.int c,.int k]∧∀v:Int,1≤v→v≤1000→Q (.int v) H
noncomputable def sp41_lplaces:Sp:=fun vs H Q _=>∃(c w t:Int),vs=[.int c,.int w,.int t]∧1≤w∧w≤1000∧0≤t∧t≤100000∧∀v:Int,w≤v→v≤1000000→Q (.int v) H
theorem fold_rep{x:Nat}:∀(n:Nat) (acc:Array Nat),(List.replicate n #[x]).foldl (· ++·) acc=acc++(List.replicate n x).toArray:=by
 intro n
 induction n with
 | zero=>intro acc;simp
 | succ n ih=>
  intro acc
  rw [List.replicate_succ,List.foldl_cons,ih,List.replicate_succ]
  apply Array.toList_inj.mp
  simp
theorem mul_rep{x:Nat}{n:Int}(h:1≤n):Txt.mul ⟨#[x]⟩ n=tx (List.replicate n.toNat x):=by
 unfold Txt.mul
 rw [if_neg (by omega)]
 by_cases e:n=1
 · subst e;rfl
 · rw [if_neg (by rw [len_one];simp [e])]
   show (⟨_⟩:Str)=⟨_⟩
   congr 1
   rw [fold_rep]
   simp
theorem mul_okR{x:Nat}{n:Int}(h0:0≤n)(h:n≤8):MulOk ⟨#[x]⟩ n:=by
 have hc:n=0∨n=1∨n=2∨n=3∨n=4∨n=5∨n=6∨n=7∨n=8:=by omega
 unfold MulOk
 rw [len_one]
 rcases hc with rfl | rfl | rfl | rfl | rfl | rfl | rfl | rfl | rfl <;> exact ⟨by decide,by decide,by decide+kernel⟩
theorem nmL_s{F:Nat→Int}{at':Int}{j k:Nat}:nmL F at' (j+1) k=nmL F at' j k++[sgn F at' k j]:=by unfold nmL;rw [List.range_succ,List.map_append];rfl
theorem nmL_l{F:Nat→Int}{at':Int}{L k:Nat}:(nmL F at' L k).length=L:=by simp [nmL]
theorem nmL_one{c at':Int}{k:Nat}:nmL (fun j:Nat=>c+5 * (j:Int)) at' 1 k=[bc ((c+(k:Int) * (if at'=0 then 1 else 0)) % 26)]:=by
 rw [nmL_s]
 show []++_=_
 unfold sgn md
 rw [List.nil_append,if_pos rfl]
 congr 3
 by_cases h:at'=0
 · rw [if_pos (by rw [h];rfl),if_pos h];simp
 · rw [if_neg (fun e=>h e.symm),if_neg h];simp
theorem nmL_more{c at':Int}{k j:Nat}:nmL (fun j:Nat=>c+5 * (j:Int)) at' (1+j+1) k=nmL (fun j:Nat=>c+5 * (j:Int)) at' (1+j) k++[bc ((c+5 * (1+(j:Int))+(k:Int) * (if 1+(j:Int)=at' then 1 else 0)) % 36)]:=by
 rw [nmL_s]
 congr 2
 unfold sgn md
 have e:((1+j:Nat):Int)=1+(j:Int):=by omega
 rw [e,if_neg (show ¬(1+j=0) by omega)]
 congr 2
 by_cases h:1+(j:Int)=at'
 · rw [if_pos h,if_pos h];simp
 · rw [if_neg h,if_neg h];simp
theorem nmsB_succ{w:Bool}{c at':Int}{L k:Nat}:nmsB w c at' L (k+1)=nmsB w c at' L k++[tx (nmB w c at' L k)]:=by
 unfold nmsB;rw [List.range_succ,List.map_append];rfl
theorem getD_s{ys:List Str}{k:Nat}(h:k < ys.length):ys[k]?=some (ys.getD k Str.empty):=by rw [List.getD_eq_getElem?_getD,List.getElem?_eq_getElem h];rfl
noncomputable def kvN(ys:List Str)(f:Str→Int):List (Key×V):=ys.map fun y=>(Sum.inr y,V.int (f y))
noncomputable def upF(f:Str→Int)(y:Str)(v:Int):Str→Int:=fun u=>if u=y then v else f u
theorem upF_same{f:Str→Int}{y:Str}{v:Int}:upF f y v y=v:=if_pos rfl
theorem upF_ne{f:Str→Int}{y u:Str}{v:Int}(h:u≠y):upF f y v u=f u:=if_neg h
theorem kvN_val{ys:List Str}{f:Str→Int}{y:Str}(h:y∈ys):valV (kvN ys f) (Sum.inr y)=some (.int (f y)):=by
 unfold kvN
 induction ys with
 | nil=>cases h
 | cons x r ih=>
  rw [List.map_cons]
  by_cases e:x=y
  · subst e;rw [valV_pos rfl]
  · rw [valV_neg (fun z=>e (by injection z))]
    exact ih ((List.mem_cons.mp h).resolve_left fun z=>e z.symm)
theorem kvN_none{ys:List Str}{f:Str→Int}{y:Str}(h:y∉ys):valV (kvN ys f) (Sum.inr y)=none:=by
 unfold kvN
 induction ys with
 | nil=>rfl
 | cons x r ih=>
  rw [List.map_cons,valV_neg (fun z=>h (by injection z with z;rw [z];exact List.mem_cons_self))]
  exact ih fun z=>h (List.mem_cons_of_mem _ z)
theorem kvN_snoc{ys:List Str}{f:Str→Int}{y:Str}{v:Int}(h:y∉ys):putK (kvN ys f) (Sum.inr y) (.int v)=kvN (ys++[y]) (upF f y v):=by
 rw [putK_new _ (kvN_none h)]
 unfold kvN
 rw [List.map_append]
 congr 1
 · refine List.map_congr_left fun x hx=>?_
   rw [upF_ne (fun e=>h (by rw [← e];exact hx))]
 · rw [List.map_cons,upF_same];rfl
theorem kvN_vals{ys:List Str}{f:Str→Int}:(kvN ys f).map (·.2)=(ys.map f).map V.int:=by
 unfold kvN;rw [List.map_map,List.map_map];rfl
theorem kvN_len{ys:List Str}{f:Str→Int}:(kvN ys f).length=ys.length:=by unfold kvN;rw [List.length_map]
noncomputable def tsF(C R:Str→Int)(ys:List Str):List Th:=ys.map fun y=>(y,C y,R y)
theorem tsF_names{C R:Str→Int}{ys:List Str}:(tsF C R ys).map (·.1)=ys:=by
 unfold tsF;rw [List.map_map];exact (List.map_congr_left fun _ _=>rfl).trans (List.map_id ys)
theorem tsF_len{C R:Str→Int}{ys:List Str}:(tsF C R ys).length=ys.length:=by unfold tsF;rw [List.length_map]
theorem tsF_at{C R:Str→Int}{ys:List Str}{i:Nat}(h:i < ys.length):(tsF C R ys)[i]?=some (ys.getD i Str.empty,C (ys.getD i Str.empty),R (ys.getD i Str.empty)):=by
 unfold tsF;rw [List.getElem?_map,getD_s h];rfl
theorem tsF_cst{C R:Str→Int}{ys:List Str}{y:Str}(nd:ys.Nodup)(h:y∈ys):cst (tsF C R ys) y=C y∧rm (tsF C R ys) y=R y:=by
 obtain ⟨i,hi⟩:=List.mem_iff_getElem?.mp h
 have hl:=(List.getElem?_eq_some_iff.mp hi).1
 have e:ys.getD i Str.empty=y:=by rw [List.getD_eq_getElem?_getD,hi];rfl
 have ht:=tsF_at (C:=C) (R:=R) hl
 rw [e]at ht
 have hn:((tsF C R ys).map (·.1)).Nodup:=by rw [tsF_names];exact nd
 exact ⟨cst_at hn ht,rm_at hn ht⟩
theorem rows41{K:PySem.W.Frag}{H:Hp}{D:Addr}{as:List Addr}{ys:List Str}{C R:Str→Int}(hD:H D=some (.lst (as.map V.ref)))(hl:as.length=ys.length)(hm:ys.length≤60)(nd:ys.Nodup)(hn:∀y∈ys,nameB y.cps.toList=true)(hb:∀y∈ys,0≤C y∧C y≤10 ^ 30∧1≤R y∧R y≤1000)
 (hall:∀(i:Nat) (a:Addr),as[i]?=some a→SqT K H a [.str (ys.getD i Str.empty),.int (C (ys.getD i Str.empty)),.int (R (ys.getD i Str.empty))]):RowsAt K H D as (tsF C R ys):=by
 refine ⟨SqL.of hD,by rw [hl,tsF_len],by rw [tsF_len];exact hm,fun i a t h1 h2=>?_,fun t ht=>?_,by rw [tsF_names];exact nd⟩
 · have hi:i < ys.length:=by rw [← tsF_len (C:=C) (R:=R)];exact (List.getElem?_eq_some_iff.mp h2).1
   rw [tsF_at hi]at h2
   cases h2
   exact hall i a h1
 · unfold tsF at ht
   obtain ⟨y,hy,rfl⟩:=List.mem_map.mp ht
   exact ⟨hn y hy,hb y hy⟩
noncomputable def ask1S(ys:List Str)(m:Nat)(c:Int):Str:=ys.getD (c % (m:Int)).toNat Str.empty
noncomputable def ask1(ys:List Str)(m:Nat):V→V
 | .int c=> .str (ask1S ys m c)
 | _=> .non
theorem ask1_list{ys:List Str}{m:Nat}{cs:List Int}:(cs.map V.int).map (ask1 ys m)=(cs.map (ask1S ys m)).map V.str:=by
 rw [List.map_map,List.map_map];rfl
theorem rowsame{K:PySem.W.Frag}{H H':Hp}{r:Addr}{as:List Addr}{ts:List Th}(m:Same H H')(h:RowsAt K H r as ts):RowsAt K H' r as ts:=⟨m.seq h.l,h.n,h.m,fun i a t e1 e2=>m.tup (h.at_ i a t e1 e2),h.ok,h.nd⟩
noncomputable def rmV(R:Str→Int):V→V
 | .str s=> .int (R s)
 | _=> .non
theorem rmV_list{R:Str→Int}{zs:List Str}:(zs.map V.str).map (rmV R)=(zs.map R).map V.int:=by
 rw [List.map_map,List.map_map];rfl
theorem cut_tailR(as:List Addr):cutV (as.map V.ref) (some 1) none=(as.drop 1).map V.ref:=by
 unfold cutV
 rw [show (some (1:Int))=some ((1:Nat):Int) from rfl,HT.sIx_nat,HT.sIx_none,List.length_map,← List.map_drop,← List.map_take]
 congr 1
 by_cases h:1≤as.length
 · rw [Nat.min_eq_left h]
   exact List.take_of_length_le (by rw [List.length_drop];omega)
 · have e:as=[]:=List.length_eq_zero_iff.mp (by omega)
   subst e;rfl
end N41
namespace N41
open L2 N1 N5 N31 N4 N32
theorem nd_len{L ys:List Str}(nd:L.Nodup)(h:∀u∈L,u∈ys):L.length≤ys.length:=List.Nodup.length_le_of_subset nd h
end N41
namespace L2
noncomputable def LikeN(K:PySem.W.Frag):Nat→Hp→V→V→Prop
 | 0,_,x,y=>x=y∧flatV x=true
 | n+1,H,x,y=>LikeN K n H x y∨∃a b xs ys,x= .ref a∧y= .ref b∧((SqL K H a xs∧SqL K H b ys)∨(SqT K H a xs∧SqT K H b ys))∧xs.length=ys.length∧∀(i:Nat) (x' y':V),xs[i]?=some x'→ys[i]?=some y'→LikeN K n H x' y'
noncomputable def LikeR(K:PySem.W.Frag)(n:Nat)(H:Hp)(x y:V):Prop:=∃a b xs ys,x= .ref a∧y= .ref b∧((SqL K H a xs∧SqL K H b ys)∨(SqT K H a xs∧SqT K H b ys))∧xs.length=ys.length∧∀(i:Nat) (x' y':V),xs[i]?=some x'→ys[i]?=some y'→LikeN K n H x' y'
theorem LikeN.up{K:PySem.W.Frag}{H:Hp}{n:Nat}{x y:V}(h:LikeN K n H x y):LikeN K (n+1) H x y:=by unfold LikeN;exact .inl h
theorem LikeN.of{K:PySem.W.Frag}{H:Hp}{n:Nat}{x y:V}(h:LikeR K n H x y):LikeN K (n+1) H x y:=by unfold LikeN;exact .inr h
theorem LikeN.flat{K:PySem.W.Frag}{H:Hp}{x:V}(h:flatV x=true):∀{n:Nat},LikeN K n H x x:=by
 intro n
 induction n with
 | zero=>unfold LikeN;exact ⟨rfl,h⟩
 | succ n ih=>exact ih.up
section
variable {X:Cx} {pins:List (Addr×Obj)} {σ:St} {H:Hp} {s:Shared}
theorem items_of{xs ys:List V}{us ws:List Value}{P:V→V→Prop}{R:Value→Value→Prop}(rx:Vals xs us)(ry:Vals ys ws)(hl:xs.length=ys.length)(h:∀(i:Nat) (x y:V),xs[i]?=some x→ys[i]?=some y→P x y)(k:∀x y u w,RelV x u→RelV y w→P x y→R u w):
 ∀j (h1:j < us.toArray.size) (h2:j < ws.toArray.size),R us.toArray[j] ws.toArray[j]:=by
 intro j h1 h2
 have lx:=rx.length
 have ly:=ry.length
 rw [List.size_toArray]at h1 h2
 have hx:j < xs.length:=by omega
 have hy:j < ys.length:=by omega
 obtain ⟨u,hu,ru⟩:=rx.get (i:=j) (x:=xs[j]) (by simp [hx])
 obtain ⟨w,hw,rw'⟩:=ry.get (i:=j) (x:=ys[j]) (by simp [hy])
 have eu:us.toArray[j]=u:=by
  have:=List.getElem?_eq_getElem h1
  rw [this]at hu
  simpa using hu
 have ew:ws.toArray[j]=w:=by
  have:=List.getElem?_eq_getElem h2
  rw [this]at hw
  simpa using hw
 rw [eu,ew]
 exact k _ _ _ _ ru rw' (h j _ _ (List.getElem?_eq_getElem hx) (List.getElem?_eq_getElem hy))
theorem all_true{n:Nat}:((List.range n).all fun _=>true)=true:=by rw [List.all_eq_true];intros;rfl
theorem likeR_rc{n:Nat}{x y:V}{u w:Value}{A:Around}(I:Inv X pins σ H s)(rx:RelV x u)(ry:RelV y w)(h:LikeR X.K n H x y)(hu:A.units < cLine)
 (k:∀x y u w,RelV x u→RelV y w→LikeN X.K n H x y→SeqAt.EqAt A.in1 s u w true):SeqAt.RcAt A s u w true∧SeqAt.RcNeAt A s u w false:=by
 obtain ⟨a,b,xs,ys,rfl,rfl,hq,hl,hall⟩:=h
 cases rx
 cases ry
 rcases hq with ⟨h1,h2⟩ | ⟨h1,h2⟩
 · obtain ⟨us,r1,p1,z1⟩:=I.list h1
   obtain ⟨ws,r2,p2,z2⟩:=I.list h2
   have lx:=r1.length
   have ly:=r2.length
   have he:=items_of r1 r2 hl hall k
   have c1:=SeqAt.RcAt.lists (e:=fun _=>true) p1.isList p2.isList (by simp;omega) hu he
   have c2:=SeqAt.RcNeAt.lists (e:=fun _=>true) p1.isList p2.isList (by simp;omega) hu he
   rw [all_true]at c1 c2
   exact ⟨c1,c2⟩
 · obtain ⟨us,r1,p1,z1⟩:=I.tuple h1
   obtain ⟨ws,r2,p2,z2⟩:=I.tuple h2
   have lx:=r1.length
   have ly:=r2.length
   have he:=items_of r1 r2 hl hall k
   have hsz:us.toArray.size=ws.toArray.size:=by simp;omega
   have c1:=SeqAt.RcAt.tuples (e:=fun _=>true) (show s.heap.IsTuple a us.toArray from p1) (show s.heap.IsTuple b ws.toArray from p2) hu he
   have c2:=SeqAt.RcNeAt.tuples (e:=fun _=>true) (show s.heap.IsTuple a us.toArray from p1) (show s.heap.IsTuple b ws.toArray from p2) hu he
   rw [all_true,hsz,beq_self_eq_true,Bool.and_true]at c1 c2
   exact ⟨c1,c2⟩
theorem likeN_at(I:Inv X pins σ H s):∀(n:Nat) (x y:V) (u w:Value) (A:Around),RelV x u→RelV y w→LikeN X.K n H x y→A.units+n < cLine→SeqAt.EqAt A s u w true:=by
 intro n
 induction n with
 | zero=>
  intro x y u w A rx ry h hu
  unfold LikeN at h
  obtain ⟨rfl,f⟩:=h
  have:=eqAt_V (A:=A) (s:=s) rx ry f f
  rw [show eqV x x=true from eqV_self f]at this
  exact this
 | succ n ih=>
  intro x y u w A rx ry h hu
  unfold LikeN at h
  rcases h with h | h
  · exact ih x y u w A rx ry h (by omega)
  · have c:=likeR_rc I rx ry h (by omega) (fun x y u w r1 r2 k=>ih x y u w A.in1 r1 r2 k (by show A.units+1+n < cLine;omega))
    obtain ⟨a,b,xs,ys,rfl,rfl,_⟩:=h
    cases rx
    cases ry
    by_cases e:a=b
    · subst e;exact SeqAt.EqAt.same _
    · exact SeqAt.EqAt.of_refs e c.1
noncomputable def rEqN(K:PySem.W.Frag)(n:Nat):R2:=fun x y H Q=>LikeR K n H x y∧Q (.bl true) H
noncomputable def rNeN(K:PySem.W.Frag)(n:Nat):R2:=fun x y H Q=>LikeR K n H x y∧Q (.bl false) H
theorem op_eqN{k:Nat}(n:Nat)(hr:Room k X.A)(hn:n≤100:=by decide):OpR X (compareOp .Eq) (rEqN X.K n):=by
 intro pins s σ H x y v u Q I rx ry h
 have hu:X.A.units < cLine:=Nat.lt_of_le_of_lt (by omega) hr.un
 exact (likeR_rc I rx ry h.1 hu (fun x y u w r1 r2 k=>likeN_at I n x y u w X.A.in1 r1 r2 k (by have:=hr.un;show X.A.units+1+n < cLine;omega))).1 X.prog X.w X.xe _ ⟨.bl true,H,I,rfl,h.2⟩
theorem op_neN{k:Nat}(n:Nat)(hr:Room k X.A)(hn:n≤100:=by decide):OpR X (compareOp .NotEq) (rNeN X.K n):=by
 intro pins s σ H x y v u Q I rx ry h
 have hu:X.A.units < cLine:=Nat.lt_of_le_of_lt (by omega) hr.un
 exact (likeR_rc I rx ry h.1 hu (fun x y u w r1 r2 k=>likeN_at I n x y u w X.A.in1 r1 r2 k (by have:=hr.un;show X.A.units+1+n < cLine;omega))).2 X.prog X.w X.xe _ ⟨.bl false,H,I,rfl,h.2⟩
theorem rd_eqN{K:PySem.W.Frag}{H:Hp}{Q:VK}{x y:V}{n:Nat}:rEqN K n x y H Q=(LikeR K n H x y∧Q (.bl true) H):=rfl
theorem rd_neN{K:PySem.W.Frag}{H:Hp}{Q:VK}{x y:V}{n:Nat}:rNeN K n x y H Q=(LikeR K n H x y∧Q (.bl false) H):=rfl
end
end L2
namespace N14
open L2 N1 N5 N4 N6 N12 N32
theorem upd_but{H H':Hp}{l:Addr}{o:HO}(s:Same H H')(hl:H l=none):Same H (upd H' l o):=fun b u e=>by
 rw [upd_ne (fun h=>by rw [h,hl]at e;cases e)];exact s _ _ e
theorem at_snoc{α:Type}{xs:List α}{y z:α}{i:Nat}(h:(xs++[y])[i]?=some z):(i < xs.length∧xs[i]?=some z)∨(i=xs.length∧z=y):=by
 rcases Nat.lt_or_ge i xs.length with h1 | h1
 · rw [List.getElem?_append_left h1]at h;exact .inl ⟨h1,h⟩
 · rw [List.getElem?_append_right h1]at h
   rcases Nat.eq_zero_or_pos (i - xs.length) with e | e
   · rw [e]at h;cases h;exact .inr ⟨by omega,rfl⟩
   · rw [List.getElem?_eq_none (by simp;omega)]at h;cases h
theorem compL_3mk{K:PySem.W.Frag}{tail:L2.St}{te:Blk→TE}{Q:VK}{H1:Hp}{a:Addr}{as:List Addr}(x1 x2 x3:Nat→V)(P:Addr→Nat→V→Hp→Prop)(hP:∀D i y H H',P D i y H→SameBut D H H'→P D i y H')(hS:SqL K H1 a (as.map V.ref))(hz:as.length≤sizeLine)(hT:∀i p,as[i]?=some p→SqT K H1 p [x1 i,x2 i,x3 i])
 (he:∀b D i H Q' l,i < as.length→Same H1 H→H1 D=none→H D=some (.lst l)→(∀y H',Same H H'→P D i y H'→Q' y H')→te b (some (x1 i)::some (x2 i)::some (x3 i)::tail) H Q')
 (q:∀D ys H',H1 D=none→Same H1 H'→H' D=some (.lst ys)→ys.length=as.length→(∀i y,ys[i]?=some y→P D i y H')→Q (.ref D) H'):CompTail (none::none::none::tail) (g3 K) (fun _=>tYes) te Q (Itl K a) H1:=by
 intro b D hD
 refine ⟨fun i m ys H=>m=as.length - i∧i≤as.length∧ys.length=i∧H D=some (.lst ys)∧Same H1 H∧∀j y,ys[j]?=some y→P D j y H,⟨_,rfl,Nat.zero_le _,rfl,upd_same,Same.new hD,by simp⟩,?_⟩
 rintro i m ys H ⟨rfl,hi,hl,h,sm,hall⟩
 refine ⟨h,?_⟩
 by_cases hlt:i < as.length
 · refine .inr ⟨⟨_,V.ref as[i],sm.seq hS,by simp [hlt]⟩,fun x H3 ⟨e3,ex⟩=>?_⟩
   subst e3
   have hx:=ex _ (sm.seq hS)
   have hx':V.ref as[i]=x:=by simpa [hlt] using hx
   subst hx'
   refine ⟨as[i],_,rfl,sm.tup (hT i _ (by simp [hlt])),rfl,_,_,rfl,_,_,rfl,_,_,rfl,rfl,kept3,?_⟩
   show tYes _ _ _
   unfold tYes
   dsimp only
   rw [if_pos rfl]
   refine he b D i _ _ ys hlt sm hD h fun y H4 sm4 py=>?_
   have h4:=sm4 _ _ h
   have sb:SameBut D H4 (upd H4 D (.lst (ys++[y]))):=fun c o e n=>by rw [upd_ne n];exact e
   refine ⟨h4,by omega,as.length - (i+1),by omega,rfl,hlt,by rw [List.length_append,hl];rfl,upd_same,upd_but (sm.trans sm4) hD,fun j y' e=>?_⟩
   rcases at_snoc e with ⟨l1,c1⟩ | ⟨l1,c1⟩
   · exact hP _ _ _ _ _ (hP _ _ _ _ _ (hall j y' c1) (fun c o e n=>sm4 _ _ e)) sb
   · rw [c1,l1,hl];exact hP _ _ _ _ _ py sb
 · have e:i=as.length:=by omega
   subst e
   exact .inl ⟨⟨_,sm.seq hS,by simp⟩,q D ys H hD sm h hl hall⟩
end N14
namespace L2
noncomputable def ipM:TIp:=fun x y H Q=>∃i j,x= .int i∧y= .int j∧CMul i j∧Q (.int (i * j)) H
theorem ip_mul{X:Cx}:PIp X .Mult ipM:=by
 intro pins s σ H x y v u Q I r1 r2 h
 obtain ⟨i,j,e1,e2,hc,q⟩:=h
 subst e1;subst e2
 obtain ⟨t,rfl⟩:=r1
 obtain ⟨t',rfl⟩:=r2
 exact imul_int ⟨.int _,H,I.tok _,⟨_,rfl⟩,q⟩ hc.ok
theorem rd_ipM{x y:V}{H:Hp}{Q:VK}:ipM x y H Q=∃i j,x= .int i∧y= .int j∧CMul i j∧Q (.int (i * j)) H:=rfl
end L2
namespace N20
open L2 N1 N5 N4 N6 N12 N32 N14
end N20
namespace N71
open L2 N1 N5 N4 N6 N12
structure TwA where
 st:Addr
 si:Addr
 ro:Addr
 he:Addr
 la:Addr
 so:Addr
 en:Addr
 fi:Addr
structure TwS where
 zs:List Int
 R:List Str
 kh:List (Key×V)
 kl:List (Key×V)
 ks:List (Key×V)
 es:List V
 ff:List Int
 pd:Int
end N71
namespace N53
open L2 N1 N5
noncomputable def lst1(m:Int)(y:Str)(s:Nat×List Str):Nat×List Str:=
 let t:=if s.1=0∨(y∉s.2∧(s.2.length:Int)=m) then (s.1+1,[]) else s
 (t.1,if y∈t.2 then t.2 else t.2++[y])
noncomputable def lst(m:Int)(ys:List Str):Nat→Nat×List Str
 | 0=>(0,[])
 | i+1=>lst1 m (ys.getD i Str.empty) (lst m ys i)
end N53
namespace L2
open PySem.W
theorem rev_nolen:typeLookup (.type "list_reverseiterator") "__len__"=pure none:=by rw [typeLookup_type,builtinLookup_eq_fast];kernel_rfl
theorem rev_hint:typeLookup (.type "list_reverseiterator") "__length_hint__"=pure (some (.builtin "list_reverseiterator.__length_hint__")):=by rw [typeLookup_type,builtinLookup_eq_fast];kernel_rfl
section
variable {prog:Program} {w:World} {A:Around} {E:Value→Shared→Prop} {s:Shared}
theorem hint_rev{r:Addr}{Q:Bool→Shared→Prop}(hT:s.TypeIs (.ref r) "list_reverseiterator")(h:Q false s):wpAny (model prog w) A (Builtin.List.listLengthHint (.ref r)) Q E s:=by
 unfold Builtin.List.listLengthHint
 refine wpAny_bind (wpAny_specialOf hT rev_nolen ?_)
 show wpAny _ A (specialOf (Value.ref r) (Str.ofString "__length_hint__") >>=_) _ _ _
 refine wpAny_bind (wpAny_specialOf hT rev_hint ?_)
 generalize hid:("list_reverseiterator.__length_hint__":String)=id0
 wp_delta
 rw [show splitId id0=some ("list_reverseiterator","__length_hint__") from by subst hid;decide+kernel]
 subst hid
 refine wpAny_bind (wpAny_isInstance (b:=true) hT (by rw [isSubtype_type];kernel_rfl) ?_)
 exact wpAny_pure h
theorem call_listRev{l I:Addr}{items:Array Value}{Q:Value→Shared→Prop}(hh:A.handled=none)(hl:s.heap.IsList l items)(hI:s.heap.IsRevIter I l ((items.size:Int) - 1))(hne:l≠I)(hn:items.size≤sizeLine)
 (q:∀h' tk acc c,(∀b o,b≠I→s.heap.get? b=some o→h'.get? b=some o)→h'.get? s.heap.objs.size=some {cls:= .type "list",dict:=none,data:= .seq acc c,slots:=#[]}→
  ItemsOf (fun i v=>items[items.size - 1 - i]?=some v) acc items.size→Q (.ref s.heap.objs.size) {s with heap:=h',toks:=tk}):wpAny (model prog w) A (call (.type "list") [.ref I]) Q E s:=by
 have ltI:I < s.heap.objs.size:=by obtain ⟨o,e,_⟩:=hI;exact Heap.lt_size e
 have ltl:l < s.heap.objs.size:=by obtain ⟨o,e,_⟩:=hl;exact Heap.lt_size e
 refine callType_codes (Q₁:=fun obj s₁=>obj= .ref s.heap.objs.size∧s₁={s with heap:=s.heap.push {cls:= .type "list",data:= .seq #[]}}) F.called_list (F.typeCall_list_1 _) F.entry_list_init (code_list_new _ ⟨rfl,rfl⟩) ?_
 rintro obj s₁ ⟨rfl,rfl⟩
 generalize hS0:s.heap.objs.size=S at *
 have at0:(s.heap.push {cls:= .type "list",data:= .seq #[]}).get? S=some {cls:= .type "list",data:= .seq #[]}:=by rw [← hS0];exact Heap.get?_push_size _ rfl
 refine ⟨⟨_,at0,rfl⟩,F.args_list_init_2 _ _,?_⟩
 show wpAny _ _ (do let old ← Builtin.List.listItems (.ref S);Builtin.List.listUpdate (.ref S) (fun _=>#[]);letGo old.toList.reverse;Builtin.List.listExtendWith (.ref S) (.ref I) .none) _ _ _
 refine wpAny_bind ?_
 unfold Builtin.List.listItems
 refine wpAny_bind (wpAny_seqItems at0 rfl (wpAny_pure ?_))
 show wpAny _ _ (updateSeq S (fun _=>#[]) >>=fun _=>letGo (#[]:Array Value).toList.reverse >>=fun _=>Builtin.List.listExtendWith (.ref S) (.ref I) .none) _ _ _
 refine wpAny_bind (wpAny_updateSeq at0 rfl (wpAny_bind (wpAny_letGo ?_)))
 have at1:=Heap.get?_update_self (Obj.mapSeq (fun _=>(#[]:Array Value))) at0 rfl
 have kp1:∀b o,s.heap.get? b=some o→((s.heap.push {cls:= .type "list",data:= .seq #[]}).update S (Obj.mapSeq (fun _=>(#[]:Array Value)))).get? b=some o:=fun b o e=>by
  have ltb:=Heap.lt_size e
  have nb:S≠b:=by rw [← hS0];exact Nat.ne_of_gt ltb
  exact (Heap.get?_update_other _ _ (by first | exact nb | exact nb.symm)).trans (Heap.get?_push_of_some _ e)
 generalize (s.heap.push {cls:= .type "list",data:= .seq #[]}).update S (Obj.mapSeq (fun _=>(#[]:Array Value)))=h1 at at1 kp1 ⊢
 have hI1:h1.IsRevIter I l ((items.size:Int) - 1):=hI.at fun o e=>kp1 _ _ e
 have hl1:h1.IsList l items:=hl.at fun o e=>kp1 _ _ e
 have ty1:Shared.TypeIs {s with heap:=h1} (.ref I) "list_reverseiterator":=Heap.IsRevIter.typeIs (s:={s with heap:=h1}) hI1
 unfold Builtin.List.listExtendWith
 refine wpAny_bind (wpAny_typeOf ty1 ?_)
 have nSI:S≠I:=Nat.ne_of_gt ltI
 have nSl:S≠l:=Nat.ne_of_gt ltl
 rw [if_neg (by simp [Builtin.List.listSameRef,nSI])]
 refine wpAny_bind (wpAny_pyIter_revIter hI1 ?_)
 refine wpAny_bind (wpAny_holding (hint_rev ty1 ?_))
 rw [if_neg (by decide)]
 have W:=Walks.listRev (prog:=prog) (w:=w) (A:=A.in1.in1) (show A.in1.in1.handled=none from hh) I l hne items
 refine wpAny_pure ⟨plainId_quiet F.plain_extend_loop _,codeAny_extend_loopS W.toS hn S (by simp only [List.mem_cons,List.not_mem_nil,or_false,not_or];exact ⟨nSI,nSl⟩) _ items.size 0 _ _ _ rfl (Nat.zero_le _) ⟨Nat.zero_le _,by simpa using hI1,hl1⟩ at1 (ItemsOf.nil _) fun s' acc c hm at2 hacc=>?_⟩
 rw [Moved.eq_with hm]
 refine ⟨rfl,q s'.heap s'.toks acc c (fun b o nb e=>hm.heap b o (fun z=>?_) (kp1 b o e)) at2 hacc⟩
 have ltb:=Heap.lt_size e
 rcases List.mem_cons.mp z with z | z
 · rw [z,hS0]at ltb;exact Nat.lt_irrefl _ ltb
 · exact nb (List.mem_singleton.mp z)
end
section
variable {X:Cx}
noncomputable def tListRev(K:PySem.W.Frag)(t:TA):TE:=fun σ H Q=>t σ H fun vs H1=>∃a xs,vs=[.ref a]∧SqL K H1 a xs∧∀D,H1 D=none→Q (.ref D) (upd H1 D (.lst xs.reverse))
theorem Vals.rev{xs:List V}{us:List Value}(h:Vals xs us):Vals xs.reverse us.reverse:=by
 induction h with
 | nil=>exact .nil
 | cons r t ih=>rw [List.reverse_cons,List.reverse_cons];exact ih.append (.cons r .nil)
theorem pe_listrev{e:Expr}{t:TA}{p p2 pos pos2:Pos}(hc:X.calm=true)(hg:Gl X "list")(hm:X.mg "list"=none)(hg2:Gl X "reversed")(hm2:X.mg "reversed"=none)(ha:PA X [e] t)(he:starEach [e] X.env=(false,eval e X.env)::starEach [] X.env:=by rfl)
 (he2:starEach [.Call (.Name "reversed" p2) [e] [] pos2] X.env=(false,eval (.Call (.Name "reversed" p2) [e] [] pos2) X.env)::starEach [] X.env:=by rfl):PE X (.Call (.Name "list" p) [.Call (.Name "reversed" p2) [e] [] pos2] [] pos) (tListRev X.K t):=by
 intro pins s σ H Q I h
 have hv:bootBuiltins "reversed"=some (.type "reversed"):=by decide+kernel
 have hv2:bootBuiltins "list"=some (.type "list"):=by decide+kernel
 refine wpAny_Call_Name_kw (ld_blt I hg hm hv2 (callWith_type1 (by
  rw [he2]
  show wpAny _ _ (spliced ((false,eval (.Call (.Name "reversed" p2) [e] [] pos2) X.env)::backTo pos (starEach [] X.env))) _ _ s
  refine Calls.spliced_cons (wpAny_Call_Name_kw (ld_blt I hg2 hm2 hv (callWith_type1 (thn (ha pos2 pins s σ H _ I h) fun us s1 hq_=>?_) he (by rfl))))
  obtain ⟨vs,H1,I1,r1,q1⟩:=hq_
  obtain ⟨a,xs,rfl,hq,q⟩:=q1
  cases r1 with
  | cons r rr=>
   cases rr
   cases r
   obtain ⟨its,rv,pl,hz⟩:=I1.list hq
   have hl:=rv.length
   refine call_reversed_list pl.isList ?_
   refine Calls.spliced_nil ?_
   have lta:a < s1.heap.objs.size:=by obtain ⟨o,n,e,_⟩:=pl;exact Heap.lt_size e
   have atI:(s1.heap.push (revObj a ((its.toArray.size:Int) - 1))).get? s1.heap.objs.size=some (revObj a ((its.toArray.size:Int) - 1)):=Heap.get?_push_size _ rfl
   refine call_listRev (I:=s1.heap.objs.size) (I1.ok.hd hc) (pl.isList.push _) ⟨_,atI,rfl,rfl⟩ (Nat.ne_of_lt lta) (by rw [List.size_toArray];omega) fun h' tk acc c kp at2 hacc=>?_
   have hv:Vals xs.reverse acc.toList:=by
    have e:acc.toList=its.reverse:=by
     refine List.ext_getElem? fun i=>?_
     by_cases hi:i < its.length
     · have h1:acc.size=its.length:=hacc.1.trans List.size_toArray
       have h3:i < acc.toList.length:=by rw [Array.length_toList,h1];exact hi
       have h2:=hacc.2 i (acc.toList[i]) (by rw [← Array.getElem?_toList,List.getElem?_eq_getElem h3])
       rw [List.getElem?_eq_getElem h3,List.getElem?_reverse hi]
       simpa using h2.symm
     · rw [List.getElem?_eq_none (by rw [Array.length_toList,hacc.1,List.size_toArray];omega),List.getElem?_eq_none (by rw [List.length_reverse];omega)]
    rw [e];exact rv.rev
   have sz:(s1.heap.push (revObj a ((its.toArray.size:Int) - 1))).objs.size=s1.heap.objs.size+1:=Heap.size_push ..
   rw [sz]at at2 ⊢
   refine ⟨.ref (s1.heap.objs.size+1),_,I1.laid (t':=tk) (fun b o e=>kp b o (Nat.ne_of_lt (Heap.lt_size e)) (Heap.get?_push_of_some _ e)) (Nat.le_succ _) (show ObjOk X.prog X.w _ h' _ (.lst xs.reverse) from ⟨by rw [List.length_reverse];exact hz,acc.toList,c,hv,?_⟩),rfl,q _ (I1.hok.fresh (Nat.le_succ _))⟩
   rw [Array.toArray_toList];exact at2) he2 (by rfl)))
end
theorem rd_listrev{K:PySem.W.Frag}{σ:St}{H:Hp}{Q:VK}{t:TA}:tListRev K t σ H Q=t σ H fun vs H1=>∃a xs,vs=[.ref a]∧SqL K H1 a xs∧∀D,H1 D=none→Q (.ref D) (upd H1 D (.lst xs.reverse)):=rfl
end L2
namespace N18
open L2 N1 N5 N4 N6 N12 N32 N14
end N18
namespace N25
open L2 N1 N5 N4 N6 N12 N32 N14 N20
end N25
namespace NR
open L2 N1 N5 N4 N6 N12 N32 N14 N20 N18 N25
structure RuleT where
 C:Addr
 St:Type
 At:Hp→List Addr→Addr→Addr→Int→St→Prop
 asked:Int→St→Str→St
 pick:Int→St→List Str→St×Str
 gone:Int→St→Str→St
 came:Int→St→Str→St
 inv:List Str→Int→St→List Str→Prop
 mid:List Str→Int→Str→St→List Str→Prop
 dep:∀{H H':Hp} {M:List Addr} {q p:Addr} {n:Int} {s:St},(∀m∈M,∀o,H m=some o→H' m=some o)→At H M q p n s→At H' M q p n s
 live:∀{H:Hp} {M:List Addr} {q p:Addr} {n:Int} {s:St},At H M q p n s→∀m∈M,H m≠none
 obj:∀{H:Hp} {M:List Addr} {q p:Addr} {n:Int} {s:St},At H M q p n s→∃dx fs,H q=some (.ins C dx fs)∧fs.lookup ("stock":Str)=some (.ref p)∧fs.lookup ("places":Str)=some (.int n)∧fs.lookup ("asked":Str)=none∧fs.lookup ("choice":Str)=none∧fs.lookup ("gone":Str)=none∧fs.lookup ("came":Str)=none∧fs.lookup ("nests":Str)=none
 i_hit:∀{ns:List Str} {n:Int} {s:St} {l:List Str} {z:Str},inv ns n s l→z∈ns→z∈l→inv ns n (asked n s z) l
 i_mid:∀{ns:List Str} {n:Int} {s:St} {l:List Str} {z:Str},inv ns n s l→z∈ns→z∉l→mid ns n z (asked n s z) l
 i_pick:∀{ns:List Str} {n:Int} {s:St} {l:List Str} {z:Str},mid ns n z s l→l≠[]→(pick n s l).2∈l∧mid ns n z (gone n (pick n s l).1 (pick n s l).2) (l.erase (pick n s l).2)
 i_came:∀{ns:List Str} {n:Int} {s:St} {l:List Str} {z:Str},mid ns n z s l→z∈ns→z∉l→inv ns n (came n s z) (l++[z])
 cnt:St→Nat:=fun _=>0
 c_ask:∀n s z,cnt (asked n s z)≤cnt s+1:=by exact fun _ _ _=>Nat.zero_le _
 c_pick:∀n s l,cnt (pick n s l).1≤cnt s:=by exact fun _ _ _=>Nat.zero_le _
 c_gone:∀n s z,cnt (gone n s z)≤cnt s:=by exact fun _ _ _=>Nat.zero_le _
 c_came:∀n s z,cnt (came n s z)≤cnt s:=by exact fun _ _ _=>Nat.zero_le _
noncomputable def gfin(T:RuleT)(R:Str→Int)(n need:Int):Nat→T.St→List Str→List Str→T.St×List Str×List Str
 | 0,s,l,w=>(s,l,w)
 | k+1,s,l,w=>if need≤n - N41.sm R l then (s,l,w) else gfin T R n need k (T.gone n (T.pick n s l).1 (T.pick n s l).2) (l.erase (T.pick n s l).2) (w++[(T.pick n s l).2])
noncomputable def gf(T:RuleT)(R:Str→Int)(n need:Int)(s:T.St)(l w:List Str):T.St×List Str×List Str:=gfin T R n need l.length s l w
end NR
namespace N22
open L2 N1 N5 N4 N6 N12 N32 N14 N20 N18 N25 NR
end N22
namespace N21
open L2 N1 N5 N4 N6 N12 N32 N14 N20 N18 N25 NR N22
end N21
namespace N24
open L2 N1 N5 N4 N6 N12 N32 N14 N20 N18 N25 NR N22 N21
theorem lex2{a b c d:Int}:HT.lexLt [a,b] [c,d]=decide (a < c∨(a=c∧b < d)):=by
 show (if a=c then (if b=d then false else decide (b < d)) else decide (a < c))=_
 by_cases h:a=c
 · rw [if_pos h]
   by_cases h2:b=d
   · rw [if_pos h2];symm;exact decide_eq_false (by omega)
   · rw [if_neg h2]
     by_cases h3:b < d
     · rw [decide_eq_true h3];symm;exact decide_eq_true (by omega)
     · rw [decide_eq_false h3];symm;exact decide_eq_false (by omega)
 · rw [if_neg h]
   by_cases h3:a < c
   · rw [decide_eq_true h3];symm;exact decide_eq_true (by omega)
   · rw [decide_eq_false h3];symm;exact decide_eq_false (by omega)
theorem best2(a b:Nat→Int):∀k,argBest (btK fun i=>[a i,b i]) k≤k∧∀j,j≤k→¬(a j < a (argBest (btK fun i=>[a i,b i]) k)∨(a j=a (argBest (btK fun i=>[a i,b i]) k)∧b j < b (argBest (btK fun i=>[a i,b i]) k))):=by
 intro k
 induction k with
 | zero=>exact ⟨Nat.le_refl _,fun j hj=>by rw [Nat.le_zero.mp hj];show ¬(a 0 < a 0∨(a 0=a 0∧b 0 < b 0));omega⟩
 | succ k ih=>
  have e:argBest (btK fun i=>[a i,b i]) (k+1)=if HT.lexLt [a (k+1),b (k+1)] [a (argBest (btK fun i=>[a i,b i]) k),b (argBest (btK fun i=>[a i,b i]) k)]=true then k+1 else argBest (btK fun i=>[a i,b i]) k:=rfl
  rw [e,lex2]
  generalize argBest (btK fun i=>[a i,b i]) k=m at ih
  split
  · rename_i h
    have h:=of_decide_eq_true h
    refine ⟨Nat.le_refl _,fun j hj=>?_⟩
    by_cases e:j=k+1
    · rw [e];omega
    · have:=ih.2 j (by omega);omega
  · rename_i h
    have h:¬(a (k+1) < a m∨(a (k+1)=a m∧b (k+1) < b m)):=fun z=>h (decide_eq_true z)
    refine ⟨Nat.le_succ_of_le ih.1,fun j hj=>?_⟩
    by_cases e:j=k+1
    · rw [e];exact h
    · exact ih.2 j (by omega)
end N24
namespace L2
noncomputable def CmpG(prog:Program)(w:World)(A:Around)(Tm:Addr→Obj→Prop)(P:Nat→Value→Prop)(bt:Nat→Nat→Bool):Prop:=
 ∀i j vi vj (s:Shared) (Q:Value→Shared→Prop) (E:Value→Shared→Prop),(∀b o,Tm b o→s.heap.get? b=some o)→P i vi→P j vj→Q (.bool (bt i j)) s→wpAny (model prog w) A (richCompare .Lt vi vj) Q E s
section
variable {prog:Program} {w:World} {A:Around} {R:Result→Shared→Prop} {I:Addr} {fp wr:List Addr} {n:Nat} {P:Nat→Value→Prop} {St:Nat→Heap→Prop} {d:Value} {kw:List (Str×Value)} {Tm:Addr→Obj→Prop}
theorem minT_loop(W:Walks prog w A.in1 I fp wr n P St)(bt:Nat→Nat→Bool)(hcmp:CmpG prog w A.in1 Tm P bt)(S:Addr)(hSf:S∉fp)(hT:∀b o,Tm b o→b∉wr∧b≠S):
 ∀(k j:Nat) (s:Shared) (vb:Value) (c:Nat),(∀b o,Tm b o→s.heap.get? b=some o)→n - (j+1)=k→j+1≤n→St (j+1) s.heap→P (argBest bt j) vb→
 s.heap.get? S=some {cls:= .type "list",dict:=none,data:= .seq #[vb,vb] c,slots:=#[]}→
 (∀v h' tk,P (argBest bt (n - 1)) v→(∀b o,b∉wr→b≠S→s.heap.get? b=some o→h'.get? b=some o)→R (.ok (.ret v)) {s with heap:=h',toks:=tk})→
 codeAny (model prog w) A (.builtin "min.loop" ⟨[.ref I,.none,.ref S],kw⟩) R s:=by
 have hSw:S∉wr:=fun h=>hSf (W.sub _ h)
 have hname:(toString "min"++toString ".loop":String)="min.loop":=by decide
 intro k
 induction k with
 | zero=>
  intro j s vb c hG hk hj hst hPb hS hR
  have hin:j+1=n:=by omega
  refine codeAny_builtin PySem.F.entry_min_loop ?_
  rw [Around.under_plainId PySem.F.plain_min_loop _]
  show wpAny _ A.in1 (seqItems? (.ref S) >>=_) _ _ s
  refine wpAny_bind (wpAny_seqItems hS rfl ?_)
  show wpAny _ A.in1 (tryCatch (pyNext (.ref I)) _ >>=_) _ _ s
  refine wpAny_bind (wpAny_tryCatch (W.done s _ _ (hin▸hst) fun h' tk hk'=>?_))
  have hS':=hk' S _ hSw hS
  show wpAny _ A.in1 (updateSeq S (fun _=>#[]) >>=_) _ _ _
  refine wpAny_bind (wpAny_updateSeq hS' rfl (wpAny_bind (wpAny_letGo (wpAny_pure ?_))))
  exact hR vb _ tk (by rw [← hin];exact hPb) fun b o hbw hbS e=>(Heap.get?_update_other _ _ (Ne.symm hbS)).trans (hk' b o hbw e)
 | succ k ih=>
  intro j s vb c hG hk hj hst hPb hS hR
  have hlt:j+1 < n:=by omega
  refine codeAny_builtin PySem.F.entry_min_loop ?_
  rw [Around.under_plainId PySem.F.plain_min_loop _]
  show wpAny _ A.in1 (seqItems? (.ref S) >>=_) _ _ s
  refine wpAny_bind (wpAny_seqItems hS rfl ?_)
  show wpAny _ A.in1 (tryCatch (pyNext (.ref I)) _ >>=_) _ _ s
  refine wpAny_bind (wpAny_tryCatch (W.item (j+1) s _ _ hlt hst fun v h' tk hP hst' hk'=>?_))
  have hS':=hk' S _ hSw hS
  show wpAny _ A.in1 (tryCatch (holding [v,v] (richCompare .Lt v vb >>=_)) _ >>=_) _ _ _
  refine wpAny_bind (wpAny_tryCatch (wpAny_holding (wpAny_bind (hcmp (j+1) (argBest bt j) v vb _ _ _ (fun b o e=>hk' b o (hT b o e).1 (hG b o e)) hP hPb ?_))))
  refine wpAny_bind (wpAny_holding (wpAny_truthy_bool (wpAny_bind (wpAny_letGo (wpAny_pure ?_)))))
  cases hb:bt (j+1) (argBest bt j) with
  | true=>
   simp only [if_true]
   refine wpAny_bind (wpAny_updateSeq hS' rfl (wpAny_bind (wpAny_letGo ?_)))
   rw [hname]
   refine wpAny_pure ⟨plainId_quiet PySem.F.plain_min_loop _,ih (j+1) _ v _ (fun b o e=>(Heap.get?_update_other _ _ (Ne.symm (hT b o e).2)).trans (hk' b o (hT b o e).1 (hG b o e))) (by omega) hlt (W.frame _ _ _ hst' fun b hbf o e=>?_) (by simp only [argBest,hb,if_true];exact hP) (Heap.get?_update_self _ hS' rfl)
    fun v' h'' tk'' hP' hk''=>?_⟩
   · exact (Heap.get?_update_other _ _ (fun h:S=b=>hSf (by rw [h];exact hbf))).trans e
   · exact hR v' h'' tk'' hP' fun b o hbw hbS e=>hk'' b o hbw hbS ((Heap.get?_update_other _ _ (Ne.symm hbS)).trans (hk' b o hbw e))
  | false=>
   simp only [Bool.false_eq_true,if_false]
   refine wpAny_bind (wpAny_letGo ?_)
   rw [hname]
   exact wpAny_pure ⟨plainId_quiet PySem.F.plain_min_loop _,ih (j+1) _ vb c (fun b o e=>hk' b o (hT b o e).1 (hG b o e)) (by omega) hlt hst' (by simp only [argBest,hb,Bool.false_eq_true,if_false];exact hPb) hS' fun v' h'' tk'' hP' hk''=>
    hR v' h'' tk'' hP' fun b o hbw hbS e=>hk'' b o hbw hbS (hk' b o hbw e)⟩
theorem minT_first(W:Walks prog w A.in1 I fp wr n P St)(bt:Nat→Nat→Bool)(hcmp:CmpG prog w A.in1 Tm P bt)(S:Addr)(hSf:S∉fp)(hT:∀b o,Tm b o→b∉wr∧b≠S){s:Shared}{c:Nat}(hn:n≠0)(hG:∀b o,Tm b o→s.heap.get? b=some o)(hst:St 0 s.heap)
 (hS:s.heap.get? S=some {cls:= .type "list",dict:=none,data:= .seq #[] c,slots:=#[]})
 (hR:∀v h' tk,P (argBest bt (n - 1)) v→(∀b o,b∉wr→b≠S→s.heap.get? b=some o→h'.get? b=some o)→R (.ok (.ret v)) {s with heap:=h',toks:=tk}):
 codeAny (model prog w) A (.builtin "min.loop" ⟨[.ref I,.none,.ref S],[]⟩) R s:=by
 have hSw:S∉wr:=fun h=>hSf (W.sub _ h)
 have hname:(toString "min"++toString ".loop":String)="min.loop":=by decide
 refine codeAny_builtin PySem.F.entry_min_loop ?_
 rw [Around.under_plainId PySem.F.plain_min_loop _]
 show wpAny _ A.in1 (seqItems? (.ref S) >>=_) _ _ s
 refine wpAny_bind (wpAny_seqItems hS rfl ?_)
 show wpAny _ A.in1 (tryCatch (pyNext (.ref I)) _ >>=_) _ _ s
 refine wpAny_bind (wpAny_tryCatch (W.item 0 s _ _ (Nat.pos_of_ne_zero hn) hst fun v h' tk hP hst' hk'=>?_))
 have hS':=hk' S _ hSw hS
 show wpAny _ A.in1 (updateSeq S (fun _=>#[v,v]) >>=_) _ _ _
 refine wpAny_bind (wpAny_updateSeq hS' rfl ?_)
 rw [hname]
 refine wpAny_pure ⟨plainId_quiet PySem.F.plain_min_loop _,minT_loop W bt hcmp S hSf hT _ 0 _ v _ (fun b o e=>(Heap.get?_update_other _ _ (Ne.symm (hT b o e).2)).trans (hk' b o (hT b o e).1 (hG b o e))) rfl (Nat.pos_of_ne_zero hn) (W.frame _ _ _ hst' fun b hbf o e=>?_) hP (Heap.get?_update_self _ hS' rfl) fun v' h'' tk'' hP' hk''=>?_⟩
 · exact (Heap.get?_update_other _ _ (fun h:S=b=>hSf (by rw [h];exact hbf))).trans e
 · exact hR v' h'' tk'' hP' fun b o hbw hbS e=>hk'' b o hbw hbS ((Heap.get?_update_other _ _ (Ne.symm hbS)).trans (hk' b o hbw e))
theorem minTD_first(W:Walks prog w A.in1 I fp wr n P St)(bt:Nat→Nat→Bool)(hcmp:CmpG prog w A.in1 Tm P bt)(S:Addr)(hSf:S∉fp)(hT:∀b o,Tm b o→b∉wr∧b≠S){s:Shared}{c:Nat}(hG:∀b o,Tm b o→s.heap.get? b=some o)(hst:St 0 s.heap)
 (hS:s.heap.get? S=some {cls:= .type "list",dict:=none,data:= .seq #[] c,slots:=#[]})
 (hR:∀v h' tk,(if n=0 then v=d else P (argBest bt (n - 1)) v)→(∀b o,b∉wr→b≠S→s.heap.get? b=some o→h'.get? b=some o)→R (.ok (.ret v)) {s with heap:=h',toks:=tk}):
 codeAny (model prog w) A (.builtin "min.loop" ⟨[.ref I,.none,.ref S],dfl d⟩) R s:=by
 have hSw:S∉wr:=fun h=>hSf (W.sub _ h)
 have hname:(toString "min"++toString ".loop":String)="min.loop":=by decide
 refine codeAny_builtin PySem.F.entry_min_loop ?_
 rw [Around.under_plainId PySem.F.plain_min_loop _]
 show wpAny _ A.in1 (seqItems? (.ref S) >>=_) _ _ s
 refine wpAny_bind (wpAny_seqItems hS rfl ?_)
 show wpAny _ A.in1 (tryCatch (pyNext (.ref I)) _ >>=_) _ _ s
 by_cases hn:n=0
 · refine wpAny_bind (wpAny_tryCatch (W.done s _ _ (hn▸hst) fun h' tk hk'=>?_))
   show wpAny _ A.in1 (rule _ >>=fun _=>ret d) _ _ _
   refine wpAny_bind (wpAny_rule (wpAny_pure ?_))
   exact hR d _ tk (by rw [if_pos hn]) fun b o hbw _ e=>hk' b o hbw e
 refine wpAny_bind (wpAny_tryCatch (W.item 0 s _ _ (Nat.pos_of_ne_zero hn) hst fun v h' tk hP hst' hk'=>?_))
 have hS':=hk' S _ hSw hS
 show wpAny _ A.in1 (updateSeq S (fun _=>#[v,v]) >>=_) _ _ _
 refine wpAny_bind (wpAny_updateSeq hS' rfl ?_)
 rw [hname]
 refine wpAny_pure ⟨plainId_quiet PySem.F.plain_min_loop _,minT_loop W bt hcmp S hSf hT _ 0 _ v _ (fun b o e=>(Heap.get?_update_other _ _ (Ne.symm (hT b o e).2)).trans (hk' b o (hT b o e).1 (hG b o e))) rfl (Nat.pos_of_ne_zero hn) (W.frame _ _ _ hst' fun b hbf o e=>?_) hP (Heap.get?_update_self _ hS' rfl) fun v' h'' tk'' hP' hk''=>?_⟩
 · exact (Heap.get?_update_other _ _ (fun h:S=b=>hSf (by rw [h];exact hbf))).trans e
 · exact hR v' h'' tk'' (by rw [if_neg hn];exact hP') fun b o hbw hbS e=>hk'' b o hbw hbS ((Heap.get?_update_other _ _ (Ne.symm hbS)).trans (hk' b o hbw e))
end
section
variable {prog:Program} {w:World} {A:Around} {E:Value→Shared→Prop} {s:Shared} {d:Value}
theorem call_minTD{x:Value}{Q:Value→Shared→Prop}
 (h:wpAny (model prog w) A.in1 (pyIter x) (fun it s₂=>∃I fp wr n P St bt,it= .ref I∧Walks prog w A.in1 I fp wr n P St∧St 0 s₂.heap∧(∀b∈fp,b < s₂.heap.objs.size)∧(∃Tm:Addr→Obj→Prop,CmpG prog w A.in1 Tm P bt∧(∀b o,Tm b o→b∉wr∧s₂.heap.get? b=some o))∧
  ∀v h' tk,(if n=0 then v=d else P (argBest bt (n - 1)) v)→(∀b o,b∉wr→s₂.heap.get? b=some o→h'.get? b=some o)→Q v {s₂ with heap:=h',toks:=tk}) E s):
 wpAny (model prog w) A (call (.builtin "min") [x] [(Str.ofString "default",d)]) Q E s:=by
 have hname:(toString "min"++toString ".loop":String)="min.loop":=by decide
 refine kmk_tree PySem.F.kind_min PySem.F.plain_min PySem.F.entry_min (args_minD _ _) ?_
 show wpAny _ A.in1 (Builtin.Builtins.bindParams "min" ["key","default"] 0 ⟨[],[(Str.ofString "default",d)]⟩ >>=_) _ _ s
 refine wpAny_bind (wpAny_of_eq (show Builtin.Builtins.bindParams "min" ["key","default"] 0 ⟨[],[(Str.ofString "default",d)]⟩=pure [none,some d] from rfl) ?_)
 refine wpAny_bind (wpAny_pure ?_)
 refine wpAny_bind (wpAny_mono h (fun it s₂ h₂=>?_) fun _ _ e=>e)
 obtain ⟨I,fp,wr,n,P,St,bt,rfl,W,hst,hfp,⟨Tm,hcmp,hTm⟩,hQ⟩:=h₂
 refine wpAny_bind (wpAny_newObj_type ?_)
 have hSf:s₂.heap.objs.size∉fp:=fun hm=>Nat.lt_irrefl _ (hfp _ hm)
 rw [hname]
 refine wpAny_pure ⟨plainId_quiet PySem.F.plain_min_loop _,minTD_first W bt hcmp s₂.heap.objs.size hSf (fun b o e=>⟨(hTm b o e).1,Nat.ne_of_lt (Heap.lt_size (hTm b o e).2)⟩) (fun b o e=>Heap.get?_push_of_some _ (hTm b o e).2) (W.frame _ _ _ hst fun b _ o e=>Heap.get?_push_of_some _ e) (Heap.get?_push_size _ rfl) fun v h' tk hP hk=>?_⟩
 exact hQ v h' tk hP fun b o hbw e=>hk b o hbw (Nat.ne_of_lt (Heap.lt_size e)) (Heap.get?_push_of_some _ e)
theorem call_minT0{x:Value}{Q:Value→Shared→Prop}
 (h:wpAny (model prog w) A.in1 (pyIter x) (fun it s₂=>∃I fp wr n P St bt,it= .ref I∧Walks prog w A.in1 I fp wr n P St∧St 0 s₂.heap∧(∀b∈fp,b < s₂.heap.objs.size)∧n≠0∧(∃Tm:Addr→Obj→Prop,CmpG prog w A.in1 Tm P bt∧(∀b o,Tm b o→b∉wr∧s₂.heap.get? b=some o))∧
  ∀v h' tk,P (argBest bt (n - 1)) v→(∀b o,b∉wr→s₂.heap.get? b=some o→h'.get? b=some o)→Q v {s₂ with heap:=h',toks:=tk}) E s):
 wpAny (model prog w) A (call (.builtin "min") [x] []) Q E s:=by
 have hname:(toString "min"++toString ".loop":String)="min.loop":=by decide
 refine kmk_tree PySem.F.kind_min PySem.F.plain_min PySem.F.entry_min (F.args_min1 _) ?_
 show wpAny _ A.in1 (Builtin.Builtins.bindParams "min" ["key","default"] 0 ⟨[],[]⟩ >>=_) _ _ s
 refine wpAny_bind (wpAny_of_eq (show Builtin.Builtins.bindParams "min" ["key","default"] 0 ⟨[],[]⟩=pure [none,none] from rfl) ?_)
 refine wpAny_bind (wpAny_pure ?_)
 refine wpAny_bind (wpAny_mono h (fun it s₂ h₂=>?_) fun _ _ e=>e)
 obtain ⟨I,fp,wr,n,P,St,bt,rfl,W,hst,hfp,hn0,⟨Tm,hcmp,hTm⟩,hQ⟩:=h₂
 refine wpAny_bind (wpAny_newObj_type ?_)
 have hSf:s₂.heap.objs.size∉fp:=fun hm=>Nat.lt_irrefl _ (hfp _ hm)
 rw [hname]
 refine wpAny_pure ⟨plainId_quiet PySem.F.plain_min_loop _,minT_first W bt hcmp s₂.heap.objs.size hSf (fun b o e=>⟨(hTm b o e).1,Nat.ne_of_lt (Heap.lt_size (hTm b o e).2)⟩) hn0 (fun b o e=>Heap.get?_push_of_some _ (hTm b o e).2) (W.frame _ _ _ hst fun b _ o e=>Heap.get?_push_of_some _ e) (Heap.get?_push_size _ rfl) fun v h' tk hP hk=>?_⟩
 exact hQ v h' tk hP fun b o hbw e=>hk b o hbw (Nat.ne_of_lt (Heap.lt_size e)) (Heap.get?_push_of_some _ e)
end
noncomputable def PairsAt(K:PySem.W.Frag)(H:Hp)(as:List Addr)(ps:List (Int×Int)):Prop:=as.length=ps.length∧∀(i:Nat) (a:Addr) (p:Int×Int),as[i]?=some a→ps[i]?=some p→SqT K H a [.int p.1,.int p.2]
noncomputable def MinAt(as:List Addr)(ps:List (Int×Int))(Q:Addr→Prop):Prop:=∀(i:Nat) (a:Addr) (p:Int×Int),as[i]?=some a→ps[i]?=some p→(∀x∈ps,p.1 < x.1∨p.1=x.1∧p.2≤x.2)→Q a
noncomputable def tMinTD(K:PySem.W.Frag)(t:TA)(td:TE):TE:=fun σ H Q=>t σ H fun vs H1=>td σ H1 fun d H2=>∃(l:Addr) (as:List Addr) (ps:List (Int×Int)),vs=[.ref l]∧SqL K H2 l (as.map V.ref)∧PairsAt K H2 as ps∧(as=[]→Q d H2)∧MinAt as ps fun a=>Q (.ref a) H2
noncomputable def rMinT(K:PySem.W.Frag):List V→Hp→VK→Prop:=fun vs H Q=>∃(l:Addr) (as:List Addr) (ps:List (Int×Int)),vs=[.ref l]∧SqL K H l (as.map V.ref)∧PairsAt K H as ps∧as≠[]∧MinAt as ps fun a=>Q (.ref a) H
section
variable {X:Cx} {k:Nat}
theorem refs_at{as:List Addr}{its:List Value}(r:Vals (as.map V.ref) its){i:Nat}{v:Value}(hP:its.toArray[i]?=some v):∃a,as[i]?=some a∧v= .ref a:=by
 have h:its[i]?=some v:=by simpa using hP
 have hlen:=r.length
 have hi:i < as.length:=by have:=(List.getElem?_eq_some_iff.mp h).1;rw [List.length_map]at hlen;omega
 obtain ⟨u,hu,ru⟩:=r.get (i:=i) (x:=V.ref as[i]) (by rw [List.getElem?_map,List.getElem?_eq_getElem hi];rfl)
 rw [h]at hu
 cases hu
 exact ⟨_,List.getElem?_eq_getElem hi,ru⟩
theorem cmp_pairs{pins:List (Addr×Obj)}{σ:St}{H:Hp}{s:Shared}{as:List Addr}{ps:List (Int×Int)}{its:List Value}(hr:Room k X.A)(I:Inv X pins σ H s)(hp:PairsAt X.K H as ps)(r:Vals (as.map V.ref) its):
 ∃Tm:Addr→Obj→Prop,CmpG X.prog X.w X.A.in1 Tm (fun i v=>its.toArray[i]?=some v) (btK fun i=>[(ps.getD i (0,0)).1,(ps.getD i (0,0)).2])∧∀b o,Tm b o→s.heap.get? b=some o:=by
 refine ⟨fun b o=>s.heap.get? b=some o,fun i j vi vj s' Q E hG hi hj q=>?_,fun b o e=>e⟩
 obtain ⟨a,ha,rfl⟩:=refs_at r hi
 obtain ⟨b,hb,rfl⟩:=refs_at r hj
 have get:∀{i:Nat} {a:Addr},as[i]?=some a→∃us:List Value,IntsAre us [(ps.getD i (0,0)).1,(ps.getD i (0,0)).2]∧s'.heap.IsTuple a us.toArray:=fun {i a} ha=>by
  have hl:=(List.getElem?_eq_some_iff.mp ha).1
  rw [hp.1]at hl
  have e:=List.getElem?_eq_getElem hl
  have h2:=hp.2 i a _ ha e
  obtain ⟨us,r1,p1,_⟩:=I.tuple h2
  refine ⟨us,?_,?_⟩
  · rw [List.getD_eq_getElem?_getD,e]
    exact intsAre_of (ns:=[ps[i].1,ps[i].2]) r1
  · obtain ⟨o,ho,h3⟩:=p1
    exact ⟨o,hG _ _ ho,h3⟩
 obtain ⟨us1,i1,p1⟩:=get ha
 obtain ⟨us2,i2,p2⟩:=get hb
 have hu:X.A.in1.units < cLine:=by have:=hr.un;show X.A.units+1 < cLine;omega
 exact HT.lt_tupInts p1 p2 i1 i2 hu q
theorem min_fin{as:List Addr}{ps:List (Int×Int)}{its:List Value}(r:Vals (as.map V.ref) its)(hp:as.length=ps.length)(hne:as≠[]){v:Value}{QQ:Addr→Prop}(m:MinAt as ps QQ)(hP:its.toArray[argBest (btK fun i=>[(ps.getD i (0,0)).1,(ps.getD i (0,0)).2]) (its.toArray.size - 1)]?=some v):∃a,v= .ref a∧QQ a:=by
 have hl:=r.length
 rw [List.length_map]at hl
 have hpos:0 < as.length:=List.length_pos_iff.mpr hne
 rw [List.size_toArray,← hl]at hP
 obtain ⟨a,ha,e⟩:=refs_at r hP
 have hb:=N24.best2 (fun i=>(ps.getD i (0,0)).1) (fun i=>(ps.getD i (0,0)).2) (as.length - 1)
 generalize argBest (btK fun i=>[(ps.getD i (0,0)).1,(ps.getD i (0,0)).2]) (as.length - 1)=m0 at hb ha
 have hm:=(List.getElem?_eq_some_iff.mp ha).1
 rw [hp]at hm
 refine ⟨a,e,m m0 a _ ha (List.getElem?_eq_getElem hm) fun x hx=>?_⟩
 obtain ⟨j,hj⟩:=List.mem_iff_getElem?.mp hx
 have hjl:=(List.getElem?_eq_some_iff.mp hj).1
 have:=hb.2 j (by omega)
 have e1:ps.getD j (0,0)=x:=by rw [List.getD_eq_getElem?_getD,hj];rfl
 have e2:ps.getD m0 (0,0)=ps[m0]:=by rw [List.getD_eq_getElem?_getD,List.getElem?_eq_getElem hm];rfl
 simp only [e1,e2]at this
 omega
theorem call_minT(hr:Room k X.A):CallR X (.builtin "min") (rMinT X.K):=by
 intro pins s σ H xs us Q I r h
 obtain ⟨l,as,ps,rfl,hq,hp,hne,m⟩:=h
 obtain ⟨u,rfl,ru⟩:=vals1 r
 cases ru
 obtain ⟨its,r,pl,hz⟩:=I.list hq
 have hlt:l < s.heap.objs.size:=by obtain ⟨o,n,e,_⟩:=pl;exact Heap.lt_size e
 have hlen:=r.length
 rw [List.length_map]at hlen
 obtain ⟨Tm,hc,hT⟩:=cmp_pairs hr I hp r
 refine call_minT0 (wpAny_pyIter_list pl.isList ⟨s.heap.objs.size,_,_,_,_,_,_,rfl,Walks.list (show X.A.in1.handled=none from hr.hd) s.heap.objs.size l (Nat.ne_of_lt hlt) its.toArray,⟨⟨_,Heap.get?_push_size _ rfl,rfl,rfl⟩,pl.isList.push _⟩,fun b hb=>?_,by rw [List.size_toArray,← hlen];exact fun z=>hne (List.length_eq_zero_iff.mp z),⟨Tm,hc,fun b o e=>⟨fun hI=>absurd (Heap.lt_size (hT b o e)) (by rw [List.mem_singleton.mp hI];exact Nat.lt_irrefl _),Heap.get?_push_of_some _ (hT b o e)⟩⟩,fun v h' tk hP hmv=>?_⟩)
 · show b < (s.heap.push _).objs.size
   rw [Heap.size_push]
   rcases List.mem_cons.mp hb with e | hb
   · rw [e];exact Nat.lt_succ_self _
   · rw [List.mem_singleton.mp hb];exact Nat.lt_succ_of_lt hlt
 · have hk:∀b o,s.heap.get? b=some o→h'.get? b=some o:=fun b o e=>
    hmv b o (fun hI=>absurd (Heap.lt_size e) (by rw [List.mem_singleton.mp hI];exact Nat.lt_irrefl _)) (Heap.get?_push_of_some _ e)
   obtain ⟨a,rfl,q⟩:=min_fin r hp.1 hne m hP
   exact ⟨V.ref a,H,I.kept (t':=tk) hk,rfl,q⟩
variable {x:Str} {p pos kp:Pos} {e o:Expr} {t:TA} {td:TE}
theorem pe_minTD(hr:Room k X.A)(hg:Gl X x)(hm:X.mg x=none)(hv:bootBuiltins x=some (.builtin "min"))(ha:PA X [e] t)(ho:PE X o td)(hn:x≠"__name__":=by decide)(hdb:(x==("__debug__":Str))=false:=by decide)
 (he:backTo pos (starEach [e] X.env)=(false,eval e X.env)::backTo pos (starEach [] X.env):=by rfl) (hpl:(backTo pos (starEach [e] X.env)).any (·.1)=false:=by rfl):
 PE X (.Call (.Name x p) [e] [⟨some (Str.ofString "default"),o,kp⟩] pos) (tMinTD X.K t td):=by
 intro pins s σ H Q I h
 refine wpAny_Call_Name_kw (ld_blt I hg hm hv ?_ hn hdb)
 refine callWith_kw (thn (ha pos pins s σ H _ I h) fun us s1 hq_=>?_) he hpl
 obtain ⟨vs,H1,I1,r1,q1⟩:=hq_
 refine kws_cons (thn (ho pins s1 σ H1 _ I1 q1) fun u s2 ⟨y,H2,I2,ry,l,as,ps,ev,hq,hp,q0,m⟩=>kws_nil ?_)
 subst ev
 obtain ⟨u',rfl,ru⟩:=vals1 r1
 obtain rfl:u'=Value.ref l:=ru
 obtain ⟨its,r,pl,hz⟩:=I2.list hq
 have hlt:l < s2.heap.objs.size:=by obtain ⟨o,n,e,_⟩:=pl;exact Heap.lt_size e
 have hlen:=r.length
 rw [List.length_map]at hlen
 obtain ⟨Tm,hc,hT⟩:=cmp_pairs hr I2 hp r
 refine call_minTD (wpAny_pyIter_list pl.isList ⟨s2.heap.objs.size,_,_,_,_,_,_,rfl,Walks.list (show X.A.in1.handled=none from hr.hd) s2.heap.objs.size l (Nat.ne_of_lt hlt) its.toArray,⟨⟨_,Heap.get?_push_size _ rfl,rfl,rfl⟩,pl.isList.push _⟩,fun b hb=>?_,⟨Tm,hc,fun b o e=>⟨fun hI=>absurd (Heap.lt_size (hT b o e)) (by rw [List.mem_singleton.mp hI];exact Nat.lt_irrefl _),Heap.get?_push_of_some _ (hT b o e)⟩⟩,fun v h' tk hP hmv=>?_⟩)
 · show b < (s2.heap.push _).objs.size
   rw [Heap.size_push]
   rcases List.mem_cons.mp hb with e | hb
   · rw [e];exact Nat.lt_succ_self _
   · rw [List.mem_singleton.mp hb];exact Nat.lt_succ_of_lt hlt
 · have hk:∀b o,s2.heap.get? b=some o→h'.get? b=some o:=fun b o e=>
    hmv b o (fun hI=>absurd (Heap.lt_size e) (by rw [List.mem_singleton.mp hI];exact Nat.lt_irrefl _)) (Heap.get?_push_of_some _ e)
   by_cases hz:as=[]
   · rw [if_pos (by rw [List.size_toArray,← hlen,hz];rfl)]at hP
     subst hP
     exact ⟨y,H2,I2.kept (t':=tk) hk,ry,q0 hz⟩
   · rw [if_neg (by rw [List.size_toArray,← hlen];exact fun z=>hz (List.length_eq_zero_iff.mp z))]at hP
     obtain ⟨a,rfl,q⟩:=min_fin r hp.1 hz m hP
     exact ⟨V.ref a,H2,I2.kept (t':=tk) hk,rfl,q⟩
end
theorem rd_minT{K:PySem.W.Frag}{vs:List V}{H:Hp}{Q:VK}:rMinT K vs H Q=∃(l:Addr) (as:List Addr) (ps:List (Int×Int)),vs=[.ref l]∧SqL K H l (as.map V.ref)∧PairsAt K H as ps∧as≠[]∧MinAt as ps fun a=>Q (.ref a) H:=rfl
theorem rd_minTD{K:PySem.W.Frag}{t:TA}{td:TE}{σ:St}{H:Hp}{Q:VK}:tMinTD K t td σ H Q=t σ H fun vs H1=>td σ H1 fun d H2=>∃(l:Addr) (as:List Addr) (ps:List (Int×Int)),vs=[.ref l]∧SqL K H2 l (as.map V.ref)∧PairsAt K H2 as ps∧(as=[]→Q d H2)∧MinAt as ps fun a=>Q (.ref a) H2:=rfl
end L2
namespace L2
open N1
noncomputable def PairsH(H:Hp)(as:List Addr)(ps:List (Int×Int)):Prop:=as.length=ps.length∧∀(i:Nat) (a:Addr) (p:Int×Int),as[i]?=some a→ps[i]?=some p→H a=some (.tup [.int p.1,.int p.2])
theorem PairsH.at{K:PySem.W.Frag}{H:Hp}{as:List Addr}{ps:List (Int×Int)}(h:PairsH H as ps):PairsAt K H as ps:=⟨h.1,fun i a p ha hp=>SqT.of (h.2 i a p ha hp)⟩
theorem PairsH.same{H H':Hp}{as:List Addr}{ps:List (Int×Int)}(s:Same H H')(h:PairsH H as ps):PairsH H' as ps:=⟨h.1,fun i a p ha hp=>s _ _ (h.2 i a p ha hp)⟩
theorem PairsH.nil{H:Hp}:PairsH H [] []:=⟨rfl,fun i a p h=>by simp at h⟩
theorem PairsH.off{H:Hp}{as:List Addr}{ps:List (Int×Int)}{l:Addr}{xs:List V}{o:HO}(hl:H l=some (.lst xs))(h:PairsH H as ps):PairsH (upd H l o) as ps:=⟨h.1,fun i a p ha hp=>by
 have e:=h.2 i a p ha hp
 rw [upd_ne fun z=>by rw [z,hl]at e;cases e];exact e⟩
theorem PairsH.snoc{H:Hp}{as:List Addr}{ps:List (Int×Int)}{a:Addr}{p:Int×Int}(h:PairsH H as ps)(e:H a=some (.tup [.int p.1,.int p.2])):PairsH H (as++[a]) (ps++[p]):=by
 refine ⟨by rw [List.length_append,List.length_append,h.1];rfl,fun i b q hb hq=>?_⟩
 by_cases hi:i < as.length
 · rw [List.getElem?_append_left hi]at hb
   rw [List.getElem?_append_left (by rw [← h.1];exact hi)]at hq
   exact h.2 i b q hb hq
 · rw [List.getElem?_append_right (by omega)]at hb
   rw [List.getElem?_append_right (by rw [← h.1];omega)]at hq
   have h0:i - as.length=0:=by have:=(List.getElem?_eq_some_iff.mp hb).1;simp at this;omega
   rw [h0]at hb
   rw [← h.1,h0]at hq
   cases hb
   cases hq
   exact e
section
variable {K:PySem.W.Frag} {H1:Hp} {tail:St} {tt:Blk→TT} {te:Blk→TE} {Q:VK} {a:Addr}
theorem compE_pairs{xs:List V}(p:Nat→Bool)(g:Nat→Int×Int)(hS:SqL K H1 a xs)(hz:xs.length≤sizeLine)
 (ht:∀b (i:Nat) x H QT,xs[i]?=some x→Same H1 H→(∀H',Same H H'→QT (p i) H')→tt b (some (.int i)::some x::tail) H QT)
 (he:∀b (i:Nat) x H Q',xs[i]?=some x→p i=true→Same H1 H→(∀t H',Same H H'→H' t=some (.tup [.int (g i).1,.int (g i).2])→Q' (.ref t) H')→te b (some (.int i)::some x::tail) H Q')
 (q:∀D as H',H1 D=none→Same H1 H'→H' D=some (.lst (as.map V.ref))→PairsH H' as (((List.range xs.length).filter p).map g)→Q (.ref D) H'):CompTail (none::none::tail) (g2 K) tt te Q (Ite K a) H1:=by
 intro b D hD
 refine ⟨fun i m ys H=>m=xs.length - i∧i≤xs.length∧∃as:List Addr,ys=as.map V.ref∧H D=some (.lst ys)∧Same H1 H∧PairsH H as (((List.range i).filter p).map g),⟨_,rfl,Nat.zero_le _,[],rfl,upd_same,same_new hD,PairsH.nil⟩,?_⟩
 rintro i m ys H ⟨rfl,hi,as,rfl,hd,sm,hp⟩
 refine ⟨hd,?_⟩
 by_cases hlt:i < xs.length
 · refine .inr ⟨⟨xs,xs[i],sm.seq hS,by simp [hlt]⟩,?_⟩
   rintro y H3 ⟨t,x,rfl,hn,rfl,g1⟩
   have hx:=g1 xs (sm.seq hS)
   have s3:Same H (upd H t (.tup [.int i,x])):=Same.new hn
   have hl:as.length≤i:=by
    rw [hp.1,List.length_map];exact Nat.le_trans (List.length_filter_le _ _) (by rw [List.length_range];omega)
   have htk:((List.range (i+1)).filter p).map g=((List.range i).filter p).map g++([i].filter p).map g:=by rw [List.range_succ,List.filter_append,List.map_append]
   refine ⟨t,_,rfl,SqT.of upd_same,rfl,_,_,rfl,_,_,rfl,rfl,kept2,?_⟩
   change tt b (some (.int i)::some x::tail) _ _
   refine ht b i x _ _ hx (sm.trans s3) fun H7 s7=>?_
   have s37:=s3.trans s7
   by_cases hpi:p i=true
   · rw [if_pos hpi]
     refine he b i x H7 _ hx hpi (sm.trans s37) fun t8 H8 s8 ht8=>?_
     have s38:=s37.trans s8
     have hd8:=s38 _ _ hd
     refine ⟨hd8,by rw [List.length_map];omega,xs.length - (i+1),by omega,rfl,hlt,as++[t8],by rw [List.map_append];rfl,upd_same,same_put (sm.trans s38) hD,?_⟩
     rw [htk,List.filter_cons_of_pos hpi,List.filter_nil]
     exact ((hp.same s38).snoc ht8).off hd8
   · rw [if_neg hpi]
     refine ⟨xs.length - (i+1),by omega,rfl,hlt,as,rfl,s37 _ _ hd,sm.trans s37,?_⟩
     rw [htk,List.filter_cons_of_neg hpi,List.filter_nil,List.map_nil,List.append_nil]
     exact hp.same s37
 · have e:i=xs.length:=by omega
   subst e
   exact .inl ⟨⟨xs,sm.seq hS,Nat.le_refl _⟩,q D as H hD sm hd hp⟩
theorem compL_pairs{as:List Addr}{ps:List (Int×Int)}(g:Int×Int→Int×Int)(hS:SqL K H1 a (as.map V.ref))(hT:PairsAt K H1 as ps)(hz:as.length≤sizeLine)
 (he:∀b (x:Int×Int) H Q',x∈ps→Same H1 H→(∀t H',Same H H'→H' t=some (.tup [.int (g x).1,.int (g x).2])→Q' (.ref t) H')→te b (some (.int x.1)::some (.int x.2)::tail) H Q')
 (q:∀D bs H',H1 D=none→Same H1 H'→H' D=some (.lst (bs.map V.ref))→PairsH H' bs (ps.map g)→Q (.ref D) H'):CompTail (none::none::tail) (g2 K) (fun _=>tYes) te Q (Itl K a) H1:=by
 intro b D hD
 refine ⟨fun i m ys H=>m=as.length - i∧i≤as.length∧∃bs:List Addr,ys=bs.map V.ref∧H D=some (.lst ys)∧Same H1 H∧PairsH H bs ((ps.take i).map g),⟨_,rfl,Nat.zero_le _,[],rfl,upd_same,same_new hD,PairsH.nil⟩,?_⟩
 rintro i m ys H ⟨rfl,hi,bs,rfl,hd,sm,hp⟩
 refine ⟨hd,?_⟩
 by_cases hlt:i < as.length
 · refine .inr ⟨⟨_,V.ref as[i],sm.seq hS,by simp [hlt]⟩,fun x H3 ⟨e3,ex⟩=>?_⟩
   subst e3
   have hx:=ex _ (sm.seq hS)
   have hx':V.ref as[i]=x:=by simpa [hlt] using hx
   subst hx'
   have hpl:i < ps.length:=by rw [← hT.1];exact hlt
   have hpe:=List.getElem?_eq_getElem hpl
   have hl:bs.length≤i:=by rw [hp.1,List.length_map,List.length_take];omega
   have htk:(ps.take (i+1)).map g=(ps.take i).map g++[g ps[i]]:=by rw [List.take_succ,hpe,List.map_append];rfl
   refine ⟨as[i],_,rfl,sm.tup (hT.2 i _ _ (by simp [hlt]) hpe),rfl,_,_,rfl,_,_,rfl,rfl,kept2,?_⟩
   show tYes _ _ _
   unfold tYes
   dsimp only
   rw [if_pos rfl]
   refine he b ps[i] _ _ (List.getElem_mem hpl) sm fun t8 H8 s8 ht8=>?_
   have hd8:=s8 _ _ hd
   refine ⟨hd8,by rw [List.length_map];omega,as.length - (i+1),by omega,rfl,hlt,bs++[t8],by rw [List.map_append];rfl,upd_same,same_put (sm.trans s8) hD,?_⟩
   rw [htk]
   exact ((hp.same s8).snoc ht8).off hd8
 · have e:i=as.length:=by omega
   subst e
   rw [List.take_of_length_le (by rw [hT.1];omega)]at hp
   exact .inl ⟨⟨_,sm.seq hS,by simp⟩,q D bs H hD sm hd hp⟩
end
end L2
namespace L2
noncomputable def Itd(hi:Int)(n:Nat):It:=⟨fun i _=>i < n,fun i H x H'=>H'=H∧x= .int (hi - i),fun i _=>n≤i⟩
theorem turn_rangeD{P:Program}{w:World}{K:PySem.W.Frag}{tg:Expr}(it:Addr)(hi:Int)(n:Nat):Turn P w K tg (Itd hi n) [it] it (fun i h=>IsRangeIter h it (hi+(i:Nat) * (-1)) ((n:Int) - (i:Nat)) (-1)) where
 mem:=by simp
 obj:=fun i h st b hb=>by
  have e:b=it:=by simpa using hb
  subst e
  exact ⟨_,st,fun v z=>by
   have z':Data.fields _=Data.cell v:=z
   cases z'⟩
 keep:=fun i h h' st k=>k it (by simp) _ st
 item:=by
  intro X hP hw hK hc i pins s σ H E I hf st hg
  subst hP hw hK
  obtain ⟨f0,f1,f2,f3,f4,f5⟩:=hf it (by simp)
  have W:=Walks.range (prog:=X.prog) (w:=X.w) (I.ok.hd hc) it hi (-1) n
  refine W.item i s _ _ hg st fun v h' tk hv st' kk=>?_
  obtain ⟨t,rfl⟩:=hv
  have I1:Inv X pins σ H {s with heap:=h',toks:=tk}:=I.turned (fun b o hb e=>kk b o (by simpa using hb) e) f0 f1 f3 f4 f5
  refine ⟨_,rfl,go_of (s:={s with heap:=h',toks:=tk}) (n:="range_iterator") st' rfl rfl (by decide) ⟨.int (hi - i),H,I1,⟨t,?_⟩,⟨rfl,rfl⟩,st',fun b hb=>(hf b hb).1⟩⟩
  rw [show hi+((i:Nat):Int) * (-1)=hi - i by omega]
 done:=by
   intro X hP hw hK hc i pins s σ H E I hf st hg
   subst hP hw hK
   obtain ⟨f0,f1,f2,f3,f4,f5⟩:=hf it (by simp)
   exact wpAny_pyNext_range_end (I.ok.hd hc) st (by have:n≤i:=hg;omega) fun h' eb=>⟨rfl,I.turned (t':=s.toks) (fun b o hb e=>eb b o hb e) f0 f1 f3 f4 f5⟩
 self:=fun _ _ _ _ _ st h=>wpAny_pyIter_rangeiter st h
theorem size_down(a b:Int):Builtin.Range.rangeSize a b (-1)=if b < a then a - b else 0:=by
 unfold Builtin.Range.rangeSize
 rw [if_neg (by decide)]
 simp only [gt_iff_lt,Int.neg_neg,Int.ediv_one]
 split <;> omega
theorem small_down{a b:Int}(ha:-(2 ^ 61)≤a)(ha':a < 2 ^ 61)(hb:-(2 ^ 61)≤b)(hb':b < 2 ^ 61):Builtin.Range.small a b (-1)=true:=by
 unfold Builtin.Range.small
 rw [size_down]
 simp only [Builtin.Range.rangeFitsLong,Bool.and_eq_true,Bool.or_eq_true,decide_eq_true_eq,beq_iff_eq,show ¬(-1:Int) > 0 by decide,if_false]
 split <;> omega
section
variable {X:Cx} {tg:Expr}
theorem range_itD{pins:List (Addr×Obj)}{σ:St}{H:Hp}{s:Shared}{R:It→Hp→Prop}{E:Value→Shared→Prop}{hi lo:Int}{t u v:Tok}{tk:Nat}(I:Inv X pins σ H s)(h1:-(2 ^ 61)≤hi)(h2:hi < 2 ^ 61)(h3:-(2 ^ 61)≤lo)(h4:lo < 2 ^ 61)
 (q:R (Itd hi (hi - lo).toNat) H):wpAny (model X.prog X.w) X.A (pyIter (.ref s.heap.objs.size)) (PIE X pins σ tg R) E {s with heap:=s.heap.push {cls:= .type "range",data:= .fields #[.int hi t,.int lo u,.int (-1) v]},toks:=tk}:=by
 refine wpAny_pyIter_range (IsRange.new ..) (small_down h1 h2 h3 h4) ?_
 have I1:Inv X pins σ H {s with heap:=s.heap.push {cls:= .type "range",data:= .fields #[.int hi t,.int lo u,.int (-1) v]},toks:=tk}:=I.kept fun b o e=>Heap.get?_push_of_some _ e
 refine ⟨(s.heap.push {cls:= .type "range",data:= .fields #[.int hi t,.int lo u,.int (-1) v]}).objs.size,[(s.heap.push {cls:= .type "range",data:= .fields #[.int hi t,.int lo u,.int (-1) v]}).objs.size],_,_,H,rfl,
  I1.kept (t':=tk) fun b o e=>Heap.get?_push_of_some _ e,turn_rangeD _ hi (hi - lo).toNat,?_,fun b hb=>?_,q⟩
 · have e1:hi+((0:Nat):Int) * (-1)=hi:=by simp
   have e2:(((hi - lo).toNat:Nat):Int) - ((0:Nat):Int)=Builtin.Range.rangeSize hi lo (-1):=by rw [size_down];split <;> omega
   show IsRangeIter _ _ (hi+((0:Nat):Int) * (-1)) ((((hi - lo).toNat:Nat):Int) - ((0:Nat):Int)) (-1)
   rw [e1,e2]
   exact Heap.get?_push_size _ rfl
 · have e:b=(s.heap.push {cls:= .type "range",data:= .fields #[.int hi t,.int lo u,.int (-1) v]}).objs.size:=by simpa using hb
   subst e
   exact I1.fpOk (Nat.le_refl _) (I1.hok.fresh (Nat.le_refl _))
noncomputable def iRngD(ta:TA):TI:=fun σ H R=>ta σ H fun vs H1=>∃i j:Int,vs=[.int i,.int j,.int (-1)]∧(-(2 ^ 40)≤i∧i < 2 ^ 40∧-(2 ^ 40)≤j∧j < 2 ^ 40)∧R (Itd i (i - j).toNat) H1
theorem pi_rangeD{a b c:Expr}{ta:TA}{p pos:Pos}(hg:Gl X "range")(hm:X.mg "range"=none)(ha:PA X [a,b,c] ta)(hs:starEach [a,b,c] X.env=[(false,eval a X.env),(false,eval b X.env),(false,eval c X.env)]:=by rfl)(hs2:starEach [b,c] X.env=[(false,eval b X.env),(false,eval c X.env)]:=by rfl):
 PI X tg (.Call (.Name "range" p) [a,b,c] [] pos) (iRngD ta):=by
 intro pins s σ H R I h
 refine Call_ (ld_blt I hg hm boot_range (PyProof.Rows.callWith_type1 (thn (ha pos pins s σ H _ I h) fun us s1 ⟨vs,H1,I1,r1,q1⟩=>?_) (by rw [hs,hs2]) (by rw [hs2];rfl)))
 obtain ⟨i,j,e,⟨q1,q2,q3,q4⟩,q⟩:=q1
 subst e
 cases r1 with
 | cons r rr=>
  cases rr with
  | cons r' rr=>
   cases rr with
   | cons r'' rr=>
    cases rr
    obtain ⟨t,rfl⟩:=r
    obtain ⟨t',rfl⟩:=r'
    obtain ⟨t'',rfl⟩:=r''
    exact call_range_3 (by decide) (range_itD I1 (by omega) (by omega) (by omega) (by omega) q) (hp:=Or.inl (PyProof.noPylong_small (by omega)))
end
section
variable {σ:St} {H:Hp} {D:Ends}
theorem rd_rngD{ta:TA}{R:It→Hp→Prop}:iRngD ta σ H R=ta σ H fun vs H1=>∃i j:Int,vs=[.int i,.int j,.int (-1)]∧(-(2 ^ 40)≤i∧i < 2 ^ 40∧-(2 ^ 40)≤j∧j < 2 ^ 40)∧R (Itd i (i - j).toNat) H1:=rfl
theorem forD_by{hi:Int}{n:Nat}{g:TG}{tb:TS}(Pv:Nat→St→Hp→Prop)(h0:Pv 0 σ H)
 (hs:∀i σ H,i < n→Pv i σ H→g (.int (hi - i)) σ H fun σ2 H2=>tb {D with nx:=Pv (i+1),ct:=Pv (i+1),bk:=D.nx} σ2 H2) (hd:∀σ H,Pv n σ H→D.nx σ H):ForTail g tb D σ (Itd hi n) H:=by
 refine ⟨fun i m σ H=>m=n - i∧i≤n∧Pv i σ H,⟨_,rfl,Nat.zero_le _,h0⟩,fun i m σ H ⟨em,hi,hp⟩=>?_⟩
 by_cases hlt:i < n
 · refine .inr ⟨hlt,Pv (i+1),fun σ' H' q=>⟨n - (i+1),by omega,rfl,hlt,q⟩,?_⟩
   rintro x H' ⟨rfl,rfl⟩
   exact hs i σ _ hlt hp
 · have e:i=n:=by omega
   subst e
   exact .inl ⟨Nat.le_refl _,hd σ H hp⟩
end
end L2
namespace L2
noncomputable def Itk(o:Obj)(d:Addr):It:=
 ⟨fun i H=>∃kvs p,H d=some (.frz o (.dK kvs))∧kvs[i]?=some p,fun i H v H'=>H'=H∧∀kvs,H d=some (.frz o (.dK kvs))→∃p,kvs[i]?=some p∧v=kV p.1,
  fun i H=>∃kvs,H d=some (.frz o (.dK kvs))∧kvs.length≤i⟩
noncomputable def tnK(o:Obj)(I d:Addr)(i:Nat)(h:Heap):Prop:=d≠I∧∃es ep,o.data= .dict es ep∧h.IsKeyIter I d i es.size ep
theorem turn_keys{P:Program}{w:World}{K:PySem.W.Frag}{tg:Expr}(o:Obj)(d I:Addr):Turn P w K tg (Itk o d) [I] I (tnK o I d) where
 mem:=by simp
 obj:=fun i h st c hc=>by
  obtain ⟨_,es,ep,_,o1,h1,h2,h3⟩:=st
  have hc:c=I:=by simpa using hc
  subst hc
  exact ⟨_,h1,fun v z=>by rw [h3]at z;cases z⟩
 keep:=fun i h h' st kk=>by
  obtain ⟨ne,es,ep,hd,o1,h1,h2,h3⟩:=st
  exact ⟨ne,es,ep,hd,o1,kk I (by simp) _ h1,h2,h3⟩
 item:=by
  intro X hP hw hK hc i pins s σ H E J hf st hg
  subst hP hw hK
  obtain ⟨kvs,p,hd,hp⟩:=hg
  obtain ⟨ne,es,ep,hdat,h1⟩:=st
  obtain ⟨e,z,lo,ws,rel,ob,es2,ep2,e1,c1,d1,r1⟩:=J.hok d _ hd
  have e1':=e1
  rw [e]at e1'
  cases e1'
  rw [hdat]at d1
  cases d1
  have dat:s.heap.DictAt (mixKind X.prog X.w) d ws ep:=⟨o,es,e1,c1,hdat,r1⟩
  have hsz:es.size=ws.length:=by
   obtain ⟨_,hpr,_⟩:=r1
   rw [← hpr.length];simp
  rw [hsz]at h1
  have hlw:i < ws.length:=by rw [← rel.length];exact (List.getElem?_eq_some_iff.mp hp).1
  have hw:ws[i]?=some (ws[i]):=List.getElem?_eq_getElem hlw
  obtain ⟨p',hp',hpk,hpv⟩:=paired_get rel hw
  rw [hp]at hp'
  cases hp'
  obtain ⟨f0,f1,f2,f3,f4,f5⟩:=hf I (by simp)
  refine wpAny_pyNext_dict_item h1 dat (k:=(ws[i]).1) (v:=(ws[i]).2) hw fun key h' hkey hit' sb=>?_
  have I1:Inv X pins σ H {s with heap:=h'}:=J.turned (t':=s.toks) (fun b o hb e=>(sb.2 b hb).trans e) f0 f1 f3 f4 f5
  have rk:RelV (kV p.1) key:=by rw [hpk];exact kV_of hkey
  obtain ⟨o',e',c',d'⟩:=id hit'
  exact ⟨key,rfl,go_of (s:={s with heap:=h'}) e' c' d' (by decide) ⟨kV p.1,H,I1,rk,⟨rfl,fun kvs' hy'=>by rw [hd]at hy';cases hy';exact ⟨p,hp,rfl⟩⟩,⟨ne,es,ep,hdat,by rw [hsz];exact hit'⟩,fun c hc=>(hf c hc).1⟩⟩
 done:=by
   intro X hP hw hK hc i pins s σ H E J hf st hg
   subst hP hw hK
   obtain ⟨kvs,hd,hl⟩:=hg
   obtain ⟨ne,es,ep,hdat,h1⟩:=st
   obtain ⟨e,z,lo,ws,rel,ob,es2,ep2,e1,c1,d1,r1⟩:=J.hok d _ hd
   have e1':=e1
   rw [e]at e1'
   cases e1'
   rw [hdat]at d1
   cases d1
   have dat:s.heap.DictAt (mixKind X.prog X.w) d ws ep:=⟨o,es,e1,c1,hdat,r1⟩
   have hsz:es.size=ws.length:=by
    obtain ⟨_,hpr,_⟩:=r1
    rw [← hpr.length];simp
   rw [hsz]at h1
   have hn:ws[i]?=none:=List.getElem?_eq_none (by rw [← rel.length];exact hl)
   obtain ⟨f0,f1,f2,f3,f4,f5⟩:=hf I (by simp)
   exact wpAny_pyNext_dict_end (J.ok.hd hc) h1 dat hn fun h' eb=>⟨rfl,J.turned (t':=s.toks) (fun b o hb e=>eb b o hb e) f0 f1 f3 f4 f5⟩
 self:=fun A i s Q E st h=>by
  obtain ⟨_,es,ep,_,h1⟩:=st
  exact wpAny_pyIter_keyiter h1 h
section
variable {X:Cx}
noncomputable def iDict(tl:TE):TI:=fun σ H R=>tl σ H fun x H1=>∃d kvs,x= .ref d∧((H1 d=some (.dK kvs)∧∀o,R (Itk o d) (upd H1 d (.frz o (.dK kvs))))∨∃o,H1 d=some (.frz o (.dK kvs))∧R (Itk o d) H1)
theorem pi_dict{tg e:Expr}{tl:TE}(hl:PE X e tl):PI X tg e (iDict tl):=by
 intro pins s σ H R I h
 refine thn (hl pins s σ H _ I h) fun u s1 hq_=>?_
 obtain ⟨x,H1,I1,rx,q⟩:=hq_
 obtain ⟨d,kvs,rfl,hq⟩:=q
 cases rx
 have key:∀(o:Obj) (H2:Hp),Inv X pins σ H2 s1→H2 d=some (.frz o (.dK kvs))→R (Itk o d) H2→wpAny (model X.prog X.w) X.A (pyIter (.ref d)) (PIE X pins σ tg R) X.xe s1:=by
  intro ob H2 I2 hd q
  obtain ⟨e,z,lo,ws,rel,ob',es2,ep2,e1,c1,d1,r1⟩:=I2.hok d _ hd
  have e1':=e1
  rw [e]at e1'
  cases e1'
  have dat:s1.heap.DictAt (mixKind X.prog X.w) d ws ep2:=⟨ob,es2,e1,c1,d1,r1⟩
  have hsz:es2.size=ws.length:=by
   obtain ⟨_,hpr,_⟩:=r1
   rw [← hpr.length];simp
  refine wpAny_pyIter_dict lo dat ?_
  have I3:Inv X pins σ H2 {s1 with heap:=s1.heap.push {cls:= .type "dict_keyiterator",data:= .fields #[.ref d,.int 0 0,.int ws.length 0,.int ep2 0]}}:=I2.kept (t':=s1.toks) fun b o e=>Heap.get?_push_of_some _ e
  have ltd:=Heap.lt_size e1
  refine ⟨s1.heap.objs.size,[s1.heap.objs.size],_,_,_,rfl,I3,turn_keys ob d s1.heap.objs.size,⟨Nat.ne_of_lt ltd,es2,ep2,d1,?_⟩,fun c hc=>?_,q⟩
  · rw [hsz];exact ⟨_,Heap.get?_push_size _ rfl,rfl,rfl⟩
  · have hc:c=s1.heap.objs.size:=by simpa using hc
    subst hc
    exact I2.fpOk (Nat.le_refl _) (I2.hok.fresh (Nat.le_refl _))
 rcases hq with ⟨hd,q⟩ | ⟨o,hd,q⟩
 · obtain ⟨z,lo,ws,rel,ob,es2,ep2,e1,c1,d1,r1⟩:=I1.hok d _ hd
   have I2:Inv X pins σ (upd H1 d (.frz ob (.dK kvs))) {s1 with heap:=s1.heap,toks:=s1.toks}:=I1.write (x:=d) (e:=d) (by rw [hd];trivial) (.inl rfl) (fun b u _ e=>e) ⟨ob,e1⟩ ⟨e1,z,lo,ws,rel,ob,es2,ep2,e1,c1,d1,r1⟩
   exact key ob _ I2 upd_same (q ob)
 · exact key o H1 I1 hd q
end
section
variable {σ:St} {H:Hp} {D:Ends}
theorem rd_idict{tl:TE}{R:It→Hp→Prop}:iDict tl σ H R=tl σ H fun x H1=>∃d kvs,x= .ref d∧((H1 d=some (.dK kvs)∧∀o,R (Itk o d) (upd H1 d (.frz o (.dK kvs))))∨∃o,H1 d=some (.frz o (.dK kvs))∧R (Itk o d) H1):=rfl
theorem forK_by{o:Obj}{d:Addr}{kvs:List (Key×V)}{g:TG}{tb:TS}(Pv:Nat→St→Hp→Prop)(h0:Pv 0 σ H)(hl:∀i σ H,i≤kvs.length→Pv i σ H→H d=some (.frz o (.dK kvs)))
 (hs:∀i p σ H,kvs[i]?=some p→Pv i σ H→g (kV p.1) σ H fun σ2 H2=>tb {D with nx:=Pv (i+1),ct:=Pv (i+1),bk:=D.nx} σ2 H2) (hd:∀σ H,Pv kvs.length σ H→D.nx σ H):ForTail g tb D σ (Itk o d) H:=by
 refine ⟨fun i m σ H=>i≤kvs.length∧m=kvs.length - i∧Pv i σ H,⟨_,Nat.zero_le _,rfl,h0⟩,fun i m σ H ⟨hi,hm,hP⟩=>?_⟩
 have hq:=hl i σ H hi hP
 cases hx:kvs[i]? with
 | none=>
  have hn:kvs.length≤i:=by simpa using hx
  have e:i=kvs.length:=Nat.le_antisymm hi hn
  subst e
  exact .inl ⟨⟨kvs,hq,Nat.le_refl _⟩,hd σ H hP⟩
 | some p=>
  have hlt:i < kvs.length:=(List.getElem?_eq_some_iff.mp hx).1
  refine .inr ⟨⟨kvs,p,hq,hx⟩,Pv (i+1),fun σ' H' h=>⟨kvs.length - (i+1),by omega,by omega,rfl,h⟩,?_⟩
  rintro y H' ⟨rfl,hy⟩
  obtain ⟨p',hp',rfl⟩:=hy kvs hq
  have e:=hp'.symm.trans hx
  cases e
  exact hs i _ σ H' hx hP
end
end L2
namespace L2
theorem HOk.thaw{P:Program}{w:World}{H:Hp}{h:Heap}{d:Addr}{o:Obj}{u:HO}(ok:HOk P w H h)(e:H d=some (.frz o u)):HOk P w (upd H d u) h:=fun b v q=>by
 have own:∀c y,H c=some (.own y)→upd H d u c=some (.own y):=fun c y r=>by rw [upd_ne (fun z=>by rw [z,e]at r;cases r)];exact r
 have tup:∀c xs,H c=some (.tup xs)→upd H d u c=some (.tup xs):=fun c xs r=>by rw [upd_ne (fun z=>by rw [z,e]at r;cases r)];exact r
 by_cases hb:b=d
 · rw [hb,upd_same]at q
   cases q
   rw [hb]
   exact (ok d _ e).2.stay (fun c v _ r=>r) (fun c r=>own c _ r) (fun c xs r=>tup c xs r)
 · rw [upd_ne hb]at q
   exact (ok b v q).stay (fun c v _ r=>r) (fun c r=>own c _ r) (fun c xs r=>tup c xs r)
section
variable {X:Cx} {pins:List (Addr×Obj)} {σ:St} {H:Hp} {s:Shared}
theorem Inv.thaw{d:Addr}{o:Obj}{u:HO}(I:Inv X pins σ H s)(e:H d=some (.frz o u))(n:∀o' u',X.H₀ d≠some (.frz o' u')):Inv X pins σ (upd H d u) s:=by
 have hne:∀b,H b=none→b≠d:=fun b hb z=>by rw [z,e]at hb;cases hb
 refine ⟨I.ok,I.os,I.bare,⟨I.base.keep,I.base.slot,fun b ob q k hx=>?_,I.base.there,fun b xs q=>?_,fun b ob v q=>?_,fun b ps q=>?_⟩,I.loc,I.cell,by rw [upd_ne (hne _ I.free)];exact I.free,fun x c hc=>by rw [upd_ne (hne _ (I.freeC x c hc))];exact I.freeC x c hc,fun p hp=>?_,I.hok.thaw e,I.len⟩
 · have:=I.base.free b ob q k hx
   rw [upd_ne (hne b this)];exact this
 · have:=I.base.tups b xs q
   rw [upd_ne (fun z=>by rw [z,e]at this;cases this)];exact this
 · have:=I.base.frzs b ob v q
   rw [upd_ne (fun z=>n ob v (by rw [← z];exact q))];exact this
 · obtain ⟨more,this⟩:=I.base.tbls b ps q
   exact ⟨more,by rw [upd_ne (fun z=>by rw [z,e]at this;cases this)];exact this⟩
 · obtain ⟨k1,k2,k3⟩:=I.pin p hp
   exact ⟨k1,by rw [upd_ne (hne _ k2)];exact k2,k3⟩
noncomputable def Thw(H0:Hp)(R:Hp→Prop)(H:Hp):Prop:=R H∨∃d o u,H d=some (.frz o u)∧(∀o' u',H0 d≠some (.frz o' u'))∧R (upd H d u)
noncomputable def tThaw(H0:Hp)(t:TS):TS:=fun D σ H=>t {D with nx:=fun σ H=>Thw H0 (D.nx σ) H,rt:=fun v H=>Thw H0 (D.rt v) H} σ H
theorem ps_thaw{st:Stmt}{t:TS}(h:PS X st t):PS X st (tThaw X.H₀ t):=by
 intro pins s σ H D I ht
 refine thn (h pins s σ H _ I ht) fun f s' hf=>?_
 cases f with
 | next=>
  obtain ⟨σ',H',I',hn | ⟨d,o,u,e,n,hn⟩⟩:=hf
  · exact ⟨σ',H',I',hn⟩
  · exact ⟨σ',_,I'.thaw e n,hn⟩
 | brk=>exact hf
 | cont=>exact hf
 | ret v=>
  obtain ⟨v,σ',H',I',r,hn | ⟨d,o,u,e,n,hn⟩⟩:=hf
  · exact ⟨v,σ',H',I',r,hn⟩
  · exact ⟨v,σ',_,I'.thaw e n,r,hn⟩
end
theorem rd_thaw{H0:Hp}{t:TS}{D:Ends}{σ:St}{H:Hp}:tThaw H0 t D σ H=t {D with nx:=fun σ H=>Thw H0 (D.nx σ) H,rt:=fun v H=>Thw H0 (D.rt v) H} σ H:=rfl
end L2
namespace L2
noncomputable def dis1(s:List Str)(y:Str):List Str:=if y∈s then s else s++[y]
noncomputable def dis(ys:List Str):List Str:=ys.foldl dis1 []
theorem dis_snoc(ys:List Str)(y:Str):dis (ys++[y])=dis1 (dis ys) y:=by unfold dis;rw [List.foldl_append];rfl
theorem dis_take{ys:List Str}{i:Nat}(h:i < ys.length):dis (ys.take (i+1))=dis1 (dis (ys.take i)) (ys.getD i Str.empty):=by
 rw [List.take_add_one,List.getElem?_eq_getElem h,← dis_snoc,List.getD_eq_getElem?_getD,List.getElem?_eq_getElem h];rfl
theorem mem_dis1{s:List Str}{y z:Str}:z∈dis1 s y↔z∈s∨z=y:=by
 unfold dis1
 split
 · rename_i h
   exact ⟨.inl,fun h'=>h'.elim id fun e=>e▸h⟩
 · rw [List.mem_append,List.mem_singleton]
theorem len_dis1{s:List Str}{y:Str}:(dis1 s y).length=if decide (y∈s)=true then s.length else s.length+1:=by
 unfold dis1
 by_cases h:y∈s
 · rw [if_pos h,if_pos (decide_eq_true h)]
 · rw [if_neg h,if_neg (by simp [h])];simp
theorem len_dis_le(ys:List Str):∀i,(dis (ys.take i)).length≤i:=by
 intro i
 induction i with
 | zero=>rw [List.take_zero];exact Nat.le_refl _
 | succ i ih=>
  by_cases h:i < ys.length
  · rw [dis_take h,len_dis1]
    split <;> omega
  · rw [List.take_of_length_le (by omega),← List.take_of_length_le (i:=i) (l:=ys) (by omega)];omega
end L2
namespace L2
open N1
section
variable {K:PySem.W.Frag} {tail:St} {tt:Blk→TT} {te:Blk→TE} {Q:VK} {H1:Hp}
theorem compI_2{o:Obj}{d:Addr}{kvs:List (Key×V)}(p:Nat→Bool)(f:Nat→V)(hd:H1 d=some (.frz o (.dK kvs)))(hz:kvs.length≤sizeLine)
 (ht:∀b (i:Nat) k x H QT,kvs[i]?=some (k,x)→Same H1 H→(∀H',Same H H'→QT (p i) H')→tt b (some (kV k)::some x::tail) H QT)
 (he:∀b (i:Nat) k x H Q',kvs[i]?=some (k,x)→p i=true→Same H1 H→(∀H',Same H H'→Q' (f i) H')→te b (some (kV k)::some x::tail) H Q')
 (q:∀D H',H1 D=none→Same H1 H'→H' D=some (.lst (((List.range kvs.length).filter p).map f))→Q (.ref D) H'):CompTail (none::none::tail) (g2 K) tt te Q (Iti o d) H1:=by
 intro b D hD
 refine ⟨fun i m ys H=>m=kvs.length - i∧i≤kvs.length∧ys=((List.range i).filter p).map f∧H D=some (.lst ys)∧Same H1 H,⟨_,rfl,Nat.zero_le _,rfl,upd_same,same_new hD⟩,?_⟩
 rintro i m ys H ⟨rfl,hi,rfl,h,sm⟩
 refine ⟨h,?_⟩
 by_cases hlt:i < kvs.length
 · have hx:kvs[i]?=some kvs[i]:=List.getElem?_eq_getElem hlt
   refine .inr ⟨⟨kvs,_,sm _ _ hd,hx⟩,?_⟩
   rintro v H3 ⟨t,k',x',rfl,hn,rfl,g1⟩
   have e1:=(g1 kvs (sm _ _ hd)).symm.trans hx
   have s3:Same H (upd H t (.tup [kV k',x'])):=Same.new hn
   have hl:(((List.range i).filter p).map f).length≤i:=by
    rw [List.length_map];exact Nat.le_trans (List.length_filter_le _ _) (by rw [List.length_range];omega)
   have htk:(List.range (i+1)).filter p=(List.range i).filter p++[i].filter p:=by rw [List.range_succ,List.filter_append]
   refine ⟨t,_,rfl,SqT.of upd_same,rfl,_,_,rfl,_,_,rfl,rfl,kept2,?_⟩
   change tt b (some (kV k')::some x'::tail) _ _
   refine ht b i k' x' _ _ (hx.trans e1.symm) (sm.trans s3) fun H7 s7=>?_
   have s37:=s3.trans s7
   by_cases hp:p i=true
   · rw [if_pos hp]
     refine he b i k' x' H7 _ (hx.trans e1.symm) hp (sm.trans s37) fun H8 s8=>?_
     have hd8:=(s37.trans s8) _ _ h
     refine ⟨hd8,by omega,kvs.length - (i+1),by omega,rfl,hlt,?_,upd_same,same_put (sm.trans (s37.trans s8)) hD⟩
     rw [htk,List.filter_cons_of_pos hp,List.filter_nil,List.map_append];rfl
   · rw [if_neg hp]
     refine ⟨kvs.length - (i+1),by omega,rfl,hlt,?_,s37 _ _ h,sm.trans s37⟩
     rw [htk,List.filter_cons_of_neg hp,List.filter_nil,List.append_nil]
 · have e:i=kvs.length:=by omega
   subst e
   exact .inl ⟨⟨kvs,sm _ _ hd,Nat.le_refl _⟩,q D H hD sm h⟩
theorem compL_mkX{a:Addr}{xs:List V}(P:Addr→Nat→V→Hp→Prop)(hP:∀{D i y H H'},P D i y H→SameBut D H H'→P D i y H')(hS:SqL K H1 a xs)(hz:xs.length≤sizeLine)(he:∀b D (i:Nat) x H Q',xs[i]?=some x→Same H1 H→H1 D=none→(∃zs,H D=some (.lst zs))→(∀y H',Same H H'→P D i y H'→Q' y H')→te b (some x::tail) H Q')
 (q:∀D ys H',H1 D=none→Same H1 H'→H' D=some (.lst ys)→ys.length=xs.length→(∀i y,ys[i]?=some y→P D i y H')→Q (.ref D) H'):CompTail (none::tail) (fun _=>gName 0) (fun _=>tYes) te Q (Itl K a) H1:=by
 refine comp_by xs.length (fun b D hD=>⟨fun i ys H=>i≤xs.length∧ys.length=i∧H D=some (.lst ys)∧Same H1 H∧∀j y,ys[j]?=some y→P D j y H,⟨Nat.zero_le _,rfl,upd_same,same_new hD,fun j y e=>by simp at e⟩,?_,?_,?_⟩)
 · rintro i ys H ⟨hi,_,h,_⟩
   exact h
 · rintro ys H ⟨_,hl,h,sm,hall⟩
   exact ⟨⟨xs,sm.seq hS,Nat.le_refl _⟩,q D ys H hD sm h hl hall⟩
 · rintro i ys H hi ⟨_,hl,h,sm,hall⟩
   refine ⟨⟨xs,xs[i],sm.seq hS,by simp [hi]⟩,fun x H3 ⟨e3,ex⟩=>?_⟩
   subst e3
   refine he b D i x _ _ (ex xs (sm.seq hS)) sm hD ⟨_,h⟩ fun y H4 sm4 py=>?_
   have h4:=sm4 _ _ h
   have sb:SameBut D H4 (upd H4 D (.lst (ys++[y]))):=sameBut_upd
   refine compNext h4 (by omega) hi ⟨hi,by rw [List.length_append,hl];rfl,upd_same,fun c o e=>?_,fun j y' e=>?_⟩
   · rw [upd_ne (ne_of_none e hD)];exact sm4 _ _ (sm _ _ e)
   · by_cases hj:j < ys.length
     · rw [List.getElem?_append_left hj]at e
       exact hP (hall j y' e) fun c o e n=>by rw [upd_ne n];exact sm4 _ _ e
     · rw [List.getElem?_append_right (by omega)]at e
       have hj0:j=i:=by have:=(List.getElem?_eq_some_iff.mp e).1;simp at this;omega
       subst hj0
       rw [show j - ys.length=0 by omega]at e
       cases e
       exact hP py sb
theorem compL_ifx{a:Addr}{xs:List V}(p:Nat→Bool)(hS:SqL K H1 a xs)(hz:xs.length≤sizeLine)
 (ht:∀b (i:Nat) x H QT,xs[i]?=some x→Same H1 H→(∀H',Same H H'→QT (p i) H')→tt b (some x::tail) H QT)
 (he:∀b (i:Nat) x H Q',xs[i]?=some x→p i=true→Same H1 H→(∀H',Same H H'→Q' x H')→te b (some x::tail) H Q')
 (q:∀D H',H1 D=none→Same H1 H'→H' D=some (.lst (((List.range xs.length).filter p).map fun i=>xs.getD i .non))→Q (.ref D) H'):CompTail (none::tail) (fun _=>gName 0) tt te Q (Itl K a) H1:=by
 intro b D hD
 refine ⟨fun i m ys H=>m=xs.length - i∧i≤xs.length∧ys=((List.range i).filter p).map (fun i=>xs.getD i .non)∧H D=some (.lst ys)∧Same H1 H,⟨_,rfl,Nat.zero_le _,rfl,upd_same,same_new hD⟩,?_⟩
 rintro i m ys H ⟨rfl,hi,rfl,hd,sm⟩
 refine ⟨hd,?_⟩
 by_cases hlt:i < xs.length
 · have hx:=List.getElem?_eq_getElem hlt
   refine .inr ⟨⟨xs,xs[i],sm.seq hS,hx⟩,fun x H3 ⟨e3,ex⟩=>⟨kept0,?_⟩⟩
   subst e3
   have hx':=(ex xs (sm.seq hS)).symm.trans hx
   cases hx'
   have eg:xs.getD i .non=xs[i]:=by rw [List.getD_eq_getElem?_getD,hx];rfl
   have hl:(((List.range i).filter p).map fun i=>xs.getD i .non).length≤i:=by
    rw [List.length_map];exact Nat.le_trans (List.length_filter_le _ _) (by rw [List.length_range];omega)
   have htk:(List.range (i+1)).filter p=(List.range i).filter p++[i].filter p:=by rw [List.range_succ,List.filter_append]
   refine ht b i _ _ _ hx sm fun H7 s7=>?_
   by_cases hp:p i=true
   · rw [if_pos hp]
     refine he b i _ H7 _ hx hp (sm.trans s7) fun H8 s8=>?_
     have hd8:=(s7.trans s8) _ _ hd
     refine ⟨hd8,by omega,xs.length - (i+1),by omega,rfl,hlt,?_,upd_same,same_put ((sm.trans s7).trans s8) hD⟩
     rw [htk,List.filter_cons_of_pos hp,List.filter_nil,List.map_append]
     show _++[xs[i]]=_++[xs.getD i .non]
     rw [eg]
   · rw [if_neg hp]
     refine ⟨xs.length - (i+1),by omega,rfl,hlt,?_,s7 _ _ hd,sm.trans s7⟩
     rw [htk,List.filter_cons_of_neg hp,List.filter_nil,List.append_nil]
 · have e:i=xs.length:=by omega
   subst e
   exact .inl ⟨⟨xs,sm.seq hS,Nat.le_refl _⟩,q D H hD sm hd⟩
end
theorem filt_ix{α:Type}(d:α)(f:α→Bool)(l:List α):l.filter f=((List.range l.length).filter fun i=>f (l.getD i d)).map fun i=>l.getD i d:=by
 have e:l=(List.range l.length).map fun i=>l.getD i d:=by
  refine List.ext_getElem? fun i=>?_
  rw [List.getElem?_map]
  by_cases hi:i < l.length
  · rw [List.getElem?_range hi,List.getElem?_eq_getElem hi]
    show _=some (l.getD i d)
    rw [List.getD_eq_getElem?_getD,List.getElem?_eq_getElem hi];rfl
  · rw [List.getElem?_eq_none (by omega),List.getElem?_eq_none (by rw [List.length_range];omega)];rfl
 have e2:((List.range l.length).map fun i=>l.getD i d).filter f=((List.range l.length).filter fun i=>f (l.getD i d)).map fun i=>l.getD i d:=by rw [List.filter_map];rfl
 rw [← e2,← e]
end L2
namespace N47
open L2 N1 N5 N4 N6 N32 N41
theorem snone{H H':Hp}{a:Addr}(s:Same H H')(h:H' a=none):H a=none:=by
 cases e:H a with
 | none=>rfl
 | some o=>rw [s _ _ e]at h;cases h
noncomputable def bmL:List Str→List Str→Nat
 | [],_=>0
 | d::D,L=>(if d∈L then 1 else 0)+2 * bmL D L
noncomputable def RD:List Str→Str→Nat
 | [],_=>0
 | d::D,z=>if z=d then 1 else 2 * RD D z
theorem wR_at{D:List Str}(nd:D.Nodup):∀{j:Nat} {z:Str},D[j]?=some z→RD D z=2 ^ j:=by
 induction D with
 | nil=>intro j z h;simp at h
 | cons d D ih=>
  intro j z h
  have nd':=List.nodup_cons.mp nd
  cases j with
  | zero=>simp at h;subst h;simp [RD]
  | succ j=>
   have h':D[j]?=some z:=by simpa using h
   have n:z≠d:=fun e=>nd'.1 (e▸List.mem_of_getElem? h')
   show (if z=d then 1 else 2 * RD D z)=_
   rw [if_neg n,ih nd'.2 h',Nat.pow_succ];omega
theorem bm_bit{D:List Str}:∀{L:List Str} {i:Nat},(bmL D L).testBit i=decide (∃z,D[i]?=some z∧z∈L):=by
 induction D with
 | nil=>intro L i;simp [bmL]
 | cons d D ih=>
  intro L i
  have hb:bmL (d::D) L=(if d∈L then 1 else 0)+2 * bmL D L:=rfl
  cases i with
  | zero=>
   rw [hb,Nat.testBit_zero]
   by_cases h:d∈L
   · rw [if_pos h]
     have:(1+2 * bmL D L) % 2=1:=by omega
     rw [this];simp [h]
   · rw [if_neg h]
     have:(0+2 * bmL D L) % 2=0:=by omega
     rw [this];simp [h]
  | succ i=>
   rw [hb,Nat.testBit_succ]
   have:((if d∈L then 1 else 0)+2 * bmL D L) / 2=bmL D L:=by split <;> omega
   rw [this,ih]
   simp
theorem bm_lt{D L:List Str}:bmL D L < 2 ^ D.length:=by
 induction D with
 | nil=>simp [bmL]
 | cons d D ih=>
  show (if d∈L then 1 else 0)+2 * bmL D L < 2 ^ (D.length+1)
  rw [Nat.pow_succ]
  split <;> omega
theorem wR_bm{D:List Str}(nd:D.Nodup):∀{z:Str},z∈D→RD D z=bmL D [z]:=by
 induction D with
 | nil=>intro z h;cases h
 | cons d D ih=>
  intro z h
  have nd':=List.nodup_cons.mp nd
  show (if z=d then 1 else 2 * RD D z)=(if d∈[z] then 1 else 0)+2 * bmL D [z]
  by_cases e:z=d
  · subst e
    rw [if_pos rfl,if_pos (by simp)]
    have:bmL D [z]=0:=by
     refine Nat.eq_of_testBit_eq fun i=>?_
     rw [bm_bit,Nat.zero_testBit]
     refine decide_eq_false fun ⟨y,hy,hm⟩=>nd'.1 ?_
     rw [List.mem_singleton.mp hm]at hy
     exact List.mem_of_getElem? hy
    omega
  · rcases List.mem_cons.mp h with h | h
    · exact absurd h e
    · rw [if_neg e,if_neg (fun m=>e (List.mem_singleton.mp m).symm),ih nd'.2 h];omega
theorem bm_and{D A B:List Str}:bmL D A &&& bmL D B=bmL D (A.filter fun z=>decide (z∈B)):=by
 refine Nat.eq_of_testBit_eq fun i=>?_
 rw [Nat.testBit_and,bm_bit,bm_bit,bm_bit,← Bool.decide_and]
 refine decide_eq_decide.mpr ⟨fun ⟨⟨z,h1,h2⟩,y,h3,h4⟩=>?_,fun ⟨z,h1,h2⟩=>?_⟩
 · rw [h1]at h3;cases h3
   exact ⟨z,h1,List.mem_filter.mpr ⟨h2,by simpa using h4⟩⟩
 · have:=List.mem_filter.mp h2
   exact ⟨⟨z,h1,this.1⟩,z,h1,by simpa using this.2⟩
theorem bm_congr{D A B:List Str}(h:∀z∈D,(z∈A↔z∈B)):bmL D A=bmL D B:=by
 refine Nat.eq_of_testBit_eq fun i=>?_
 rw [bm_bit,bm_bit]
 exact decide_eq_decide.mpr ⟨fun ⟨z,h1,h2⟩=>⟨z,h1,(h z (List.mem_of_getElem? h1)).mp h2⟩,fun ⟨z,h1,h2⟩=>⟨z,h1,(h z (List.mem_of_getElem? h1)).mpr h2⟩⟩
theorem bm_zero{D A:List Str}:bmL D A=0↔∀z∈D,z∉A:=by
 constructor
 · intro h z hz ha
   obtain ⟨i,hi⟩:=List.mem_iff_getElem?.mp hz
   have:=bm_bit (D:=D) (L:=A) (i:=i)
   rw [h,Nat.zero_testBit]at this
   exact absurd this.symm (by simp;exact ⟨z,hi,ha⟩)
 · intro h
   refine Nat.eq_of_testBit_eq fun i=>?_
   rw [bm_bit,Nat.zero_testBit]
   exact decide_eq_false fun ⟨z,h1,h2⟩=>h z (List.mem_of_getElem? h1) h2
theorem band_nat(a b:Nat):Builtin.bitAnd (a:Int) (b:Int)=((a &&& b:Nat):Int):=by
 unfold Builtin.bitAnd
 rw [decide_eq_true (Int.natCast_nonneg a),decide_eq_true (Int.natCast_nonneg b)]
 simp
theorem is_in{D A:List Str}(nd:D.Nodup){z:Str}(hz:z∈D):Builtin.bitAnd (bmL D A:Int) (RD D z:Int)≠0↔z∈A:=by
 rw [band_nat,wR_bm nd hz,bm_and]
 constructor
 · intro h
   by_cases ha:z∈A
   · exact ha
   · refine absurd ?_ h
     have:bmL D (A.filter fun y=>decide (y∈[z]))=0:=bm_zero.mpr fun y hy hm=>by
      have:=List.mem_filter.mp hm
      have e:y=z:=by simpa using this.2
      exact ha (e▸this.1)
     rw [this];rfl
 · intro ha h
   have h':bmL D (A.filter fun y=>decide (y∈[z]))=0:=by omega
   exact bm_zero.mp h' z hz (List.mem_filter.mpr ⟨ha,by simp⟩)
theorem has_all{D A B:List Str}(h:∀z∈B,z∈A):Builtin.bitAnd (bmL D A:Int) (bmL D B:Int)=(bmL D B:Int):=by
 rw [band_nat,bm_and,bm_congr (B:=B)]
 intro z _
 rw [List.mem_filter]
 exact ⟨fun h2=>by simpa using h2.2,fun h2=>⟨h z h2,by simpa using h2⟩⟩
theorem bm_less{D L:List Str}(nd:D.Nodup){z:Str}(hz:z∈D)(hl:z∈L):(bmL D L:Int) - (RD D z:Int)=(bmL D (L.filter fun y=>decide (y≠z)):Int):=by
 have key:bmL D L=RD D z+bmL D (L.filter fun y=>decide (y≠z)):=by
  induction D with
  | nil=>cases hz
  | cons d D ih=>
   have nd':=List.nodup_cons.mp nd
   show (if d∈L then 1 else 0)+2 * bmL D L=(if z=d then 1 else 2 * RD D z)+((if d∈L.filter (fun y=>decide (y≠z)) then 1 else 0)+2 * bmL D (L.filter fun y=>decide (y≠z)))
   by_cases e:z=d
   · subst e
     rw [if_pos hl,if_pos rfl,if_neg (fun m=>by simpa using (List.mem_filter.mp m).2),bm_congr (D:=D) (A:=L.filter fun y=>decide (y≠z)) (B:=L)]
     · omega
     · intro y hy
       rw [List.mem_filter]
       exact ⟨fun h=>h.1,fun h=>⟨h,by simpa using fun e:y=z=>nd'.1 (e▸hy)⟩⟩
   · rcases List.mem_cons.mp hz with h | h
     · exact absurd h e
     · have i1:=ih nd'.2 h
       have e2:(if d∈L.filter (fun y=>decide (y≠z)) then 1 else 0:Nat)=if d∈L then 1 else 0:=by
        by_cases hd:d∈L
        · rw [if_pos hd,if_pos (List.mem_filter.mpr ⟨hd,by simpa using fun e':d=z=>e e'.symm⟩)]
        · rw [if_neg hd,if_neg (fun m=>hd (List.mem_filter.mp m).1)]
       rw [if_neg e,e2];omega
 omega
noncomputable def rmx:List Int→Nat→Int
 | [],_=>0
 | r::rs,S=>(if S % 2=1 then r else 0)+rmx rs (S / 2)
noncomputable def rmsL(rs:List Int):List Int:=(List.range (2 ^ rs.length)).map (rmx rs)
theorem rmx_low{rs:List Int}:∀{S:Nat},rmx rs (2 ^ rs.length+S)=rmx rs S:=by
 induction rs with
 | nil=>intro S;rfl
 | cons r rs ih=>
  intro S
  show (if (2 ^ (rs.length+1)+S) % 2=1 then r else 0)+rmx rs ((2 ^ (rs.length+1)+S) / 2)=(if S % 2=1 then r else 0)+rmx rs (S / 2)
  have e:2 ^ (rs.length+1)=2 * 2 ^ rs.length:=by rw [Nat.pow_succ];omega
  rw [e,show (2 * 2 ^ rs.length+S) % 2=S % 2 by omega,show (2 * 2 ^ rs.length+S) / 2=2 ^ rs.length+S / 2 by omega,ih]
theorem rmx_snoc{rs:List Int}{r:Int}:∀{S:Nat},rmx (rs++[r]) S=rmx rs S+if S / 2 ^ rs.length % 2=1 then r else 0:=by
 induction rs with
 | nil=>
  intro S
  show (if S % 2=1 then r else 0)+rmx [] (S / 2)=rmx [] S+if S / 2 ^ 0 % 2=1 then r else 0
  rw [Nat.pow_zero,Nat.div_one]
  show (if S % 2=1 then r else 0)+0=0+_
  omega
 | cons q rs ih=>
  intro S
  show (if S % 2=1 then q else 0)+rmx (rs++[r]) (S / 2)=(if S % 2=1 then q else 0)+rmx rs (S / 2)+if S / 2 ^ (rs.length+1) % 2=1 then r else 0
  rw [ih,Nat.div_div_eq_div_mul,← Nat.pow_succ',Int.add_assoc]
theorem rms_snoc{rs:List Int}{r:Int}:rmsL (rs++[r])=rmsL rs++(rmsL rs).map (fun x=>x+r):=by
 unfold rmsL
 have e:2 ^ (rs++[r]).length=2 ^ rs.length+2 ^ rs.length:=by rw [List.length_append];show 2 ^ (rs.length+1)=_;rw [Nat.pow_succ];omega
 rw [e,List.range_add,List.map_append,List.map_map,List.map_map]
 congr 1
 · refine List.map_congr_left fun S hS=>?_
   have:=List.mem_range.mp hS
   rw [rmx_snoc,Nat.div_eq_of_lt this];simp
 · refine List.map_congr_left fun S hS=>?_
   have hS:=List.mem_range.mp hS
   show rmx (rs++[r]) (2 ^ rs.length+S)=rmx rs S+r
   rw [rmx_snoc,rmx_low,Nat.add_div_left _ (Nat.two_pow_pos _),Nat.div_eq_of_lt hS,if_pos (by rfl)]
theorem rms_len{rs:List Int}:(rmsL rs).length=2 ^ rs.length:=by unfold rmsL;rw [List.length_map,List.length_range]
theorem rms_at{rs:List Int}{S:Nat}(h:S < 2 ^ rs.length):(rmsL rs).getD S 0=rmx rs S:=by
 unfold rmsL
 rw [List.getD_eq_getElem?_getD,List.getElem?_map,List.getElem?_range h];rfl
noncomputable def smD(f:Str→Int)(l:List Str):Int:=(l.map f).sum
theorem sm_perm{f:Str→Int}{a b:List Str}(h:a.Perm b):smD f a=smD f b:=by
 unfold smD
 induction h with
 | nil=>rfl
 | cons x _ ih=>rw [List.map_cons,List.map_cons,List.sum_cons,List.sum_cons,ih]
 | swap x y l=>simp only [List.map_cons,List.sum_cons];omega
 | trans _ _ a b=>exact a.trans b
theorem in_perm{D L:List Str}(nd:D.Nodup)(nl:L.Nodup)(h:∀z∈L,z∈D):L.Perm (D.filter fun z=>decide (z∈L)):=
 (List.perm_ext_iff_of_nodup nl (nd.sublist (List.filter_sublist))).mpr fun z=>by
  rw [List.mem_filter]
  exact ⟨fun m=>⟨h z m,by simpa using m⟩,fun m=>by simpa using m.2⟩
theorem rmx_bm{f:Str→Int}{L:List Str}:∀{D:List Str},rmx (D.map f) (bmL D L)=smD f (D.filter fun z=>decide (z∈L)):=by
 intro D
 induction D with
 | nil=>rfl
 | cons d D ih=>
  show (if ((if d∈L then 1 else 0)+2 * bmL D L) % 2=1 then f d else 0)+rmx (D.map f) (((if d∈L then 1 else 0)+2 * bmL D L) / 2)=_
  by_cases h:d∈L
  · rw [if_pos h,List.filter_cons_of_pos (by simpa using h),if_pos (by omega),show (1+2 * bmL D L) / 2=bmL D L by omega,ih]
    rfl
  · rw [if_neg h,List.filter_cons_of_neg (by simpa using h),if_neg (by omega),show (0+2 * bmL D L) / 2=bmL D L by omega,ih]
    omega
theorem wR_sum{L:List Str}:∀{D:List Str},D.Nodup→smD (fun z=>(RD D z:Int)) (D.filter fun z=>decide (z∈L))=(bmL D L:Int):=by
 intro D
 induction D with
 | nil=>intro _;rfl
 | cons d D ih=>
  intro nd
  have nd':=List.nodup_cons.mp nd
  have e:∀l:List Str,(∀z∈l,z∈D)→smD (fun z=>(RD (d::D) z:Int)) l=2 * smD (fun z=>(RD D z:Int)) l:=by
   intro l
   induction l with
   | nil=>intro _;rfl
   | cons y r ih2=>
    intro h
    have n:y≠d:=fun e=>nd'.1 (e▸h y (by simp))
    have e1:(RD (d::D) y:Int)=2 * (RD D y:Int):=by
     show ((if y=d then 1 else 2 * RD D y:Nat):Int)=_
     rw [if_neg n];omega
    have:=ih2 fun z hz=>h z (List.mem_cons_of_mem _ hz)
    show (RD (d::D) y:Int)+smD (fun z=>(RD (d::D) z:Int)) r=2 * ((RD D y:Int)+smD (fun z=>(RD D z:Int)) r)
    rw [e1,this];omega
  have i1:=ih nd'.2
  have hm:∀z∈D.filter (fun z=>decide (z∈L)),z∈D:=fun z hz=>(List.mem_filter.mp hz).1
  show _=(((if d∈L then 1 else 0)+2 * bmL D L:Nat):Int)
  by_cases h:d∈L
  · rw [List.filter_cons_of_pos (by simpa using h),if_pos h]
    show ((RD (d::D) d:Nat):Int)+smD (fun z=>(RD (d::D) z:Int)) _=_
    rw [e _ hm,i1,show RD (d::D) d=1 from if_pos rfl];omega
  · rw [List.filter_cons_of_neg (by simpa using h),if_neg h,e _ hm,i1];omega
noncomputable def lxle(p q:Int×Int):Bool:=decide (p.1 < q.1∨p.1=q.1∧p.2≤q.2)
noncomputable def leastP:List (Int×Int)→Option (Int×Int)
 | []=>none
 | p::r=>match leastP r with
  | none=>some p
  | some q=>if lxle p q then some p else some q
theorem least_nil{ps:List (Int×Int)}:leastP ps=none↔ps=[]:=by
 cases ps with
 | nil=>simp [leastP]
 | cons p r=>
  simp only [leastP,reduceCtorEq,iff_false]
  split
  · simp
  · split <;> simp
theorem least_is:∀{ps:List (Int×Int)} {p:Int×Int},leastP ps=some p→p∈ps∧∀x∈ps,p.1 < x.1∨p.1=x.1∧p.2≤x.2:=by
 intro ps
 induction ps with
 | nil=>intro p h;cases h
 | cons a r ih=>
  intro p h
  simp only [leastP]at h
  split at h
  · rename_i e
    cases h
    rw [least_nil.mp e]
    exact ⟨by simp,fun x hx=>by rw [List.mem_singleton.mp hx];exact .inr ⟨rfl,Int.le_refl _⟩⟩
  · rename_i q e
    obtain ⟨i1,i2⟩:=ih e
    split at h
    · rename_i hl
      cases h
      have hl:a.1 < q.1∨a.1=q.1∧a.2≤q.2:=by simpa [lxle] using hl
      refine ⟨by simp,fun x hx=>?_⟩
      rcases List.mem_cons.mp hx with e' | hx
      · rw [e'];exact .inr ⟨rfl,Int.le_refl _⟩
      · have:=i2 x hx
        omega
    · rename_i hl
      have hq:q=p:=Option.some.inj h
      subst hq
      have hl:¬(a.1 < q.1∨a.1=q.1∧a.2≤q.2):=by simpa [lxle] using hl
      refine ⟨List.mem_cons_of_mem _ i1,fun x hx=>?_⟩
      rcases List.mem_cons.mp hx with e' | hx
      · rw [e'];omega
      · exact i2 x hx
theorem least_of{ps:List (Int×Int)}{p:Int×Int}(hp:p∈ps)(h:∀x∈ps,p.1 < x.1∨p.1=x.1∧p.2≤x.2):leastP ps=some p:=by
 cases e:leastP ps with
 | none=>rw [least_nil.mp e]at hp;cases hp
 | some q=>
  obtain ⟨h1,h2⟩:=least_is e
  have a:=h q h1
  have b:=h2 p hp
  have:q=p:=Prod.ext (by omega) (by omega)
  rw [this]
noncomputable abbrev Ent:=Option (Int×Int)
noncomputable def knP(es:List Ent):List (Int×Int):=((List.range es.length).filter fun i=>(es.getD i none).isSome).map fun i=>(((es.getD i none).getD (0,0)).1,(i:Int))
noncomputable def svP(es:List Ent)(w c:Int):List (Int×Int):=(knP es).map fun p=>(if Builtin.bitAnd p.2 w≠0 then p.1 else p.1+c,p.2)
noncomputable def alP(s:Int)(q:Int×Int):Bool:=decide (Builtin.bitAnd q.2 s=s)
noncomputable def bhE(es:List Ent)(rs:List Int)(n w c:Int):List Ent:=(List.range rs.length).map fun (h:Nat)=>if Builtin.bitAnd (h:Int) w≠0∧rs.getD h 0≤n then leastP ((svP es w c).filter (alP ((h:Int) - w))) else none
noncomputable def tab(rs:List Int)(n:Int)(W C:Str→Int)(ys:List Str):Nat→List Ent
 | 0=>[some (0,0)]
 | i+1=>bhE (tab rs n W C ys i) rs n (W (ys.getD i Str.empty)) (C (ys.getD i Str.empty))
theorem kn_mem{es:List Ent}{q:Int×Int}:q∈knP es↔∃(i:Nat) (p:Int×Int),es[i]?=some (some p)∧q=(p.1,(i:Int)):=by
 unfold knP
 rw [List.mem_map]
 constructor
 · rintro ⟨i,hi,rfl⟩
   obtain ⟨h1,h2⟩:=List.mem_filter.mp hi
   have hl:=List.mem_range.mp h1
   rw [List.getD_eq_getElem?_getD,List.getElem?_eq_getElem hl]at h2 ⊢
   cases e:es[i] with
   | none=>rw [e]at h2;cases h2
   | some p=>exact ⟨i,p,by rw [List.getElem?_eq_getElem hl,e],rfl⟩
 · rintro ⟨i,p,h,rfl⟩
   have hl:=(List.getElem?_eq_some_iff.mp h).1
   refine ⟨i,List.mem_filter.mpr ⟨List.mem_range.mpr hl,?_⟩,?_⟩
   · rw [List.getD_eq_getElem?_getD,h];rfl
   · rw [List.getD_eq_getElem?_getD,h];rfl
theorem sv_mem{es:List Ent}{w c:Int}{q:Int×Int}:q∈svP es w c↔∃(i:Nat) (p:Int×Int),es[i]?=some (some p)∧q=(if Builtin.bitAnd (i:Int) w≠0 then p.1 else p.1+c,(i:Int)):=by
 unfold svP
 rw [List.mem_map]
 constructor
 · rintro ⟨x,hx,rfl⟩
   obtain ⟨i,p,h,rfl⟩:=kn_mem.mp hx
   exact ⟨i,p,h,rfl⟩
 · rintro ⟨i,p,h,rfl⟩
   exact ⟨_,kn_mem.mpr ⟨i,p,h,rfl⟩,rfl⟩
theorem bh_len{es:List Ent}{rs:List Int}{n w c:Int}:(bhE es rs n w c).length=rs.length:=by unfold bhE;rw [List.length_map,List.length_range]
theorem bh_at{es:List Ent}{rs:List Int}{n w c:Int}{h:Nat}(hl:h < rs.length):(bhE es rs n w c)[h]?=some (if Builtin.bitAnd (h:Int) w≠0∧rs.getD h 0≤n then leastP ((svP es w c).filter (alP ((h:Int) - w))) else none):=by
 unfold bhE
 rw [List.getElem?_map,List.getElem?_range hl];rfl
theorem bh_back{es:List Ent}{rs:List Int}{n w c:Int}{h:Nat}{p:Int×Int}(e:(bhE es rs n w c)[h]?=some (some p)):∃(i:Nat) (p':Int×Int),p.2=(i:Int)∧es[i]?=some (some p'):=by
 have hl:h < rs.length:=by have:=(List.getElem?_eq_some_iff.mp e).1;rw [bh_len]at this;exact this
 rw [bh_at hl]at e
 have e:=Option.some.inj e
 split at e
 · obtain ⟨m,_⟩:=least_is e
   obtain ⟨i,p',h1,rfl⟩:=sv_mem.mp (List.mem_filter.mp m).1
   exact ⟨i,p',rfl,h1⟩
 · cases e
section
variable {D:List Str} {R C:Str→Int} {n:Int} {es:List Ent}
theorem bh_step(nd:D.Nodup){L L':List Str}{z:Str}(hz:z∈D){p:Int×Int}(he:es[bmL D L]?=some (some p))(hz':z∈L')(hs:∀y∈L',y≠z→y∈L)(nl:L'.Nodup)(hd:∀y∈L',y∈D)(hr:smD R L'≤n){c:Int}:
 ∃p':Int×Int,(bhE es (rmsL (D.map R)) n (RD D z:Int) c)[bmL D L']?=some (some p')∧p'.1≤if z∈L then p.1 else p.1+c:=by
 have hl:bmL D L' < (rmsL (D.map R)).length:=by rw [rms_len,List.length_map];exact bm_lt
 have hroom:(rmsL (D.map R)).getD (bmL D L') 0≤n:=by
  rw [rms_at (by rw [List.length_map];exact bm_lt),rmx_bm,← sm_perm (in_perm nd nl hd)]
  exact hr
 rw [bh_at hl,if_pos ⟨(is_in nd hz).mpr hz',hroom⟩]
 · have hm:((if Builtin.bitAnd (bmL D L:Int) (RD D z:Int)≠0 then p.1 else p.1+c,(bmL D L:Int)):Int×Int)∈(svP es (RD D z:Int) c).filter (alP ((bmL D L':Int) - (RD D z:Int))):=by
    refine List.mem_filter.mpr ⟨sv_mem.mpr ⟨_,p,he,rfl⟩,?_⟩
    unfold alP
    rw [bm_less nd hz hz']
    refine decide_eq_true (has_all fun y hy=>?_)
    have:=List.mem_filter.mp hy
    exact hs y this.1 (by simpa using this.2)
   cases e:leastP ((svP es (RD D z:Int) c).filter (alP ((bmL D L':Int) - (RD D z:Int)))) with
   | none=>rw [least_nil.mp e]at hm;cases hm
   | some q=>
    refine ⟨q,rfl,?_⟩
    have h2:=(least_is e).2 _ hm
    have h3:q.1≤(if Builtin.bitAnd (bmL D L:Int) (RD D z:Int)≠0 then p.1 else p.1+c):=by omega
    by_cases hzl:z∈L
    · rw [if_pos ((is_in nd hz).mpr hzl)]at h3
      rw [if_pos hzl];exact h3
    · rw [if_neg (fun k=>hzl ((is_in nd hz).mp k))]at h3
      rw [if_neg hzl];exact h3
end
theorem mem_dis{ys:List Str}{z:Str}:z∈dis ys↔z∈ys:=by
 have key:∀(l:List Str) (s:List Str),z∈l.foldl dis1 s↔z∈s∨z∈l:=by
  intro l
  induction l with
  | nil=>intro s;simp
  | cons y l ih=>intro s;rw [List.foldl_cons,ih,mem_dis1,List.mem_cons,or_assoc]
 unfold dis
 rw [key];simp
theorem dis_nodup(ys:List Str):(dis ys).Nodup:=by
 have key:∀(l s:List Str),s.Nodup→(l.foldl dis1 s).Nodup:=by
  intro l
  induction l with
  | nil=>exact fun s h=>h
  | cons y l ih=>
   intro s h
   refine ih _ ?_
   unfold dis1
   split
   · exact h
   · rename_i hn
     exact List.nodup_append.mpr ⟨h,List.nodup_cons.mpr ⟨List.not_mem_nil,List.nodup_nil⟩,fun a ha b hb e=>hn (by rw [← List.mem_singleton.mp hb,← e];exact ha)⟩
 exact key ys [] List.nodup_nil
noncomputable def WtI0(D:List Str)(R:Str→Int):Prop:=∀(j:Nat) (z:Str),D[j]?=some z→R z=2 ^ j
noncomputable def addV(k:Int):V→V
 | .int x=> .int (x+k)
 | v=>v
theorem addV_list{k:Int}{l:List Int}:(l.map V.int).map (addV k)=(l.map fun x=>x+k).map V.int:=by rw [List.map_map,List.map_map];rfl
theorem wt_snoc{D:List Str}{R:Str→Int}{y:Str}(hy:y∉D)(h:WtI0 D R):WtI0 (D++[y]) (upF R y (2 ^ D.length)):=by
 intro j z e
 by_cases hj:j < D.length
 · rw [List.getElem?_append_left hj]at e
   rw [upF_ne (fun k=>hy (by rw [← k];exact List.mem_of_getElem? e))]
   exact h j z e
 · rw [List.getElem?_append_right (by omega)]at e
   have h0:j - D.length=0:=by have:=(List.getElem?_eq_some_iff.mp e).1;simp at this;omega
   rw [h0]at e
   have ez:y=z:=by simpa using e
   rw [← ez,upF_same,show j=D.length by omega]
theorem last_at{as:List Addr}{i:Nat}{al:Addr}(hl:as.length=i+1)(h:as[i]?=some al):atI (as.map V.ref) (-1)=some (V.ref al):=by
 have e:as=as.take i++[al]:=by
  have h1:=(List.take_append_drop i as).symm
  have hi:i < as.length:=by omega
  have h2:as.drop i=[al]:=by
   rw [List.drop_eq_getElem_cons hi,List.drop_eq_nil_of_le (by omega)]
   have:=(List.getElem?_eq_some_iff.mp h).2
   rw [this]
  rw [h2]at h1
  exact h1
 rw [e,List.map_append]
 exact atI_last _ _
theorem cut_one{as:List Addr}:cutV (as.map V.ref) (some 1) none=(as.drop 1).map V.ref:=cut_tailR as
theorem tab_len{rs:List Int}{n:Int}{W C:Str→Int}{ys:List Str}{i:Nat}(h:rs.length≤64):(tab rs n W C ys i).length≤64:=by
 cases i with
 | zero=>show 1≤64;decide
 | succ i=>show (bhE _ _ _ _ _).length≤64;rw [bh_len];exact h
noncomputable def WtI(D:List Str)(R:Str→Int):Prop:=WtI0 D R
theorem WtI.wr{D:List Str}{R:Str→Int}(nd:D.Nodup)(h:WtI D R){z:Str}(hz:z∈D):R z=(RD D z:Int):=by
 obtain ⟨j,hj⟩:=List.mem_iff_getElem?.mp hz
 rw [h j z hj,wR_at nd hj]
 simp
noncomputable def EnH(H:Hp)(v:V):Ent→Prop
 | none=>v= .non
 | some p=>∃a,v= .ref a∧H a=some (.tup [.int p.1,.int p.2])
theorem EnH.same{H H':Hp}{v:V}{e:Ent}(s:Same H H')(h:EnH H v e):EnH H' v e:=by
 cases e with
 | none=>exact h
 | some p=>obtain ⟨a,h1,h2⟩:=h;exact ⟨a,h1,s _ _ h2⟩
noncomputable def WaysH(H:Hp)(l:Addr)(es:List Ent):Prop:=∃vs:List V,H l=some (.lst vs)∧vs.length=es.length∧∀(i:Nat) (v:V) (e:Ent),vs[i]?=some v→es[i]?=some e→EnH H v e
theorem WaysH.same{H H':Hp}{l:Addr}{es:List Ent}(s:Same H H')(h:WaysH H l es):WaysH H' l es:=let ⟨vs,h1,h2,h3⟩:=h;⟨vs,s _ _ h1,h2,fun i v e a b=>(h3 i v e a b).same s⟩
noncomputable def TabH(H:Hp)(l:Addr)(f:Nat→List Ent)(n:Nat):Prop:=∃as:List Addr,H l=some (.lst (as.map V.ref))∧as.length=n+1∧∀(i:Nat) (a:Addr),as[i]?=some a→WaysH H a (f i)
theorem TabH.same{H H':Hp}{l:Addr}{f:Nat→List Ent}{n:Nat}(s:Same H H')(h:TabH H l f n):TabH H' l f n:=let ⟨as,h1,h2,h3⟩:=h;⟨as,s _ _ h1,h2,fun i a e=>(h3 i a e).same s⟩
noncomputable def payV:Ent→V
 | none=> .non
 | some p=> .int p.1
noncomputable def sp47_worths(K:PySem.W.Frag):Sp:=fun vs H Q _=>∃(a:Addr) (ys:List Str),vs=[.ref a]∧SqL K H a (ys.map V.str)∧ys.length≤200∧∀d R H',Same H H'→H d=none→H' d=some (.dK (kvN (dis ys) R))→WtI (dis ys) R→Q (.ref d) H'
noncomputable def sp47_rooms(K:PySem.W.Frag)(C:Addr):Sp:=fun vs H Q _=>∃(st d:Addr) (ts:List Th) (D:List Str) (R:Str→Int),vs=[.ref st,.ref d]∧(∀H',SameBut d H H'→StockAt K C H' st ts)∧(ts.map (·.1)).Nodup∧(∀z∈D,z∈ts.map (·.1))∧H d=some (.dK (kvN D R))∧D.length≤6∧
 ∀l H',Same H H'→H l=none→H' l=some (.lst ((rmsL (D.map (rm ts))).map V.int))→Q (.ref l) H'
noncomputable def sp47_in:Sp:=fun vs H Q _=>∃w h:Int,vs=[.int w,.int h]∧Q (.bl (decide (Builtin.bitAnd h w≠0))) H
noncomputable def sp47_all:Sp:=fun vs H Q _=>∃h s:Int,vs=[.int h,.int s]∧Q (.bl (decide (Builtin.bitAnd h s=s))) H
noncomputable def sp47_known:Sp:=fun vs H Q _=>∃(l:Addr) (es:List Ent),vs=[.ref l]∧WaysH H l es∧es.length≤64∧∀D as H',Same H H'→H D=none→H' D=some (.lst (as.map V.ref))→PairsH H' as (knP es)→Q (.ref D) H'
noncomputable def sp47_served:Sp:=fun vs H Q _=>∃(l:Addr) (w c:Int) (es:List Ent),vs=[.ref l,.int w,.int c]∧WaysH H l es∧es.length≤64∧∀D as H',Same H H'→H D=none→H' D=some (.lst (as.map V.ref))→PairsH H' as (svP es w c)→Q (.ref D) H'
noncomputable def sp47_behind(K:PySem.W.Frag):Sp:=fun vs H Q _=>∃(l r:Addr) (n w c:Int) (es:List Ent) (rs:List Int),vs=[.ref l,.ref r,.int n,.int w,.int c]∧WaysH H l es∧es.length≤64∧SqL K H r (rs.map V.int)∧rs.length≤64∧∀D H',Same H H'→H D=none→WaysH H' D (bhE es rs n w c)→Q (.ref D) H'
noncomputable def sp47_tab(K:PySem.W.Frag)(C:Addr):Sp:=fun vs H Q _=>∃(st a d:Addr) (n:Int) (ts:List Th) (ys D:List Str) (R:Str→Int),vs=[.ref st,.ref a,.int n,.ref d]∧(∀H',SameBut d H H'→StockAt K C H' st ts)∧(ts.map (·.1)).Nodup∧SqL K H a (ys.map V.str)∧ys.length≤30∧(∀y∈ys,y∈D)∧(∀z∈D,z∈ts.map (·.1))∧H d=some (.dK (kvN D R))∧D.length≤6∧
 ∀l H',Same H H'→H l=none→TabH H' l (tab (rmsL (D.map (rm ts))) n R (cst ts) ys) ys.length→Q (.ref l) H'
noncomputable def sp47_pay:Sp:=fun vs H Q _=>∃(l:Addr) (es:List Ent),vs=[.ref l]∧WaysH H l es∧es.length≤64∧∀D H',Same H H'→H D=none→H' D=some (.lst (es.map payV))→Q (.ref D) H'
theorem tab_one{D ys:List Str}{W C Rm:Str→Int}{n:Int}(nd:D.Nodup)(hW:WtI D W)(hin:∀y∈ys,y∈D)(hr:∀y∈ys,Rm y≤n):∀i,i≤ys.length→∃(L:List Str) (p:Int×Int),(tab (rmsL (D.map Rm)) n W C ys i)[bmL D L]?=some (some p):=by
 intro i
 induction i with
 | zero=>intro _;exact ⟨[],(0,0),by rw [bm_zero.mpr (by simp)];rfl⟩
 | succ i ih=>
  intro hi
  obtain ⟨L,p,h⟩:=ih (by omega)
  have hy:=List.getElem?_eq_getElem (show i < ys.length by omega)
  have hg:ys.getD i Str.empty=ys[i]:=by rw [List.getD_eq_getElem?_getD,hy];rfl
  have hm:=List.getElem_mem (show i < ys.length by omega)
  obtain ⟨p',h',_⟩:=bh_step (R:=Rm) (n:=n) nd (hin _ hm) h (L':=[ys[i]]) (by simp) (fun y hy2 hn=>absurd (List.mem_singleton.mp hy2) hn) (by simp) (fun y hy2=>by rw [List.mem_singleton.mp hy2];exact hin _ hm) (by show Rm ys[i]+0≤n;have:=hr _ hm;omega) (c:=C ys[i])
  refine ⟨[ys[i]],p',?_⟩
  show (bhE (tab (rmsL (D.map Rm)) n W C ys i) (rmsL (D.map Rm)) n (W (ys.getD i Str.empty)) (C (ys.getD i Str.empty)))[bmL D [ys[i]]]?=_
  rw [hg,hW.wr nd (hin _ hm)]
  exact h'
theorem tab_some{D ys:List Str}{W C Rm:Str→Int}{n:Int}(nd:D.Nodup)(hW:WtI D W)(hin:∀y∈ys,y∈D)(hr:∀y∈ys,Rm y≤n):knP (tab (rmsL (D.map Rm)) n W C ys ys.length)≠[]:=by
 obtain ⟨L,p,h⟩:=tab_one (C:=C) nd hW hin hr ys.length (Nat.le_refl _)
 intro e
 have:=kn_mem.mpr ⟨_,p,h,rfl⟩
 rw [e]at this
 cases this
theorem bm_all{L:List Str}:∀{D:List Str},(∀z∈D,z∈L)→bmL D L+1=2 ^ D.length:=by
 intro D
 induction D with
 | nil=>intro _;rfl
 | cons d D ih=>
  intro h
  have i1:=ih fun z hz=>h z (List.mem_cons_of_mem _ hz)
  show (if d∈L then 1 else 0)+2 * bmL D L+1=2 ^ (D.length+1)
  rw [if_pos (h d (by simp)),Nat.pow_succ];omega
theorem smD_congr{f g:Str→Int}{l:List Str}(h:∀z∈l,f z=g z):smD f l=smD g l:=by
 unfold smD
 rw [List.map_congr_left h]
theorem bits_sum{D L:List Str}{B:Str→Int}(nd:D.Nodup)(hB:WtI D B)(nl:L.Nodup)(h:∀z∈L,z∈D):smD B L=(bmL D L:Int):=by
 rw [smD_congr (g:=fun z=>(RD D z:Int)) (fun z hz=>hB.wr nd (h z hz)),sm_perm (in_perm nd nl h),wR_sum nd]
theorem bits_all{D:List Str}{B:Str→Int}(nd:D.Nodup)(hB:WtI D B):smD B D+1=((2 ^ D.length:Nat):Int):=by
 rw [bits_sum nd hB nd (fun z hz=>hz),← bm_all (L:=D) (fun z hz=>hz)]
 omega
theorem cut_35(ns:List Int):∃cs:List Int,cutV (ns.map V.int) (some 5) (some 35)=cs.map V.int∧cs.length≤30:=by
 unfold cutV
 rw [← List.map_drop,← List.map_take]
 refine ⟨_,rfl,?_⟩
 rw [List.length_take,List.length_drop,List.length_map]
 simp only [HT.sIx]
 rw [if_neg (by decide),if_neg (by decide)]
 show min (min 35 ns.length - min 5 ns.length) (ns.length - min 5 ns.length)≤30
 omega
end N47
namespace L2
open N1
section
variable {K:PySem.W.Frag} {tail:St} {tt:Blk→TT} {te:Blk→TE} {Q:VK} {H1:Hp}
theorem rd_clear{x:V}{vs:List V}{H:Hp}{Q:VK}:rClear x vs H Q=∃l xs,x= .ref l∧vs=[]∧H l=some (.lst xs)∧Q .non (upd H l (.lst [])):=rfl
theorem compK_if{o:Obj}{d:Addr}{kvs:List (Key×V)}(p:Nat→Bool)(f:Nat→V)(hd:H1 d=some (.frz o (.dK kvs)))(hz:kvs.length≤sizeLine)
 (ht:∀b (i:Nat) k x H QT,kvs[i]?=some (k,x)→Same H1 H→(∀H',Same H H'→QT (p i) H')→tt b (some (kV k)::tail) H QT)
 (he:∀b (i:Nat) k x H Q',kvs[i]?=some (k,x)→p i=true→Same H1 H→(∀H',Same H H'→Q' (f i) H')→te b (some (kV k)::tail) H Q')
 (q:∀D H',H1 D=none→Same H1 H'→H' D=some (.lst (((List.range kvs.length).filter p).map f))→Q (.ref D) H'):CompTail (none::tail) (fun _=>gName 0) tt te Q (Itk o d) H1:=by
 intro b D hD
 refine ⟨fun i m ys H=>m=kvs.length - i∧i≤kvs.length∧ys=((List.range i).filter p).map f∧H D=some (.lst ys)∧Same H1 H,⟨_,rfl,Nat.zero_le _,rfl,upd_same,same_new hD⟩,?_⟩
 rintro i m ys H ⟨rfl,hi,rfl,h,sm⟩
 refine ⟨h,?_⟩
 by_cases hlt:i < kvs.length
 · have hx:kvs[i]?=some kvs[i]:=List.getElem?_eq_getElem hlt
   refine .inr ⟨⟨kvs,_,sm _ _ hd,hx⟩,?_⟩
   rintro v H3 ⟨e3,ex⟩
   subst e3
   obtain ⟨pr,e1,rfl⟩:=ex kvs (sm _ _ hd)
   have e2:=e1.symm.trans hx
   cases e2
   have hx':kvs[i]?=some (kvs[i].1,kvs[i].2):=hx
   have hl:(((List.range i).filter p).map f).length≤i:=by
    rw [List.length_map];exact Nat.le_trans (List.length_filter_le _ _) (by rw [List.length_range];omega)
   have htk:(List.range (i+1)).filter p=(List.range i).filter p++[i].filter p:=by rw [List.range_succ,List.filter_append]
   refine ⟨kept0,?_⟩
   refine ht b i _ _ _ _ hx' sm fun H7 s7=>?_
   by_cases hp:p i=true
   · rw [if_pos hp]
     refine he b i _ _ H7 _ hx' hp (sm.trans s7) fun H8 s8=>?_
     have hd8:=(s7.trans s8) _ _ h
     refine ⟨hd8,by omega,kvs.length - (i+1),by omega,rfl,hlt,?_,upd_same,same_put (sm.trans (s7.trans s8)) hD⟩
     rw [htk,List.filter_cons_of_pos hp,List.filter_nil,List.map_append];rfl
   · rw [if_neg hp]
     refine ⟨kvs.length - (i+1),by omega,rfl,hlt,?_,s7 _ _ h,sm.trans s7⟩
     rw [htk,List.filter_cons_of_neg hp,List.filter_nil,List.append_nil]
 · have e:i=kvs.length:=by omega
   subst e
   exact .inl ⟨⟨kvs,sm _ _ hd,Nat.le_refl _⟩,q D H hD sm h⟩
end
section
variable {X:Cx} {scope:Scope} {x y z v:Str} {px py pz pt pv':Pos} {n i:Nat} {fs:List Nat} {elt iter c:Expr} {pos spos:Pos} {wi:TI} {te:Blk→TE}
theorem ps_comp3(x y z:Str)(fs:List Nat)(hN:X.N.Nodup)(hy:X.N[i]?=some v)(hyl:X.env.kindOf v=some .local)(hc:X.calm=true)(hok:compOkB X.N X.env.scope scope [x,y,z] fs=true)(hi:PI X (.Tuple [.Name x px,.Name y py,.Name z pz] n pt) iter wi)(he:∀b,PE (X.blk scope ([x,y,z]++around X.N fs) b) elt (te b))
 (hsw:swapsWith (.ListComp elt [⟨.Tuple [.Name x px,.Name y py,.Name z pz] n pt,iter,[],0⟩] scope pos) (some (.Name v pv')) spos.line X.env=pure true:=by rfl)
 (hs:∀x,foldedSetIterable iter X.env x=pure x:=by intro _;rfl):PS X (.Assign [.Name v pv'] (.ListComp elt [⟨.Tuple [.Name x px,.Name y py,.Name z pz] n pt,iter,[],0⟩] scope pos) spos) (tAsg (tComp3 X.K wi fs te) (gName i)):=
 ps_comp (xs:=[x,y,z]) (g:=g3 X.K) (tt:=fun _=>tYes) hN hy hyl hc hok hi (pg_own3 hc hok) (fun _=>pts_nil) he hsw hs
end
end L2
namespace N46
open L2 N1 N5 N4 N6 N32 N41 N47
theorem cut1(xs:List V):cutV xs (some 1) none=xs.drop 1:=by
 unfold cutV
 simp only [HT.sIx]
 rw [if_neg (by decide)]
 cases xs with
 | nil=>rfl
 | cons x r=>
  show List.take _ (List.drop (min 1 (r.length+1)) (x::r))=r
  rw [show min 1 (r.length+1)=1 by omega]
  show List.take _ r=r
  refine List.take_of_length_le ?_
  show r.length≤r.length+1 - 1
  omega
theorem cut_mv(ns:List Int){mv:Int}(h:mv=17∨mv=35):∃cs:List Int,cutV (ns.map V.int) (some 5) (some mv)=cs.map V.int∧cs.length≤30:=by
 rcases h with rfl | rfl
 · unfold cutV
   rw [← List.map_drop,← List.map_take]
   refine ⟨_,rfl,?_⟩
   rw [List.length_take,List.length_drop,List.length_map]
   simp only [HT.sIx]
   rw [if_neg (by decide),if_neg (by decide)]
   show min (min 17 ns.length - min 5 ns.length) (ns.length - min 5 ns.length)≤30
   omega
 · exact cut_35 ns
noncomputable def stL(D:List Str)(h:Nat):List Str:=D.filter fun z=>decide (Builtin.bitAnd (h:Int) (RD D z:Int)≠0)
theorem bit_two{h j:Nat}:Builtin.bitAnd (h:Int) ((2 ^ j:Nat):Int)≠0↔h.testBit j=true:=by
 rw [band_nat]
 constructor
 · intro hn
   by_cases hb:h.testBit j=true
   · exact hb
   · refine absurd ?_ hn
     have e:h &&& 2 ^ j=0:=by
      refine Nat.eq_of_testBit_eq fun i=>?_
      rw [Nat.testBit_and,Nat.zero_testBit,Nat.testBit_two_pow]
      by_cases e:j=i
      · rw [← e];simp at hb;simp [hb]
      · simp [e]
     rw [e];rfl
 · intro hb hz
   have e:h &&& 2 ^ j=0:=by omega
   have:=congrArg (fun m=>Nat.testBit m j) e
   simp only [Nat.testBit_and,Nat.zero_testBit,Nat.testBit_two_pow]at this
   rw [hb]at this
   simp at this
theorem st_mem{D:List Str}{h:Nat}{z:Str}:z∈stL D h↔z∈D∧Builtin.bitAnd (h:Int) (RD D z:Int)≠0:=by
 unfold stL
 rw [List.mem_filter,decide_eq_true_eq]
theorem st_sub{D:List Str}{h:Nat}:∀z∈stL D h,z∈D:=fun z hz=>(st_mem.mp hz).1
theorem st_nd{D:List Str}(nd:D.Nodup){h:Nat}:(stL D h).Nodup:=nd.sublist List.filter_sublist
theorem bm_st{D:List Str}(nd:D.Nodup){h:Nat}(hl:h < 2 ^ D.length):bmL D (stL D h)=h:=by
 refine Nat.eq_of_testBit_eq fun i=>?_
 rw [bm_bit]
 cases hb:h.testBit i with
 | true=>
  have hi:i < D.length:=by
   refine Nat.lt_of_not_le fun hle=>?_
   have:=Nat.testBit_lt_two_pow (Nat.lt_of_lt_of_le hl (Nat.pow_le_pow_right (by decide) hle))
   rw [this]at hb
   cases hb
  have hg:=List.getElem?_eq_getElem hi
  refine decide_eq_true ⟨D[i],hg,st_mem.mpr ⟨List.getElem_mem hi,?_⟩⟩
  rw [wR_at nd hg]
  exact bit_two.mpr hb
 | false=>
  refine decide_eq_false fun ⟨z,hz,hm⟩=>?_
  have:=(st_mem.mp hm).2
  rw [wR_at nd hz]at this
  rw [bit_two.mp this]at hb
  cases hb
theorem st_bm{D:List Str}(nd:D.Nodup){L:List Str}{z:Str}:z∈stL D (bmL D L)↔z∈D∧z∈L:=by
 rw [st_mem]
 exact ⟨fun h=>⟨h.1,(is_in nd h.1).mp h.2⟩,fun h=>⟨h.1,(is_in nd h.1).mpr h.2⟩⟩
theorem st_zero{D:List Str}:stL D 0=[]:=by
 unfold stL
 refine List.filter_eq_nil_iff.mpr fun z _=>?_
 rw [decide_eq_true_eq,show ((0:Nat):Int)=((0:Nat):Int) from rfl,band_nat]
 simp
theorem rmx_st{D:List Str}(nd:D.Nodup){f:Str→Int}{h:Nat}(hl:h < 2 ^ D.length):rmx (D.map f) h=smD f (stL D h):=by
 have e:=rmx_bm (f:=f) (L:=stL D h) (D:=D)
 rw [bm_st nd hl]at e
 rw [e]
 congr 1
 unfold stL
 refine List.filter_congr fun z hz=>?_
 rw [decide_eq_decide]
 exact ⟨fun m=>(st_mem.mp m).2,fun m=>st_mem.mpr ⟨hz,m⟩⟩
theorem bh_ahead{D:List Str}{Rm:Str→Int}{n c:Int}{es:List Ent}(nd:D.Nodup){z:Str}(hz:z∈D)(he:es.length≤2 ^ D.length){h:Nat}{p:Int×Int}(e:(bhE es (rmsL (D.map Rm)) n (RD D z:Int) c)[h]?=some (some p)):
 ∃(k:Nat) (p':Int×Int),p.2=(k:Int)∧k < 2 ^ D.length∧h < 2 ^ D.length∧es[k]?=some (some p')∧p.1=(if z∈stL D k then p'.1 else p'.1+c)∧z∈stL D h∧(∀y∈stL D h,y≠z→y∈stL D k)∧smD Rm (stL D h)≤n:=by
 have hl:h < (rmsL (D.map Rm)).length:=by have:=(List.getElem?_eq_some_iff.mp e).1;rw [bh_len]at this;exact this
 have hl2:h < 2 ^ D.length:=by rw [rms_len,List.length_map]at hl;exact hl
 rw [bh_at hl]at e
 have e:=Option.some.inj e
 split at e
 · rename_i hc
   obtain ⟨m,_⟩:=least_is e
   obtain ⟨m1,m2⟩:=List.mem_filter.mp m
   obtain ⟨k,p',h1,rfl⟩:=sv_mem.mp m1
   have hk:k < 2 ^ D.length:=Nat.lt_of_lt_of_le (List.getElem?_eq_some_iff.mp h1).1 he
   have hzh:z∈stL D h:=st_mem.mpr ⟨hz,hc.1⟩
   refine ⟨k,p',rfl,hk,hl2,h1,?_,hzh,fun y hy hn=>?_,?_⟩
   · show (if Builtin.bitAnd (k:Int) (RD D z:Int)≠0 then p'.1 else p'.1+c)=_
     by_cases hzk:z∈stL D k
     · rw [if_pos hzk,if_pos (st_mem.mp hzk).2]
     · rw [if_neg hzk,if_neg fun q=>hzk (st_mem.mpr ⟨hz,q⟩)]
   · have ha:Builtin.bitAnd (k:Int) ((h:Int) - (RD D z:Int))=(h:Int) - (RD D z:Int):=by simpa [alP] using m2
     have eh:=bm_less nd hz hzh
     rw [bm_st nd hl2]at eh
     rw [eh]at ha
     have hy':y∈stL D (bmL D ((stL D h).filter fun y=>decide (y≠z))):=(st_bm nd).mpr ⟨st_sub y hy,List.mem_filter.mpr ⟨hy,by simpa using hn⟩⟩
     obtain ⟨j,hj⟩:=List.mem_iff_getElem?.mp (st_sub y hy)
     refine st_mem.mpr ⟨st_sub y hy,?_⟩
     have h2:=(st_mem.mp hy').2
     rw [wR_at nd hj]at h2 ⊢
     rw [bit_two]at h2 ⊢
     rw [band_nat]at ha
     have ha':k &&& bmL D ((stL D h).filter fun y=>decide (y≠z))=bmL D ((stL D h).filter fun y=>decide (y≠z)):=by omega
     rw [← ha',Nat.testBit_and,Bool.and_eq_true]at h2
     exact h2.1
   · have:=hc.2
     rw [rms_at (by rw [List.length_map];exact hl2),rmx_st nd hl2]at this
     exact this
 · cases e
noncomputable def tb(D ys:List Str)(Rm C:Str→Int)(n:Int):Nat→List Ent:=tab (rmsL (D.map Rm)) n (fun z=>(RD D z:Int)) C ys
theorem tab_is{D ys:List Str}{W C Rm:Str→Int}{n:Int}(nd:D.Nodup)(hW:WtI D W)(hin:∀y∈ys,y∈D):∀i,i≤ys.length→tab (rmsL (D.map Rm)) n W C ys i=tb D ys Rm C n i:=by
 intro i
 induction i with
 | zero=>intro _;rfl
 | succ i ih=>
  intro hi
  have hy:=List.getElem?_eq_getElem (show i < ys.length by omega)
  have hg:ys.getD i Str.empty=ys[i]:=by rw [List.getD_eq_getElem?_getD,hy];rfl
  show bhE (tab (rmsL (D.map Rm)) n W C ys i) _ n (W (ys.getD i Str.empty)) _=bhE (tb D ys Rm C n i) _ n (RD D (ys.getD i Str.empty):Int) _
  rw [ih (by omega),hg,hW.wr nd (hin _ (List.getElem_mem _))]
theorem tb_len{D ys:List Str}{Rm C:Str→Int}{n:Int}{i:Nat}:(tb D ys Rm C n i).length≤2 ^ D.length:=by
 cases i with
 | zero=>exact Nat.two_pow_pos _
 | succ i=>show (bhE _ _ _ _ _).length≤_;rw [bh_len,rms_len,List.length_map];exact Nat.le_refl _
theorem tb_len1{D ys:List Str}{Rm C:Str→Int}{n:Int}{i:Nat}:(tb D ys Rm C n (i+1)).length=2 ^ D.length:=by
 show (bhE _ _ _ _ _).length=_;rw [bh_len,rms_len,List.length_map]
noncomputable def hc(f:Nat→List Ent)(n h:Nat):Nat→Nat
 | 0=>h
 | j+1=>match (f (n - j))[hc f n h j]? with
  | some (some p)=>p.2.toNat
  | _=>0
theorem hc_step{f:Nat→List Ent}{n h j:Nat}{p:Int×Int}(e:(f (n - j))[hc f n h j]?=some (some p)):hc f n h (j+1)=p.2.toNat:=by
 show (match (f (n - j))[hc f n h j]? with | some (some p)=>p.2.toNat | _=>0)=_
 rw [e]
noncomputable def hi(f:Nat→List Ent)(n h i:Nat):Nat:=hc f n h (n - i)
noncomputable def goneL(D:List Str)(W:Str→Int)(x y:Int):List Str:=D.filter fun z=>decide (Builtin.bitAnd x (W z)≠0) && !decide (Builtin.bitAnd y (W z)≠0)
theorem gone_is{D:List Str}{x y:Nat}:goneL D (fun z=>(RD D z:Int)) x y=D.filter fun z=>decide (z∈stL D x) && !decide (z∈stL D y):=by
 unfold goneL
 refine List.filter_congr fun z hz=>?_
 have e:∀k:Nat,decide (Builtin.bitAnd (k:Int) (RD D z:Int)≠0)=decide (z∈stL D k):=fun k=>decide_eq_decide.mpr ⟨fun m=>st_mem.mpr ⟨hz,m⟩,fun m=>(st_mem.mp m).2⟩
 rw [e x,e y]
theorem chain{D ys:List Str}{Rm C:Str→Int}{n:Int}(nd:D.Nodup)(hin:∀y∈ys,y∈D){h:Nat}{p0:Int×Int}(e0:(tb D ys Rm C n ys.length)[h]?=some (some p0)):
 ∀j,j≤ys.length→∃p,(tb D ys Rm C n (ys.length - j))[hc (tb D ys Rm C n) ys.length h j]?=some (some p):=by
 intro j
 induction j with
 | zero=>exact fun _=>⟨p0,e0⟩
 | succ j ih=>
  intro hj
  obtain ⟨p,hp⟩:=ih (by omega)
  have e1:ys.length - j=(ys.length - (j+1))+1:=by omega
  rw [hc_step hp]
  rw [e1]at hp
  obtain ⟨k,p',hk,h'⟩:=bh_back hp
  exact ⟨p',by rw [hk,Int.toNat_natCast];exact h'⟩
theorem chain_at{D ys:List Str}{Rm C:Str→Int}{n:Int}(nd:D.Nodup)(hin:∀y∈ys,y∈D){h:Nat}{p0:Int×Int}(e0:(tb D ys Rm C n ys.length)[h]?=some (some p0)){i:Nat}{z:Str}(hz:ys[i]?=some z):
 ∃p p':Int×Int,(tb D ys Rm C n i)[hi (tb D ys Rm C n) ys.length h i]?=some (some p)∧(tb D ys Rm C n (i+1))[hi (tb D ys Rm C n) ys.length h (i+1)]?=some (some p')∧p'.1=(if z∈stL D (hi (tb D ys Rm C n) ys.length h i) then p.1 else p.1+C z)∧z∈stL D (hi (tb D ys Rm C n) ys.length h (i+1))∧(∀y∈stL D (hi (tb D ys Rm C n) ys.length h (i+1)),y≠z→y∈stL D (hi (tb D ys Rm C n) ys.length h i))∧smD Rm (stL D (hi (tb D ys Rm C n) ys.length h (i+1)))≤n:=by
 have hil:=(List.getElem?_eq_some_iff.mp hz).1
 have hg:ys.getD i Str.empty=z:=by rw [List.getD_eq_getElem?_getD,hz];rfl
 obtain ⟨p',hp'⟩:=chain nd hin e0 (ys.length - (i+1)) (by omega)
 have e2:ys.length - i=(ys.length - (i+1))+1:=by omega
 have e3:ys.length - (ys.length - (i+1))=i+1:=by omega
 have hst:hi (tb D ys Rm C n) ys.length h i=p'.2.toNat:=by
  unfold hi
  rw [e2]
  exact hc_step hp'
 rw [e3]at hp'
 change (tb D ys Rm C n (i+1))[hi (tb D ys Rm C n) ys.length h (i+1)]?=some (some p') at hp'
 have hp2:(bhE (tb D ys Rm C n i) (rmsL (D.map Rm)) n (RD D z:Int) (C z))[hi (tb D ys Rm C n) ys.length h (i+1)]?=some (some p'):=by
  rw [← hg];exact hp'
 obtain ⟨k,p,h1,h2,h3,h4,h5,h6,h7,h8⟩:=bh_ahead nd (hin z (List.mem_of_getElem? hz)) tb_len hp2
 have ek:hi (tb D ys Rm C n) ys.length h i=k:=by rw [hst,h1,Int.toNat_natCast]
 rw [ek]
 exact ⟨p,p',h4,hp',h5,h6,h7,h8⟩
theorem chain_0{D ys:List Str}{Rm C:Str→Int}{n:Int}(nd:D.Nodup)(hin:∀y∈ys,y∈D){h:Nat}{p0:Int×Int}(e0:(tb D ys Rm C n ys.length)[h]?=some (some p0)):hi (tb D ys Rm C n) ys.length h 0=0:=by
 obtain ⟨p,hp⟩:=chain nd hin e0 ys.length (Nat.le_refl _)
 rw [Nat.sub_self]at hp
 have:=(List.getElem?_eq_some_iff.mp hp).1
 have h1:hc (tb D ys Rm C n) ys.length h ys.length < 1:=this
 show hc (tb D ys Rm C n) ys.length h (ys.length - 0)=0
 rw [Nat.sub_zero];omega
theorem bor_nat(a b:Nat):Builtin.bitOr (a:Int) (b:Int)=((a ||| b:Nat):Int):=by
 have e:∀x:Nat,Builtin.bitNot (Builtin.bitNot (x:Int))=(x:Int):=fun x=>by unfold Builtin.bitNot;omega
 have n:∀x:Nat,decide (0≤Builtin.bitNot (x:Int))=false:=fun x=>decide_eq_false (by unfold Builtin.bitNot;omega)
 unfold Builtin.bitOr Builtin.bitAnd
 rw [n a,n b]
 simp only [e,Int.toNat_natCast]
theorem and_all{k t:Nat}:k &&& t=t↔∀i,t.testBit i=true→k.testBit i=true:=by
 constructor
 · intro h i ht
   rw [← h,Nat.testBit_and,Bool.and_eq_true]at ht
   exact ht.1
 · intro h
   refine Nat.eq_of_testBit_eq fun i=>?_
   rw [Nat.testBit_and]
   cases ht:t.testBit i with
   | true=>rw [h i ht];rfl
   | false=>simp
theorem cond_eq{D:List Str}(nd:D.Nodup){z:Str}(hz:z∈D){k s:Nat}(hs:s < 2 ^ D.length)(hzs:z∈stL D s):Builtin.bitAnd (Builtin.bitOr (k:Int) (RD D z:Int)) (s:Int)=(s:Int)↔Builtin.bitAnd (k:Int) ((s:Int) - (RD D z:Int))=(s:Int) - (RD D z:Int):=by
 have eh:=bm_less nd hz hzs
 rw [bm_st nd hs]at eh
 rw [eh,bor_nat,band_nat,band_nat,Int.natCast_inj,Int.natCast_inj,and_all,and_all]
 obtain ⟨j,hj⟩:=List.mem_iff_getElem?.mp hz
 have ht:∀i,(bmL D ((stL D s).filter fun y=>decide (y≠z))).testBit i=true↔s.testBit i=true∧i≠j:=fun i=>by
  rw [bm_bit,decide_eq_true_eq]
  constructor
  · rintro ⟨y,hy,hm⟩
    obtain ⟨m1,m2⟩:=List.mem_filter.mp hm
    have h2:=(st_mem.mp m1).2
    rw [wR_at nd hy,bit_two]at h2
    refine ⟨h2,fun e=>?_⟩
    rw [e,hj]at hy
    cases hy
    simp at m2
  · rintro ⟨h1,h2⟩
    have hi:i < D.length:=by
     refine Nat.lt_of_not_le fun hle=>?_
     have:=Nat.testBit_lt_two_pow (Nat.lt_of_lt_of_le hs (Nat.pow_le_pow_right (by decide) hle))
     rw [this]at h1
     cases h1
    have hg:=List.getElem?_eq_getElem hi
    refine ⟨D[i],hg,List.mem_filter.mpr ⟨st_mem.mpr ⟨List.getElem_mem hi,?_⟩,?_⟩⟩
    · rw [wR_at nd hg];exact bit_two.mpr h1
    · refine decide_eq_true fun e=>h2 ?_
      have hjl:=(List.getElem?_eq_some_iff.mp hj)
      exact (List.getElem_inj nd).mp (e.trans hjl.2.symm)
 rw [wR_at nd hj]
 constructor
 · intro h i hi
   obtain ⟨h1,h2⟩:=(ht i).mp hi
   have:=h i h1
   rw [Nat.testBit_or,Nat.testBit_two_pow,Bool.or_eq_true]at this
   rcases this with h3 | h3
   · exact h3
   · exact absurd (by simpa using h3:j=i).symm h2
 · intro h i hi
   rw [Nat.testBit_or,Nat.testBit_two_pow,Bool.or_eq_true]
   by_cases e:i=j
   · exact .inr (by simp [e])
   · exact .inl (h i ((ht i).mpr ⟨hi,e⟩))
noncomputable def val1(w c:Int)(k:Nat)(a:Int):Int:=a+c * (if Builtin.bitAnd (k:Int) w=0 then 1 else 0)
noncomputable def con1(w s:Int)(k:Nat):Prop:=Builtin.bitAnd (Builtin.bitOr (k:Int) w) s=s
instance {w s:Int} {k:Nat}:Decidable (con1 w s k):=by unfold con1;exact inferInstance
noncomputable def du1(w c s:Int)(d:Option Int)(k:Nat):Option Int→Option Int
 | none=>d
 | some a=>if con1 w s k then (match d with
  | none=>some (val1 w c k a)
  | some d=>if val1 w c k a < d then some (val1 w c k a) else some d) else d
noncomputable def duA(A:List (Option Int))(w c s:Int):Nat→Option Int
 | 0=>none
 | i+1=>du1 w c s (duA A w c s i) i (A.getD i none)
theorem du_is{A:List (Option Int)}{w c s:Int}:∀i,i≤A.length→(duA A w c s i=none→∀k a,k < i→A[k]?=some (some a)→¬con1 w s k)∧∀d,duA A w c s i=some d→(∃k a,k < i∧A[k]?=some (some a)∧con1 w s k∧d=val1 w c k a)∧∀k a,k < i→A[k]?=some (some a)→con1 w s k→d≤val1 w c k a:=by
 intro i
 induction i with
 | zero=>exact fun _=>⟨fun _ k a h=>absurd h (Nat.not_lt_zero _),fun d h=>by cases h⟩
 | succ i ih=>
  intro hi
  obtain ⟨h1,h2⟩:=ih (by omega)
  have hx:=List.getElem?_eq_getElem (show i < A.length by omega)
  have hg:A.getD i none=A[i]:=by rw [List.getD_eq_getElem?_getD,hx];rfl
  have hsp:∀{k:Nat},k < i+1→k < i∨k=i:=fun h=>by omega
  show (du1 w c s (duA A w c s i) i (A.getD i none)=none→_)∧∀d,du1 w c s (duA A w c s i) i (A.getD i none)=some d→_
  rw [hg]
  cases e:A[i] with
  | none=>
   refine ⟨fun hn k a hk ha=>?_,fun d hd=>⟨?_,fun k a hk ha=>?_⟩⟩
   · rcases hsp hk with hk | hk
     · exact h1 hn k a hk ha
     · rw [hk,hx,e]at ha;cases ha
   · obtain ⟨⟨k,a,q1,q2⟩,_⟩:=h2 d hd
     exact ⟨k,a,by omega,q2⟩
   · rcases hsp hk with hk | hk
     · exact (h2 d hd).2 k a hk ha
     · rw [hk,hx,e]at ha;cases ha
  | some a0=>
   have hx0:A[i]?=some (some a0):=by rw [hx,e]
   by_cases hc:con1 w s i
   · have ed:du1 w c s (duA A w c s i) i (some a0)=(match duA A w c s i with | none=>some (val1 w c i a0) | some d=>if val1 w c i a0 < d then some (val1 w c i a0) else some d):=if_pos hc
     rw [ed]
     cases eo:duA A w c s i with
     | none=>
      refine ⟨fun hn=>by simp at hn,fun d hd=>?_⟩
      have hd:val1 w c i a0=d:=by simpa using hd
      subst hd
      refine ⟨⟨i,a0,by omega,hx0,hc,rfl⟩,fun k a hk ha hck=>?_⟩
      rcases hsp hk with hk | hk
      · exact absurd hck (h1 eo k a hk ha)
      · rw [hk,hx0]at ha;cases ha;rw [hk];exact Int.le_refl _
     | some d0=>
      obtain ⟨⟨k0,a1,q1,q2,q3,q4⟩,hall⟩:=h2 d0 eo
      refine ⟨fun hn=>?_,fun d hd=>?_⟩
      · simp only at hn;split at hn <;> cases hn
      · simp only at hd
        split at hd
        · rename_i hlt
          have hd:val1 w c i a0=d:=by simpa using hd
          subst hd
          refine ⟨⟨i,a0,by omega,hx0,hc,rfl⟩,fun k a hk ha hck=>?_⟩
          rcases hsp hk with hk | hk
          · have:=hall k a hk ha hck;omega
          · rw [hk,hx0]at ha;cases ha;rw [hk];exact Int.le_refl _
        · rename_i hlt
          have hd:d0=d:=by simpa using hd
          subst hd
          refine ⟨⟨k0,a1,by omega,q2,q3,q4⟩,fun k a hk ha hck=>?_⟩
          rcases hsp hk with hk | hk
          · exact hall k a hk ha hck
          · rw [hk,hx0]at ha;cases ha;rw [hk];omega
   · have ed:du1 w c s (duA A w c s i) i (some a0)=duA A w c s i:=if_neg hc
     rw [ed]
     refine ⟨fun hn k a hk ha=>?_,fun d hd=>⟨?_,fun k a hk ha hck=>?_⟩⟩
     · rcases hsp hk with hk | hk
       · exact h1 hn k a hk ha
       · rw [hk];exact hc
     · obtain ⟨⟨k,a,q1,q2⟩,_⟩:=h2 d hd
       exact ⟨k,a,by omega,q2⟩
     · rcases hsp hk with hk | hk
       · exact (h2 d hd).2 k a hk ha hck
       · rw [hk]at hck;exact absurd hck hc
noncomputable def KN(A:List (Option Int))(es:List Ent):Prop:=∀(k:Nat) (a:Int),A[k]?=some (some a)↔∃p:Int×Int,es[k]?=some (some p)∧p.1=a
noncomputable def payO:Ent→Option Int:=Option.map (·.1)
noncomputable def oV:Option Int→V
 | none=> .non
 | some a=> .int a
theorem pay_is{e:Ent}:payV e=oV (payO e):=by cases e <;> rfl
theorem kn_map{es:List Ent}:KN (es.map payO) es:=fun k a=>by
 rw [List.getElem?_map]
 cases e:es[k]? with
 | none=>simp
 | some x=>
  cases x with
  | none=>simp [payO]
  | some p=>simp [payO]
theorem kn_start{m:Nat}:KN (some 0::List.replicate m none) [some (0,0)]:=fun k a=>by
 cases k with
 | zero=>simp
 | succ k=>
  simp only [List.getElem?_cons_succ,List.getElem?_nil,List.getElem?_replicate]
  constructor
  · intro h;split at h <;> cases h
  · rintro ⟨p,h,_⟩;cases h
theorem ent_due{D:List Str}{Rm:Str→Int}{n c:Int}{es:List Ent}{A:List (Option Int)}(nd:D.Nodup){z:Str}(hz:z∈D)(hA:KN A es){h:Nat}(hl:h < 2 ^ D.length):
 ((bhE es (rmsL (D.map Rm)) n (RD D z:Int) c)[h]?).map payO=some (if Builtin.bitAnd (h:Int) (RD D z:Int)≠0∧smD Rm (stL D h)≤n then duA A (RD D z:Int) c (h:Int) A.length else none):=by
 rw [bh_at (by rw [rms_len,List.length_map];exact hl),rms_at (by rw [List.length_map];exact hl),rmx_st nd hl,Option.map_some]
 congr 1
 split
 · rename_i hc
   have hzs:z∈stL D h:=st_mem.mpr ⟨hz,hc.1⟩
   have hmem:∀q,q∈(svP es (RD D z:Int) c).filter (alP ((h:Int) - (RD D z:Int)))↔∃(k:Nat) (p:Int×Int),es[k]?=some (some p)∧con1 (RD D z:Int) (h:Int) k∧q=(val1 (RD D z:Int) c k p.1,(k:Int)):=fun q=>by
    rw [List.mem_filter,sv_mem]
    have hv:∀(k:Nat) (a:Int),(if Builtin.bitAnd (k:Int) (RD D z:Int)≠0 then a else a+c)=val1 (RD D z:Int) c k a:=fun k a=>by
     unfold val1
     by_cases hb:Builtin.bitAnd (k:Int) (RD D z:Int)=0
     · rw [if_neg (fun x=>x hb),if_pos hb,Int.mul_one]
     · rw [if_pos hb,if_neg hb,Int.mul_zero,Int.add_zero]
    constructor
    · rintro ⟨⟨k,p,h1,rfl⟩,h2⟩
      refine ⟨k,p,h1,?_,by rw [hv]⟩
      exact (cond_eq nd hz hl hzs).mpr (by simpa [alP] using h2)
    · rintro ⟨k,p,h1,h2,rfl⟩
      refine ⟨⟨k,p,h1,by rw [hv]⟩,?_⟩
      simpa [alP] using (cond_eq nd hz hl hzs).mp h2
   obtain ⟨d1,d2⟩:=du_is (A:=A) (w:=(RD D z:Int)) (c:=c) (s:=(h:Int)) A.length (Nat.le_refl _)
   cases e:leastP ((svP es (RD D z:Int) c).filter (alP ((h:Int) - (RD D z:Int)))) with
   | none=>
    have hn:=least_nil.mp e
    cases ed:duA A (RD D z:Int) c (h:Int) A.length with
    | none=>rfl
    | some d=>
     obtain ⟨⟨k,a,q1,q2,q3,q4⟩,_⟩:=d2 d ed
     obtain ⟨p,hp,rfl⟩:=(hA k a).mp q2
     have:=(hmem _).mpr ⟨k,p,hp,q3,rfl⟩
     rw [hn]at this
     cases this
   | some q=>
    obtain ⟨m1,m2⟩:=least_is e
    obtain ⟨k,p,hp,hk,rfl⟩:=(hmem q).mp m1
    have hAk:=(hA k p.1).mpr ⟨p,hp,rfl⟩
    have hkl:=(List.getElem?_eq_some_iff.mp hAk).1
    cases ed:duA A (RD D z:Int) c (h:Int) A.length with
    | none=>exact absurd hk (d1 ed k p.1 hkl hAk)
    | some d=>
     obtain ⟨⟨k',a',q1,q2,q3,q4⟩,hall⟩:=d2 d ed
     have l1:=hall k p.1 hkl hAk hk
     obtain ⟨p',hp',rfl⟩:=(hA k' a').mp q2
     have l2:=m2 _ ((hmem _).mpr ⟨k',p',hp',q3,rfl⟩)
     show some (val1 (RD D z:Int) c k p.1)=some d
     have l3:val1 (RD D z:Int) c k p.1≤val1 (RD D z:Int) c k' p'.1:=by
      rcases l2 with l2 | l2
      · exact Int.le_of_lt l2
      · exact Int.le_of_eq l2.1
     congr 1
     omega
 · rfl
theorem chain2{D ys:List Str}{Rm C:Str→Int}{n:Int}(nd:D.Nodup)(hin:∀y∈ys,y∈D){h:Nat}{p0:Int×Int}(e0:(tb D ys Rm C n ys.length)[h]?=some (some p0))(j:Nat)(hj:j < ys.length):∃p,(tb D ys Rm C n (ys.length - j))[hc (tb D ys Rm C n) ys.length h j]?=some (some p)∧0≤p.2:=by
 obtain ⟨p,hp⟩:=chain nd hin e0 j (by omega)
 refine ⟨p,hp,?_⟩
 have e1:ys.length - j=(ys.length - (j+1))+1:=by omega
 rw [e1]at hp
 obtain ⟨k,_,hk,_⟩:=bh_back hp
 rw [hk];exact Int.natCast_nonneg _
noncomputable def RowH(H:Hp)(t:Addr)(z:Str)(b:Bool)(g:List Str):Prop:=∃gl:Addr,H t=some (.tup [.str z,.bl b,.ref gl])∧H gl=some (.lst (g.map V.str))
theorem RowH.same{H H':Hp}{t:Addr}{z:Str}{b:Bool}{g:List Str}(s:Same H H')(h:RowH H t z b g):RowH H' t z b g:=let ⟨gl,h1,h2⟩:=h;⟨gl,s _ _ h1,s _ _ h2⟩
noncomputable def RowN(p:Addr)(H:Hp)(t:Addr)(z:Str)(b:Bool)(g:List Str):Prop:=∃gl:Addr,t≠p∧gl≠p∧H t=some (.tup [.str z,.bl b,.ref gl])∧H gl=some (.lst (g.map V.str))
theorem RowN.row{p:Addr}{H:Hp}{t:Addr}{z:Str}{b:Bool}{g:List Str}(h:RowN p H t z b g):RowH H t z b g:=let ⟨gl,_,_,h1,h2⟩:=h;⟨gl,h1,h2⟩
theorem RowN.same{p:Addr}{H H':Hp}{t:Addr}{z:Str}{b:Bool}{g:List Str}(s:SameBut p H H')(h:RowN p H t z b g):RowN p H' t z b g:=let ⟨gl,n1,n2,h1,h2⟩:=h;⟨gl,n1,n2,s _ _ h1 n1,s _ _ h2 n2⟩
noncomputable def sp46_between:Sp:=fun vs H Q _=>∃(d:Addr) (z:Str) (x y:Int) (D:List Str) (R:Str→Int),vs=[.ref d,.str z,.int x,.int y]∧H d=some (.dK (kvN D R))∧z∈D∧D.length≤6∧∀t gl H',Same H H'→H t=none→H gl=none→H' t=some (.tup [.str z,.bl (decide (Builtin.bitAnd x (R z)≠0)),.ref gl])→H' gl=some (.lst ((goneL D R x y).map V.str))→Q (.ref t) H'
noncomputable def sp46_along(K:PySem.W.Frag):Sp:=fun vs H Q _=>∃(a d l:Addr) (h:Nat) (ys D:List Str) (R:Str→Int) (f:Nat→List Ent),vs=[.ref a,.ref d,.ref l,.int h]∧SqL K H a (ys.map V.str)∧ys.length≤30∧(∀y∈ys,y∈D)∧D.length≤6∧H d=some (.dK (kvN D R))∧TabH H l f ys.length∧(∀j,j < ys.length→∃p,(f (ys.length - j))[hc f ys.length h j]?=some (some p)∧0≤p.2)∧
 ∀(b:Addr) (rws:List Addr) H',Same H H'→H b=none→H' b=some (.lst (rws.map V.ref))→rws.length=ys.length→(∀(i:Nat) (t:Addr) (z:Str),rws[i]?=some t→ys[i]?=some z→RowH H' t z (decide (Builtin.bitAnd (hi f ys.length h i:Int) (R z)≠0)) (goneL D R (hi f ys.length h i:Int) (hi f ys.length h (i+1):Int)))→Q (.ref b) H'
noncomputable def TB(ts:List Th)(ys:List Str)(n:Int):Nat→List Ent:=tb (dis ys) ys (rm ts) (cst ts) n
noncomputable def HI(ts:List Th)(ys:List Str)(n:Int)(pp:Int×Int)(i:Nat):Nat:=hi (TB ts ys n) ys.length pp.2.toNat i
structure Told(ts:List Th)(ys:List Str)(n:Int)(pp:Int×Int)(t b l:Addr)(rws ls:List Addr)(H':Hp):Prop where
 tup:H' t=some (.tup [.int pp.1,.ref b,.ref l])
 book:H' b=some (.lst (rws.map V.ref))
 blen:rws.length=ys.length
 row:∀(i:Nat) (u:Addr) (z:Str),rws[i]?=some u→ys[i]?=some z→RowH H' u z (decide (z∈stL (dis ys) (HI ts ys n pp i))) ((dis ys).filter fun y=>decide (y∈stL (dis ys) (HI ts ys n pp i)) && !decide (y∈stL (dis ys) (HI ts ys n pp (i+1))))
 tabl:H' l=some (.lst (ls.map V.ref))
 tlen:ls.length=ys.length
 ent:∀(i:Nat) (x:Addr),ls[i]?=some x→H' x=some (.lst (((TB ts ys n (i+1)).map payO).map oV))
theorem Told.same{ts:List Th}{ys:List Str}{n:Int}{pp:Int×Int}{t b l:Addr}{rws ls:List Addr}{H H':Hp}(h:Told ts ys n pp t b l rws ls H)(s:Same H H'):Told ts ys n pp t b l rws ls H':=⟨s _ _ h.tup,s _ _ h.book,h.blen,fun i u z a b=>(h.row i u z a b).same s,s _ _ h.tabl,h.tlen,fun i x a=>s _ _ (h.ent i x a)⟩
noncomputable def sp46_ways(K:PySem.W.Frag)(C:Addr):Sp:=fun vs H Q _=>∃(st a:Addr) (n:Int) (ts:List Th) (ys:List Str),vs=[.ref st,.ref a,.int n]∧StockAt K C H st ts∧(ts.map (·.1)).Nodup∧SqL K H a (ys.map V.str)∧ys.length≤30∧(∀y∈ys,y∈ts.map (·.1))∧(∀y∈ys,rm ts y≤n)∧1≤n∧n≤1000000∧(dis ys).length≤6∧
 ∀(t b l:Addr) (rws ls:List Addr) (pp:Int×Int) H',Same H H'→H b=none→H l=none→(∀x∈ls,H x=none)→leastP (knP (TB ts ys n ys.length))=some pp→Told ts ys n pp t b l rws ls H'→Q (.ref t) H'
noncomputable def sp46_rooms:Sp:=fun vs H Q _=>∃(s:Nat) (b e:Addr) (D ns:List Str) (B R:Str→Int),vs=[.int s,.ref b,.ref e]∧H b=some (.dK (kvN D B))∧H e=some (.dK (kvN ns R))∧b≠e∧(∀z∈D,z∈ns)∧D.length≤6∧∀H',Same H H'→Q (.int (smD R (D.filter fun z=>decide (Builtin.bitAnd (s:Int) (B z)≠0)))) H'
noncomputable def sp46_due(K:PySem.W.Frag):Sp:=fun vs H Q _=>∃(l:Addr) (s w c:Int) (A:List (Option Int)),vs=[.ref l,.int s,.int w,.int c]∧SqL K H l (A.map oV)∧A.length≤64∧0≤c∧c≤10 ^ 30∧Q (oV (duA A w c s A.length)) H
noncomputable def LG(E A:List (Option Int))(F:List Bool)(w c:Int):Prop:=∀(h:Nat) (e:Option Int),E[h]?=some e→e=if Builtin.bitAnd (h:Int) w≠0∧F.getD h false=true then duA A w c (h:Int) A.length else none
noncomputable def sp46_list(K:PySem.W.Frag):Sp:=fun vs H Q _=>∃(e l f:Addr) (w c:Int) (E A:List (Option Int)) (F:List Bool),vs=[.ref e,.ref l,.int w,.int c,.ref f]∧H e=some (.lst (E.map oV))∧SqL K H l (A.map oV)∧SqL K H f (F.map V.bl)∧A.length≤64∧E.length=A.length∧F.length=A.length∧0≤c∧c≤10 ^ 30∧LG E A F w c∧Q (.bl true) H
noncomputable def sp46_table(K:PySem.W.Frag):Sp:=fun vs H Q _=>∃(l a b co f:Addr) (ls:List Addr) (ys D ns:List Str) (B C:Str→Int) (F:List Bool) (E:Nat→List (Option Int)),vs=[.ref l,.ref a,.ref b,.ref co,.ref f]∧H l=some (.lst (ls.map V.ref))∧ls.length=ys.length∧SqL K H a (ys.map V.str)∧ys.length≤30∧H b=some (.dK (kvN D B))∧H co=some (.dK (kvN ns C))∧(∀y∈ys,y∈D∧y∈ns∧0≤C y∧C y≤10 ^ 30)∧H f=some (.lst (F.map V.bl))∧1≤F.length∧F.length≤64∧E 0=some 0::List.replicate (F.length - 1) none∧(∀i,(E (i+1)).length=F.length)∧(∀(i:Nat) (x:Addr),ls[i]?=some x→H x=some (.lst ((E (i+1)).map oV)))∧(∀(i:Nat) (z:Str),ys[i]?=some z→LG (E (i+1)) (E i) F (B z) (C z))∧∀H',Same H H'→Q (.bl true) H'
noncomputable def sp46_least(K:PySem.W.Frag):Sp:=fun vs H Q _=>∃(l:Addr) (E:List (Option Int)) (m:Int),vs=[.ref l]∧SqL K H l (E.map oV)∧E.length≤64∧some m∈E∧(∀x,some x∈E→m≤x)∧∀H',Same H H'→Q (.int m) H'
noncomputable def sp46_pay(K:PySem.W.Frag):Sp:=fun vs H Q _=>∃(b a co ro:Addr) (n:Int) (rws:List Addr) (ys ns:List Str) (C R:Str→Int) (S G:Nat→List Str) (P:Nat→Int),vs=[.ref b,.ref a,.ref co,.ref ro,.int n]∧H b=some (.lst (rws.map V.ref))∧rws.length=ys.length∧SqL K H a (ys.map V.str)∧ys.length≤30∧ns.length≤9∧H co=some (.dK (kvN ns C))∧H ro=some (.dK (kvN ns R))∧(∀y∈ys,y∈ns)∧(∀(i:Nat) (t:Addr) (z:Str),rws[i]?=some t→ys[i]?=some z→RowH H t z (decide (z∈S i)) (G i))∧S 0=[]∧P 0=0∧(∀i,(S i).Nodup∧(∀y∈S i,y∈ns)∧(G i).Nodup∧∀y,y∈G i↔y∈S i∧y∉S (i+1))∧(∀(i:Nat) (z:Str),ys[i]?=some z→z∈S (i+1)∧(∀y∈S (i+1),y≠z→y∈S i)∧smD R (S (i+1))≤n∧P (i+1)=if z∈S i then P i else P i+C z)∧∀H',Same H H'→Q (.int (P ys.length)) H'
noncomputable def E46(ts:List Th)(zs:List Str)(n:Int)(N:Nat):Nat→List (Option Int)
 | 0=>some 0::List.replicate (N - 1) none
 | i+1=>(TB ts zs n (i+1)).map payO
theorem e46_kn{ts:List Th}{zs:List Str}{n:Int}{N:Nat}:∀i,KN (E46 ts zs n N i) (TB ts zs n i)
 | 0=>kn_start
 | _+1=>kn_map
theorem e46_len{ts:List Th}{zs:List Str}{n:Int}{N i:Nat}:(E46 ts zs n N (i+1)).length=2 ^ (dis zs).length:=by
 show ((TB ts zs n (i+1)).map payO).length=_
 rw [List.length_map]
 exact tb_len1
theorem e46_LG{ts:List Th}{zs:List Str}{n:Int}{B C R:Str→Int}{F:List Bool}(hB:WtI (dis zs) B)(hcc:∀y∈zs,cst ts y=C y∧rm ts y=R y)(hFg:∀h,h < 2 ^ (dis zs).length→F.getD h false=decide (smD R (stL (dis zs) h)≤n)){i:Nat}{z:Str}(hz:zs[i]?=some z):LG (E46 ts zs n F.length (i+1)) (E46 ts zs n F.length i) F (B z) (C z):=by
 intro h e he
 have nd:=dis_nodup zs
 have hzm:=List.mem_of_getElem? hz
 have hzD:z∈dis zs:=mem_dis.mpr hzm
 have hl:h < 2 ^ (dis zs).length:=by have:=(List.getElem?_eq_some_iff.mp he).1;rw [e46_len]at this;exact this
 have hg:zs.getD i Str.empty=z:=by rw [List.getD_eq_getElem?_getD,hz];rfl
 have h1:=ent_due (Rm:=rm ts) (n:=n) (c:=cst ts z) nd hzD (e46_kn (ts:=ts) (zs:=zs) (n:=n) (N:=F.length) i) hl
 have h2:((bhE (TB ts zs n i) (rmsL ((dis zs).map (rm ts))) n (RD (dis zs) z:Int) (cst ts z))[h]?).map payO=some e:=by
  rw [← he]
  show _=((TB ts zs n (i+1)).map payO)[h]?
  rw [List.getElem?_map]
  show _=((bhE (TB ts zs n i) (rmsL ((dis zs).map (rm ts))) n (RD (dis zs) (zs.getD i Str.empty):Int) (cst ts (zs.getD i Str.empty)))[h]?).map payO
  rw [hg]
 have h3:=Option.some.inj (h2.symm.trans h1)
 rw [h3,hB.wr nd hzD,(hcc z hzm).1,hFg h hl,smD_congr (g:=R) (fun u hu=>(hcc u (mem_dis.mp (st_sub u hu))).2)]
 simp only [decide_eq_true_eq]
noncomputable def PD(ts:List Th)(zs:List Str)(n:Int)(pp:Int×Int)(i:Nat):Int:=(((TB ts zs n i).getD (HI ts zs n pp i) none).getD (0,0)).1
theorem least_at{ts:List Th}{zs:List Str}{n:Int}{pp:Int×Int}(h:leastP (knP (TB ts zs n zs.length))=some pp):∃p,(TB ts zs n zs.length)[pp.2.toNat]?=some (some p)∧p.1=pp.1:=by
 obtain ⟨i,p,h1,h2⟩:=kn_mem.mp (least_is h).1
 rw [h2]
 exact ⟨p,by simpa using h1,rfl⟩
theorem pd_at{ts:List Th}{zs:List Str}{n:Int}{pp p:Int×Int}{i:Nat}(h:(TB ts zs n i)[HI ts zs n pp i]?=some (some p)):PD ts zs n pp i=p.1:=by
 unfold PD
 rw [List.getD_eq_getElem?_getD,h];rfl
theorem hi_end{ts:List Th}{zs:List Str}{n:Int}{pp:Int×Int}:HI ts zs n pp zs.length=pp.2.toNat:=by
 unfold HI hi
 rw [Nat.sub_self];rfl
theorem pd_end{ts:List Th}{zs:List Str}{n:Int}{pp:Int×Int}(h:leastP (knP (TB ts zs n zs.length))=some pp):PD ts zs n pp zs.length=pp.1:=by
 obtain ⟨p,h1,h2⟩:=least_at h
 rw [pd_at (p:=p) (by rw [hi_end];exact h1),h2]
theorem hi_0{ts:List Th}{zs:List Str}{n:Int}{pp:Int×Int}(h:leastP (knP (TB ts zs n zs.length))=some pp):HI ts zs n pp 0=0:=by
 obtain ⟨p,h1,_⟩:=least_at h
 exact chain_0 (dis_nodup zs) (fun y hy=>mem_dis.mpr hy) h1
theorem pd_0{ts:List Th}{zs:List Str}{n:Int}{pp:Int×Int}(h:leastP (knP (TB ts zs n zs.length))=some pp):PD ts zs n pp 0=0:=by
 unfold PD
 rw [hi_0 h];rfl
theorem book_step{ts:List Th}{zs:List Str}{n:Int}{pp:Int×Int}{C R:Str→Int}(hcc:∀y∈zs,cst ts y=C y∧rm ts y=R y)(h:leastP (knP (TB ts zs n zs.length))=some pp){i:Nat}{z:Str}(hz:zs[i]?=some z):
 z∈stL (dis zs) (HI ts zs n pp (i+1))∧(∀y∈stL (dis zs) (HI ts zs n pp (i+1)),y≠z→y∈stL (dis zs) (HI ts zs n pp i))∧smD R (stL (dis zs) (HI ts zs n pp (i+1)))≤n∧PD ts zs n pp (i+1)=if z∈stL (dis zs) (HI ts zs n pp i) then PD ts zs n pp i else PD ts zs n pp i+C z:=by
 obtain ⟨p0,h1,_⟩:=least_at h
 obtain ⟨p,p',e1,e2,e3,e4,e5,e6⟩:=chain_at (dis_nodup zs) (fun y hy=>mem_dis.mpr hy) h1 hz
 refine ⟨e4,e5,?_,?_⟩
 · rw [← smD_congr (f:=rm ts) (fun u hu=>(hcc u (mem_dis.mp (st_sub u hu))).2)]
   exact e6
 · rw [pd_at e2,pd_at e1,← (hcc z (List.mem_of_getElem? hz)).1]
   exact e3
theorem least_ent{ts:List Th}{zs:List Str}{n:Int}{pp:Int×Int}(h:leastP (knP (TB ts zs n zs.length))=some pp):some pp.1∈(TB ts zs n zs.length).map payO∧∀x,some x∈(TB ts zs n zs.length).map payO→pp.1≤x:=by
 obtain ⟨p,h1,h2⟩:=least_at h
 refine ⟨List.mem_map.mpr ⟨some p,List.mem_of_getElem? h1,by rw [← h2];rfl⟩,fun x hx=>?_⟩
 obtain ⟨e,he,hex⟩:=List.mem_map.mp hx
 cases e with
 | none=>cases hex
 | some q=>
  have hq:q.1=x:=by simpa [payO] using hex
  obtain ⟨k,hk⟩:=List.mem_iff_getElem?.mp he
  have:=(least_is h).2 _ (kn_mem.mpr ⟨k,q,hk,rfl⟩)
  rw [← hq]
  rcases this with t | t
  · exact Int.le_of_lt t
  · exact Int.le_of_eq t.1
theorem gone_mem{D S T:List Str}(hS:∀y∈S,y∈D){y:Str}:y∈(D.filter fun y=>decide (y∈S) && !decide (y∈T))↔y∈S∧y∉T:=by
 rw [List.mem_filter]
 simp only [Bool.and_eq_true,decide_eq_true_eq,Bool.not_eq_true',decide_eq_false_iff_not]
 exact ⟨fun h=>h.2,fun h=>⟨hS y h.1,h⟩⟩
noncomputable def zR(zs:List Str)(i:Nat):Str:=zs.getD i Str.empty
noncomputable def bR(ts:List Th)(zs:List Str)(n:Int)(pp:Int×Int)(i:Nat):Bool:=decide (zR zs i∈stL (dis zs) (HI ts zs n pp i))
noncomputable def gR(ts:List Th)(zs:List Str)(n:Int)(pp:Int×Int)(i:Nat):List Str:=(dis zs).filter fun y=>decide (y∈stL (dis zs) (HI ts zs n pp i)) && !decide (y∈stL (dis zs) (HI ts zs n pp (i+1)))
theorem Told.rows{ts:List Th}{zs:List Str}{n:Int}{pp:Int×Int}{t b l:Addr}{rws ls:List Addr}{H:Hp}(h:Told ts zs n pp t b l rws ls H):∃gf:Nat→Addr,∀(i:Nat) (u:Addr),rws[i]?=some u→H u=some (.tup [.str (zR zs i),.bl (bR ts zs n pp i),.ref (gf i)])∧H (gf i)=some (.lst ((gR ts zs n pp i).map V.str)):=by
 have key:∀i:Nat,∃gl:Addr,∀u:Addr,rws[i]?=some u→H u=some (.tup [.str (zR zs i),.bl (bR ts zs n pp i),.ref gl])∧H gl=some (.lst ((gR ts zs n pp i).map V.str)):=fun i=>by
  cases hu:rws[i]? with
  | none=>exact ⟨0,fun u e=>by cases e⟩
  | some u=>
   have hi:i < zs.length:=by have:=(List.getElem?_eq_some_iff.mp hu).1;rw [h.blen]at this;exact this
   have hz:zs[i]?=some (zR zs i):=by unfold zR;rw [List.getD_eq_getElem?_getD,List.getElem?_eq_getElem hi];rfl
   obtain ⟨gl,h1,h2⟩:=h.row i u _ hu hz
   exact ⟨gl,fun u' e=>by cases e;exact ⟨h1,h2⟩⟩
 exact ⟨fun i=>Classical.choose (key i),fun i u hu=>Classical.choose_spec (key i) u hu⟩
theorem Told.l_out{ts:List Th}{zs:List Str}{n:Int}{pp:Int×Int}{t b l:Addr}{rws ls:List Addr}{H:Hp}(h:Told ts zs n pp t b l rws ls H):l∉ls:=fun hm=>by
 obtain ⟨i,hi⟩:=List.mem_iff_getElem?.mp hm
 have e:=h.tabl.symm.trans (h.ent i l hi)
 have e2:ls.map V.ref=((TB ts zs n (i+1)).map payO).map oV:=by
  have:=Option.some.inj e
  injection this
 have e3:(ls.map V.ref)[i]?=some (V.ref l):=by rw [List.getElem?_map,hi];rfl
 rw [e2,List.getElem?_map]at e3
 cases hx:((TB ts zs n (i+1)).map payO)[i]? with
 | none=>rw [hx]at e3;cases e3
 | some x=>
  rw [hx]at e3
  cases x <;> simp [oV]at e3
theorem Told.t_out{ts:List Th}{zs:List Str}{n:Int}{pp:Int×Int}{t b l:Addr}{rws ls:List Addr}{H:Hp}(h:Told ts zs n pp t b l rws ls H):t∉ls:=fun hm=>by
 obtain ⟨i,hi⟩:=List.mem_iff_getElem?.mp hm
 have e:=h.tup.symm.trans (h.ent i t hi)
 cases e
theorem Told.t_b{ts:List Th}{zs:List Str}{n:Int}{pp:Int×Int}{t b l:Addr}{rws ls:List Addr}{H:Hp}(h:Told ts zs n pp t b l rws ls H):t≠b:=fun hm=>by
 have e:=h.tup
 rw [hm,h.book]at e
 cases e
noncomputable def HX(ls:List Addr)(H H':Hp):Prop:=(∀c o,H c=some o→c∉ls→H' c=some o)∧∀x∈ls,∃xs,H' x=some (.lst xs)
theorem HX.clear{ls:List Addr}{H H':Hp}(h:HX ls H H'){x:Addr}(hx:x∈ls):HX ls H (upd H' x (.lst [])):=⟨fun c o e n=>by
 have nc:c≠x:=fun k=>n (by rw [k];exact hx)
 rw [upd_ne nc];exact h.1 c o e n,fun y hy=>by
 by_cases e:y=x
 · exact ⟨[],by rw [e];exact upd_same⟩
 · rw [upd_ne e];exact h.2 y hy⟩
theorem flat_o{e:Option Int}:flatV (oV e)=true:=by cases e <;> rfl
theorem told_like{K:PySem.W.Frag}{ts:List Th}{zs:List Str}{n:Int}{pp:Int×Int}{t b l:Addr}{rws ls:List Addr}{H:Hp}(h:Told ts zs n pp t b l rws ls H){t3 Dk Dt:Addr}{kl tl:List V}(h3:H t3=some (.tup [.int pp.1,.ref Dk,.ref Dt]))(hk:H Dk=some (.lst kl))(hkl:kl.length=zs.length)
 (hk2:∀(i:Nat) (y:V),kl[i]?=some y→∃u gl,y=V.ref u∧H u=some (.tup [.str (zR zs i),.bl (bR ts zs n pp i),.ref gl])∧H gl=some (.lst ((gR ts zs n pp i).map V.str))) (ht:H Dt=some (.lst tl)) (htl:tl.length=zs.length) (ht2:∀(i:Nat) (y:V),tl[i]?=some y→∃x,y=V.ref x∧H x=some (.lst (((TB ts zs n (i+1)).map payO).map oV))):LikeR K 3 H (.ref t) (.ref t3):=by
 obtain ⟨gf,hgf⟩:=h.rows
 refine ⟨t,t3,_,_,rfl,rfl,.inr ⟨SqT.of h.tup,SqT.of h3⟩,rfl,fun i x y hx hy=>?_⟩
 match i,hx,hy with
 | 0,hx,hy=>cases hx;cases hy;exact LikeN.flat rfl
 | 1,hx,hy=>
  cases hx;cases hy
  refine LikeN.of ⟨b,Dk,_,_,rfl,rfl,.inl ⟨SqL.of h.book,SqL.of hk⟩,by rw [List.length_map,h.blen,hkl],fun j x y hx hy=>?_⟩
  rw [List.getElem?_map]at hx
  cases hu:rws[j]? with
  | none=>rw [hu]at hx;cases hx
  | some u2=>
  rw [hu]at hx
  cases hx
  obtain ⟨u,gl,rfl,h1,h2⟩:=hk2 j y hy
  obtain ⟨r1,r2⟩:=hgf j u2 hu
  refine LikeN.of ⟨u2,u,_,_,rfl,rfl,.inr ⟨SqT.of r1,SqT.of h1⟩,rfl,fun k x y hx hy=>?_⟩
  match k,hx,hy with
  | 0,hx,hy=>cases hx;cases hy;exact LikeN.flat rfl
  | 1,hx,hy=>cases hx;cases hy;exact LikeN.flat rfl
  | 2,hx,hy=>
   cases hx;cases hy
   refine LikeN.of ⟨gf j,gl,_,_,rfl,rfl,.inl ⟨SqL.of r2,SqL.of h2⟩,rfl,fun k x y hx hy=>?_⟩
   rw [hx]at hy
   cases hy
   obtain ⟨z,_,rfl⟩:=List.mem_map.mp (List.mem_of_getElem? hx)
   exact LikeN.flat rfl
  | k+3,hx,hy=>cases hx
 | 2,hx,hy=>
  cases hx;cases hy
  refine LikeN.of ⟨l,Dt,_,_,rfl,rfl,.inl ⟨SqL.of h.tabl,SqL.of ht⟩,by rw [List.length_map,h.tlen,htl],fun j x y hx hy=>?_⟩
  rw [List.getElem?_map]at hx
  cases hu:ls[j]? with
  | none=>rw [hu]at hx;cases hx
  | some x2=>
  rw [hu]at hx
  cases hx
  obtain ⟨x',rfl,h1⟩:=ht2 j y hy
  refine LikeN.of ⟨x2,x',_,_,rfl,rfl,.inl ⟨SqL.of (h.ent j x2 hu),SqL.of h1⟩,rfl,fun k x y hx hy=>?_⟩
  rw [hx]at hy
  cases hy
  obtain ⟨e,_,rfl⟩:=List.mem_map.mp (List.mem_of_getElem? hx)
  exact LikeN.flat flat_o
 | i+3,hx,hy=>cases hx
end N46
open PySem PySem.W PyProof.Rows
namespace L2
structure Bs(P:Program)(w:World)(K:PySem.W.Frag)(mg:Str→Option Value)(base:Heap):Prop where
 ex:∃h:Heap,K.In h∧h.Ns mainGlobals mg
theorem lc{α:Type}{us:List α}{n:Nat}(h:us.length=n+1):∃u r,us=u::r∧r.length=n:=by
 cases us with
 | nil=>cases h
 | cons u r=>exact ⟨u,r,rfl,Nat.succ.inj h⟩
theorem l0{α:Type}{us:List α}(h:us.length=0):us=[]:=by
 cases us with
 | nil=>rfl
 | cons u r=>cases h
section
variable {P:Program} {w:World} {K:PySem.W.Frag} {mg:Str→Option Value} {base:Heap} {CX:CXT} {k:Nat} {sp:Sp} {ps:List Str} {x qual n p1 p2 p3 p4 p5 p6 p7:Str} {st:Stmt} {f C:Addr} {fd:FuncData}
theorem Fun.d(F:Fun K x qual st f fd)(B:Bs P w K mg base)(a:PySem.W.nsIn K mainGlobals x=some (some (.ref f)))(o:FnOk P w K mg base CX k f fd ps sp)(b:Binds K fd ps []):Def P w K mg base CX k x ps sp:=
 let ⟨_,X,G⟩:=B.ex;⟨f,fd,o,PySem.W.mg_of X G a,F.kp,b⟩
theorem Fun.m(F:Fun K x qual st f fd)(B:Bs P w K mg base)(M:Meth K C x f)(o:FnOk P w K mg base CX k f fd ps sp)(b:Binds K fd ps []):DefM P w K mg base CX k C x ps sp:=
 ⟨f,fd,o,M,b⟩
theorem Fun.i(F:Fun K x qual st f fd)(B:Bs P w K mg base)(M:Mk K C f)(a:PySem.W.nsIn K mainGlobals n=some (some (.ref C)))(o:FnOk P w K mg base CX k f fd ps sp)(b:Binds K fd ps []):DefI P w K mg base CX k n C ps sp:=
 let ⟨_,X,G⟩:=B.ex;⟨f,fd,o,M,PySem.W.mg_of X G a,b⟩
theorem Fun.e1(F:Fun K x qual st f fd)(h:∀(kV doc pm:Value) (an:Option Addr) (cdv ct u:Value),bindArgs (PySem.W.fnOf x qual (defArgs st) (defBody st) (defScope st) .none kV doc pm an cdv ct) ⟨[u],[]⟩=pure [(p1,u)]):Binds K fd [p1] []:=
 F.binds (ps:=[p1]) fun kV doc pm an cdv ct us hl=>by
  obtain ⟨u,us,rfl,h1⟩:=lc hl
  cases l0 h1
  exact h kV doc pm an cdv ct u
theorem Fun.e2(F:Fun K x qual st f fd)(h:∀(kV doc pm:Value) (an:Option Addr) (cdv ct u v:Value),bindArgs (PySem.W.fnOf x qual (defArgs st) (defBody st) (defScope st) .none kV doc pm an cdv ct) ⟨[u,v],[]⟩=pure [(p1,u),(p2,v)]):Binds K fd [p1,p2] []:=
 F.binds (ps:=[p1,p2]) fun kV doc pm an cdv ct us hl=>by
  obtain ⟨u,us,rfl,h1⟩:=lc hl
  obtain ⟨v,us,rfl,h2⟩:=lc h1
  cases l0 h2
  exact h kV doc pm an cdv ct u v
theorem Fun.e3(F:Fun K x qual st f fd)(h:∀(kV doc pm:Value) (an:Option Addr) (cdv ct u v w:Value),bindArgs (PySem.W.fnOf x qual (defArgs st) (defBody st) (defScope st) .none kV doc pm an cdv ct) ⟨[u,v,w],[]⟩=pure [(p1,u),(p2,v),(p3,w)]):Binds K fd [p1,p2,p3] []:=
 F.binds (ps:=[p1,p2,p3]) fun kV doc pm an cdv ct us hl=>by
  obtain ⟨u,us,rfl,h1⟩:=lc hl
  obtain ⟨v,us,rfl,h2⟩:=lc h1
  obtain ⟨w,us,rfl,h3⟩:=lc h2
  cases l0 h3
  exact h kV doc pm an cdv ct u v w
theorem Fun.e4(F:Fun K x qual st f fd)(h:∀(kV doc pm:Value) (an:Option Addr) (cdv ct u v w y:Value),bindArgs (PySem.W.fnOf x qual (defArgs st) (defBody st) (defScope st) .none kV doc pm an cdv ct) ⟨[u,v,w,y],[]⟩=pure [(p1,u),(p2,v),(p3,w),(p4,y)]):Binds K fd [p1,p2,p3,p4] []:=
 F.binds (ps:=[p1,p2,p3,p4]) fun kV doc pm an cdv ct us hl=>by
  obtain ⟨u,us,rfl,h1⟩:=lc hl
  obtain ⟨v,us,rfl,h2⟩:=lc h1
  obtain ⟨w,us,rfl,h3⟩:=lc h2
  obtain ⟨y,us,rfl,h4⟩:=lc h3
  cases l0 h4
  exact h kV doc pm an cdv ct u v w y
theorem Fun.e5(F:Fun K x qual st f fd)(h:∀(kV doc pm:Value) (an:Option Addr) (cdv ct u v w y z:Value),bindArgs (PySem.W.fnOf x qual (defArgs st) (defBody st) (defScope st) .none kV doc pm an cdv ct) ⟨[u,v,w,y,z],[]⟩=pure [(p1,u),(p2,v),(p3,w),(p4,y),(p5,z)]):Binds K fd [p1,p2,p3,p4,p5] []:=
 F.binds (ps:=[p1,p2,p3,p4,p5]) fun kV doc pm an cdv ct us hl=>by
  obtain ⟨u,us,rfl,h1⟩:=lc hl
  obtain ⟨v,us,rfl,h2⟩:=lc h1
  obtain ⟨w,us,rfl,h3⟩:=lc h2
  obtain ⟨y,us,rfl,h4⟩:=lc h3
  obtain ⟨z,us,rfl,h5⟩:=lc h4
  cases l0 h5
  exact h kV doc pm an cdv ct u v w y z
end
theorem st_c{n:Str}{N:List Str}{v:V}{vs:List V}:start (n::N) (v::vs)=some v::start N vs:=by
 simp [start]
theorem st_n{n:Str}{N:List Str}:start (n::N) []=none::start N []:=rfl
theorem st_e:start [] []=[]:=rfl
end L2
namespace K46
open L2 N1 N5 N31 N4 N32 N41 N6 N12 N47 N46
local macro_rules | `(tactic| walk_at "rq") => `(tactic| simp only [rd_asg, rd_var, rd_c, rd_op, rd_I0, rd_I, rd_U, rd_name, rd_ifS, rd_test, rd_b, rd_ret, rd_retN, rd_next, rd_break, rd_cont, rd_cb, rd_cons, rd_nil, rd_call, rd_not, rd_or, rd_and, rd_andV, rd_orV, rd_notV, rd_if, rd_un, rd_eq, rd_ne, rd_par, rd_tup, rd_lst, rd_never, rd_drop, rd_gcons, rd_gnil, rd_gsub, rd_chain, rd_rng1, rd_rng2, rd_ilist, rd_itup, rd_for', scal, rd_comp, rd_istr, rd_sl, rd_noPart, rd_part, rd_slS, rd_slL, rd_bm, rd_bm0, tyV_str, rd_join, rd_find, rd_split, rd_all, rd_mulS, rd_jnil, rd_jcons, rd_fstr, rd_fmt, rd_fmtR, rd_dnewK, true_implies, false_implies, Bool.false_and, Bool.true_and, Bool.and_true, Bool.and_false, Bool.false_or, Bool.true_or, Bool.or_true, Bool.or_false, rd_eqQ, rd_neQ, rd_methE, rd_makeE, rd_fld, rd_sfld, rd_din, rd_dnotin, rd_dget, rd_dput, rd_gtup, rd_inS, rd_notinS, hasS_one, blk_K, Int.zero_add, Int.toNat_natCast, upd_upd, List.map_cons, List.map_nil, List.getD_cons_zero, List.getD_cons_succ, cxOf_K, List.length_cons, List.length_nil, List.getElem?_cons_zero, List.getElem?_cons_succ, List.set_cons_zero, List.set_cons_succ, Option.some.injEq, V.int.injEq, V.bl.injEq, V.str.injEq, V.ref.injEq, V.ty.injEq, exists_eq_left', exists_eq_left, exists_and_left, exists_eq, exists_eq', List.cons.injEq, and_true, true_and, decide_eq_true_eq, Bool.not_eq_true', decide_eq_false_iff_not, reduceCtorEq, exists_const, Bool.true_eq_false, Bool.false_eq_true, if_true, if_false, ite_true, ite_false, Bool.not_true, Bool.not_false, decide_true, decide_false, Bool.not_not, false_and, and_false, exists_false, false_or, or_false, true_or, or_true, and_assoc, not_true_eq_false, not_false_eq_true, Int.reduceToNat, Nat.reduceAdd, sp_cell, sp_made, sp_is_name, sp_law, sp_is_whole, sp_within, sp_checkG, sp_initG, sp_has, sp32_check, sp32_thing, sp32_room, sp41_asks, sp41_cost, rd_ienum, rd_dget1, rd_disp1, rd_setL, rd_sumL, rd_augN, rd_ipI, rd_comp2, rd_compI, sp41_names, sp41_whole, sp41_mixed, sp41_lcost, sp41_lroom, sp41_lplaces, rd_maxL, rd_values, rd_sumV, rd_idict, rd_items, rd_iview, rd_rngD, rd_minT, rd_minTD, sp47_worths, sp47_rooms, sp47_in, sp47_all, sp47_known, sp47_served, sp47_behind, sp47_tab, sp47_pay, rd_neN, rd_thaw, rd_ipM, rd_listrev, rd_popAt, rd_remove, sp46_between, sp46_along, sp46_ways, sp46_rooms, sp46_due, sp46_list, sp46_table, sp46_least, sp46_pay, rd_eqN, rd_minL, rd_izip, rd_comp3, rd_clear])
local macro_rules | `(tactic| walk_at "rd") => `(tactic| first | (dsimp only [rd_asg, rd_var, rd_c, rd_op, rd_I0, rd_I, rd_U, rd_name, rd_ifS, rd_test, rd_b, rd_ret, rd_retN, rd_next, rd_break, rd_cont, rd_cb, rd_cons, rd_nil, rd_call, rd_not, rd_or, rd_and, rd_andV, rd_orV, rd_notV, rd_if, rd_un, rd_eq, rd_ne, rd_par, rd_tup, rd_lst, rd_never, rd_drop, rd_gcons, rd_gnil, rd_gsub, rd_chain, rd_rng1, rd_rng2, rd_ilist, rd_itup, rd_for', scal, rd_comp, rd_istr, rd_sl, rd_noPart, rd_part, rd_slS, rd_slL, rd_bm, rd_bm0, tyV_str, rd_join, rd_find, rd_split, rd_all, rd_mulS, rd_jnil, rd_jcons, rd_fstr, rd_fmt, rd_fmtR, rd_dnewK, true_implies, false_implies, Bool.false_and, Bool.true_and, Bool.and_true, Bool.and_false, Bool.false_or, Bool.true_or, Bool.or_true, Bool.or_false, rd_eqQ, rd_neQ, rd_methE, rd_makeE, rd_fld, rd_sfld, rd_din, rd_dnotin, rd_dget, rd_dput, rd_gtup, rd_inS, rd_notinS, hasS_one, blk_K, Int.zero_add, Int.toNat_natCast, upd_upd, List.map_cons, List.map_nil, List.getD_cons_zero, List.getD_cons_succ, cxOf_K, List.length_cons, List.length_nil, List.getElem?_cons_zero, List.getElem?_cons_succ, List.set_cons_zero, List.set_cons_succ, Option.some.injEq, V.int.injEq, V.bl.injEq, V.str.injEq, V.ref.injEq, V.ty.injEq, exists_eq_left', exists_eq_left, exists_and_left, exists_eq, exists_eq', List.cons.injEq, and_true, true_and, decide_eq_true_eq, Bool.not_eq_true', decide_eq_false_iff_not, reduceCtorEq, exists_const, Bool.true_eq_false, Bool.false_eq_true, if_true, if_false, ite_true, ite_false, Bool.not_true, Bool.not_false, decide_true, decide_false, Bool.not_not, false_and, and_false, exists_false, false_or, or_false, true_or, or_true, and_assoc, not_true_eq_false, not_false_eq_true, Int.reduceToNat, Nat.reduceAdd, sp_cell, sp_made, sp_is_name, sp_law, sp_is_whole, sp_within, sp_checkG, sp_initG, sp_has, sp32_check, sp32_thing, sp32_room, sp41_asks, sp41_cost, rd_ienum, rd_dget1, rd_disp1, rd_setL, rd_sumL, rd_augN, rd_ipI, rd_comp2, rd_compI, sp41_names, sp41_whole, sp41_mixed, sp41_lcost, sp41_lroom, sp41_lplaces, rd_maxL, rd_values, rd_sumV, rd_idict, rd_items, rd_iview, rd_rngD, rd_minT, rd_minTD, sp47_worths, sp47_rooms, sp47_in, sp47_all, sp47_known, sp47_served, sp47_behind, sp47_tab, sp47_pay, rd_neN, rd_thaw, rd_ipM, rd_listrev, rd_popAt, rd_remove, sp46_between, sp46_along, sp46_ways, sp46_rooms, sp46_due, sp46_list, sp46_table, sp46_least, sp46_pay, rd_eqN, rd_minL, rd_izip, rd_comp3, rd_clear]; try walk_at "rq") | walk_at "rq")
local macro_rules | `(tactic| walk_at "hp") => `(tactic| first | with_reducible assumption | exact upd_same | (rw [upd_ne (by first | with_reducible assumption | exact ne_of_none (by with_reducible assumption) (by with_reducible assumption))]; first | with_reducible assumption | exact upd_same))
local macro_rules | `(tactic| walk_at "sq") => `(tactic| (repeat' first | with_reducible assumption | exact SqT.of upd_same | exact SqL.of upd_same | refine' Same.tup (Same.new (by with_reducible assumption)) ?_ | refine' Same.seq (Same.new (by with_reducible assumption)) ?_))
local macro_rules | `(tactic| walk_at "isi") => `(tactic| first | exact isi_ii | exact isi_ib | exact isi_bb | exact isi_is | exact isi_ss | exact isi_si | exact isi_sb | exact isi_bi | exact isi_bs | exact isi_ni | exact isi_ns | exact isi_tupt (by walk_at "hp") | exact isi_lstl (by walk_at "hp") | exact isi_tupl (by walk_at "hp") | exact isi_lstt (by walk_at "hp") | exact isi_tups (by walk_at "hp") | exact isi_lsts (by walk_at "hp") | exact isi_tupi (by walk_at "hp") | exact isi_lsti (by walk_at "hp"))
local macro_rules | `(tactic| walk_at "slen") => `(tactic| first | omega | decide +kernel | (refine le_app ?_ ?_ <;> walk_at "slen"))
local macro_rules | `(tactic| walk_at "side") => `(tactic| first | with_reducible assumption | with_reducible exact cdiv_of (by omega) (by omega) | with_reducible exact cpow_of (by decide) (by decide) (by decide) | with_reducible exact cmul_l (by omega) (by omega) | with_reducible exact cmul_r (by omega) (by omega) | omega | decide | decide +kernel | (have := line_val; omega) | (simp only [len_app, len_one, line_val]; omega) | (rw [line_val]; walk_at "slen"; done))
local macro_rules | `(tactic| walk_at "go1") => `(tactic| first | walk_at "rd" | ((with_reducible refine And.intro ?_ ?_); (focus (walk_at "side"; done))) | ((with_reducible apply isi_go); (focus (walk_at "isi"; done))) | ((with_reducible apply ixT_of); (focus (walk_at "sq"; done)); (focus rfl)) | ((with_reducible apply ixL_of); (focus (walk_at "sq"; done)); (focus rfl)) | ((with_reducible apply len_goT); (focus (walk_at "sq"; done))) | ((with_reducible apply len_goL); (focus (walk_at "sq"; done))) | ((with_reducible apply script_go); (focus (walk_at "sq"; done)); (focus (assumption; done))) | ((with_reducible apply cell_go); (focus (walk_at "sq"; done)); (focus (decide; done)); (focus (assumption; done))) | (intro (_ : List (Addr × PySem.Obj)) (_ : PySem.Value → PySem.Shared → Prop)) | with_reducible refine seq_go fun _ _ => ?_ | (refine leaf_go (by with_reducible assumption) ?_; subst_vars))
local macro_rules | `(tactic| walk_at "go") => `(tactic| repeat walk_at "go1")
noncomputable def top(i:Nat):Stmt:=PySem.Challenge.pw_castoff_k46_whole_all_ways_walked.main.body.getD i (.Pass ⟨0,0,0,0⟩)
structure Txt(K:W.Frag)(mg:Str→Option Value)(Z0:Addr):Prop where
 Z3d:mg "Stock"=some (.ref Z0)
 Z4:Cls K Z0
 Z2:NoAttr K Z0 "things"
 Z3:mg "len"=none
 Z1:mg "isinstance"=none
 Z0e:mg "int"=none
 Z0h:mg "bool"=none
 Z0z:mg "str"=none
 Ze:mg "list"=none
 Z1y:mg "all"=none
 Zb:mg "range"=none
 Z8:mg "enumerate"=none
 Z0r:mg "sum"=none
 Z2l:mg "abs"=none
 Z10:mg "min"=none
 Z1z:mg "max"=none
 Z0g:mg "tuple"=none
 Z2m:mg "set"=none
 Zp:mg "reversed"=none
 Z11:mg "sorted"=none
 Z1l:mg "zip"=none
 Zm:∃t,mg "LETTERS"=some (.str "abcdefghijklmnopqrstuvwxyz" t)
 Z01:∃t,mg "FIGURES"=some (.str "0123456789" t)
 Zh:∃t,mg "MOST_SIGNS"=some (.int 8 t)
 Zf:∃t,mg "MOST_THINGS"=some (.int 60 t)
 Zj:∃t,mg "MOST_ROOM"=some (.int 1000 t)
 Zg:∃t,mg "MOST_PLACES"=some (.int 1000000 t)
 Zk:∃t,mg "MOST_ASKS"=some (.int 200 t)
 Zi:∃t,mg "MOST_ASKED"=some (.int 30 t)
 Z7:∃t,mg "MOST_DIFFERENT"=some (.int 6 t)
local macro_rules | `(tactic| walk_at "sc") => `(tactic| exact ⟨rfl, rfl, rfl, by decide +kernel, rfl, by decide +kernel, by decide +kernel⟩)
local macro_rules | `(tactic| walk_at "st") => `(tactic| simp only [st_c, st_n, st_e])
section
variable {P:Program} {w:World} {K:W.Frag} {mg:Str→Option Value} {base:Heap} {Z0:Addr}
noncomputable abbrev Z12:Stmt:=top 10
noncomputable abbrev Z0t:Stmt:=top 11
noncomputable abbrev Zv:Stmt:=top 14
noncomputable abbrev Z18:Stmt:=top 21
noncomputable abbrev Z19:Stmt:=top 22
noncomputable abbrev Z02:Stmt:=top 23
noncomputable abbrev Z0i:Stmt:=inClass (top 24) 0
noncomputable abbrev Z0u:Stmt:=inClass (top 24) 2
noncomputable abbrev Zl:Stmt:=inClass (top 24) 3
noncomputable abbrev Zq:Stmt:=inClass (top 24) 6
noncomputable abbrev Zr:Stmt:=inClass (top 24) 5
noncomputable abbrev Z0j:Stmt:=top 27
noncomputable abbrev Z0v:Stmt:=top 31
noncomputable abbrev Zs:Stmt:=top 32
noncomputable abbrev Z23:Stmt:=top 33
noncomputable abbrev Z1a:Stmt:=top 34
noncomputable abbrev Z0k:Stmt:=top 35
noncomputable abbrev Z03:Stmt:=top 36
noncomputable abbrev Z04:Stmt:=top 37
noncomputable abbrev Z13:Stmt:=top 38
noncomputable abbrev Z05:Stmt:=top 39
noncomputable abbrev Z0l:Stmt:=top 40
noncomputable abbrev Z06:Stmt:=top 41
noncomputable abbrev Z1b:Stmt:=top 42
noncomputable abbrev Z0w:Stmt:=top 44
noncomputable abbrev Z1c:Stmt:=top 45
noncomputable abbrev Z1d:Stmt:=top 46
noncomputable abbrev Z1e:Stmt:=top 47
noncomputable abbrev Z1p:Stmt:=top 48
noncomputable abbrev Z1q:Stmt:=top 49
noncomputable abbrev Z14:Stmt:=top 50
noncomputable abbrev Z1r:Stmt:=top 51
noncomputable abbrev Z0m:Stmt:=top 52
noncomputable abbrev Z24:Stmt:=top 53
noncomputable abbrev Z07:Stmt:=top 54
noncomputable abbrev Z1f:Stmt:=top 55
noncomputable abbrev Zw:Stmt:=top 56
noncomputable abbrev Zx:Stmt:=top 57
noncomputable abbrev Z0f:Stmt:=top 58
theorem Z2t{f:Addr}{fd:FuncData}(F:Fun K "is_whole" "is_whole" Z12 f fd)(T:Txt K mg Z0):FnOk P w K mg base CX0 1 f fd ["thing"] (sp_is_whole K):=by
 have sc:FnScope ["thing"] ["thing"] (defScope Z12):=by walk_at "sc"
 refine F.ok sc (fun vs H Q E h=>?_) (fun cdv A outer s H vs Q E hr h=>?_)
 · obtain ⟨_,_,_,rfl,_⟩:=h;rfl
 obtain ⟨x,b,c,rfl,h1,h2,q⟩:=h
 refine ⟨_,(@pss_one _ _ _ (@ps_ret _ _ _ _ (pe_and (pe_callB call_isinst rfl T.Z1 (by first | rfl | decide+kernel) (pa_cons (pv 0) (pa_cons (pe_bltn (v:= .ty "int") rfl T.Z0e (by first | rfl | decide+kernel) rfl) pa_nil))) (pe_one (pe_not (pe_callB call_isinst rfl T.Z1 (by first | rfl | decide+kernel) (pa_cons (pv 0) (pa_cons (pe_bltn (v:= .ty "bool") rfl T.Z0h (by first | rfl | decide+kernel) rfl) pa_nil)))))))),?_⟩
 walk_at "st"
 walk_at "go"
 refine ⟨_,h1,?_⟩
 cases b
 · walk_at "go"
   exact q
 · walk_at "go"
   refine ⟨_,h2 rfl,?_⟩
   walk_at "go"
   exact q
theorem Z2n{f:Addr}{fd:FuncData}(F:Fun K "is_within" "is_within" Z0t f fd)(T:Txt K mg Z0)(Z15:Def P w K mg base CX0 1 "is_whole" ["thing"] (sp_is_whole K)):FnOk P w K mg base CX0 2 f fd ["thing","least","most"] (sp_within K):=by
 have sc:FnScope ["thing","least","most"] ["thing","least","most"] (defScope Z0t):=by walk_at "sc"
 refine F.ok sc (fun vs H Q E h=>?_) (fun cdv A outer s H vs Q E hr h=>?_)
 · obtain ⟨_,_,_,rfl,_⟩:=h;rfl
 obtain ⟨v,lo,hi,rfl,hv,q⟩:=h
 refine ⟨_,(@pss_one _ _ _ (@ps_ret _ _ _ _ (pe_and (pe_callD Z15 hr rfl pass0 (pa_cons (pv 0) pa_nil)) (pe_one (pe_chain op_le op_le (pv 1) (pv 0) (pv 2)))))),?_⟩
 walk_at "st"
 obtain ⟨b,c,h1,h2,h3,h4⟩:=num_isi (K:=K) (H:=H) hv
 walk_at "go"
 refine ⟨b,h1,c,h2,?_⟩
 split
 · rename_i h
   obtain ⟨i,rfl⟩:=h3 h
   simp only [wIn]at q
   walk_at "go"
   split
   · rename_i h'
     rw [decide_eq_true h',Bool.true_and]at q;exact q
   · rename_i h'
     rw [decide_eq_false h',Bool.false_and]at q;exact q
 · rename_i h
   have e:wIn lo hi v=false:=by
    cases v with
    | int i=>exact absurd rfl (h4 (by simpa using h) i)
    | _=>rfl
   rw [e]at q;exact q
theorem Z20{f:Addr}{fd:FuncData}(F:Fun K "check_places" "check_places" Zv f fd)(T:Txt K mg Z0)(Z9:Def P w K mg base CX0 2 "is_within" ["thing","least","most"] (sp_within K)):FnOk P w K mg base CX0 3 f fd ["places"] (sp32_check):=by
 have sc:FnScope ["places"] ["places"] (defScope Zv):=by walk_at "sc"
 refine F.ok sc (fun vs H Q E h=>?_) (fun cdv A outer s H vs Q E hr h=>?_)
 · obtain ⟨_,rfl,_⟩:=h;rfl
 obtain ⟨i,rfl,h1,h2,q⟩:=h
 refine ⟨_,(@pss_one _ _ _ (ps_if (pt_not (pt_val (pe_callD Z9 hr rfl pass0 (pa_cons (pv 0) (pa_cons pe_int (pa_cons (pe_gint rfl T.Zg) pa_nil))))))
  (@pss_one _ _ _ ps_never)
  pss_nil)),?_⟩
 walk_at "st"
 walk_at "go"
 rw [if_neg (by rw [wIn_ok h1 h2];decide)]
 exact ⟨rfl,q⟩
theorem Z2w{f:Addr}{fd:FuncData}(F:Fun K "made_of" "made_of" Z18 f fd)(T:Txt K mg Z0):FnOk P w K mg base CX0 1 f fd ["text","signs"] (sp_made):=by
 have sc:FnScope ["text","signs"] ["text","signs"] (defScope Z18):=by walk_at "sc"
 refine F.ok sc (fun vs H Q E h=>?_) (fun cdv A outer s H vs Q E hr h=>?_)
 · obtain ⟨_,_,rfl,_⟩:=h;rfl
 obtain ⟨z,w,rfl,hz,q⟩:=h
 refine ⟨_,(@pss_one _ _ _ (@ps_ret _ _ _ _ (pe_callB (call_all rfl) rfl T.Z1y (by first | rfl | decide+kernel) (pa_cons (pe_comp1 "sign" [1] rfl rfl (pi_str (pv 0)) (fun b=>(pe_cmpR op_inS (pv 0) (pv 1) (by with_unfolding_all rfl)))) pa_nil)))),?_⟩
 walk_at "st"
 walk_at "go"
 refine compS_pure (fun c=>V.bl (decide (c∈w.cps.toList))) hz (fun b c H' Q' hc sm q'=>?_) fun D hD=>?_
 · walk_at "go"
   exact q'
 · refine ⟨_,rfl,z.cps.toList.map fun c=>decide (c∈w.cps.toList),?_,?_⟩
   · rw [List.map_map];exact SqL.of upd_same
   · rw [List.all_map];exact q _ (Same.new hD)
theorem Z2x{f:Addr}{fd:FuncData}(F:Fun K "is_name" "is_name" Z19 f fd)(T:Txt K mg Z0)(Z1g:Def P w K mg base CX0 1 "made_of" ["text","signs"] (sp_made)):FnOk P w K mg base CX0 2 f fd ["thing"] (sp_is_name K):=by
 have sc:FnScope ["thing"] ["thing"] (defScope Z19):=by walk_at "sc"
 refine F.ok sc (fun vs H Q E h=>?_) (fun cdv A outer s H vs Q E hr h=>?_)
 · obtain ⟨_,rfl,_⟩:=h;rfl
 obtain ⟨x,rfl,hx⟩:=h
 refine ⟨_,(@pss_cons _ _ _ _ _ (ps_if (pt_not (pt_val (pe_callB call_isinst rfl T.Z1 (by first | rfl | decide+kernel) (pa_cons (pv 0) (pa_cons (pe_bltn (v:= .ty "str") rfl T.Z0z (by first | rfl | decide+kernel) rfl) pa_nil)))))
  (@pss_one _ _ _ (@ps_ret _ _ _ _ pe_bl))
  pss_nil)
  (@pss_cons _ _ _ _ _ (ps_if (PW.pt (pw_or (pt_cmpR op_lt (pe_callB call_len_str rfl T.Z3 PySem.boot_len (pa_cons (pv 0) pa_nil)) pe_int (nomark _)) (pw_or1 (pt_cmpR op_gt (pe_callB call_len_str rfl T.Z3 PySem.boot_len (pa_cons (pv 0) pa_nil)) (pe_gint rfl T.Zh) (nomark _)))))
   (@pss_one _ _ _ (@ps_ret _ _ _ _ pe_bl))
   pss_nil)
  (@pss_one _ _ _ (@ps_ret _ _ _ _ (pe_and (pe_cmpR op_inS (@pe_ix _ _ _ _ _ _ _ ix_str (pv 0) pe_int (fun _ _=>rfl)) (pe_gstr rfl T.Zm) (by with_unfolding_all rfl)) (pe_one (pe_callD Z1g hr rfl pass0 (pa_cons (pv 0) (pa_cons (pe_op op_add_str (pe_gstr rfl T.Zm) (pe_gstr rfl T.Z01)) pa_nil))))))))),?_⟩
 walk_at "st"
 rcases hx with ⟨z,rfl,hz,q⟩ | ⟨hi,q⟩
 · walk_at "go"
   have hl:=str_len (z:=z)
   split
   · rename_i h1
     have e:nameB z.cps.toList=false:=by unfold nameB;rw [decide_eq_false (show ¬1≤z.cps.toList.length by omega)];rfl
     rw [e]at q;exact q _ (Same.refl H)
   · rename_i h1
     refine ⟨hz,?_⟩
     split
     · have e:nameB z.cps.toList=false:=by unfold nameB;rw [decide_eq_false (show ¬z.cps.toList.length≤8 by omega),Bool.and_false];rfl
       rw [e]at q;exact q _ (Same.refl H)
     · rename_i h2
       obtain ⟨c,r,hcr⟩:∃c r,z.cps.toList=c::r:=by
        cases h:z.cps.toList with
        | nil=>rw [h]at hl;simp at hl;omega
        | cons c r=>exact ⟨c,r,rfl⟩
       have hn:nameB z.cps.toList=(decide (c∈letters) && z.cps.toList.all fun c=>decide (c∈letters++figures)):=by
        unfold nameB;rw [decide_eq_true (show 1≤z.cps.toList.length by omega),decide_eq_true (show z.cps.toList.length≤8 by omega)];rw [hcr];rfl
       rw [hn]at q
       walk_at "go"
       refine ixS_of hz (by rw [hcr];exact at_0) ?_
       walk_at "go"
       rw [let_list]
       split
       · rename_i hc
         rw [decide_eq_true hc,Bool.true_and]at q
         walk_at "go"
         rw [app_list,let_list,fig_list]
         exact q
       · rename_i hc
         rw [decide_eq_false hc,Bool.false_and]at q
         exact q _ (Same.refl H)
 · walk_at "go"
   refine ⟨_,hi,?_⟩
   walk_at "go"
   exact q
theorem Z25{f:Addr}{fd:FuncData}(F:Fun K "check_thing" "check_thing" Z02 f fd)(T:Txt K mg Z0)(Z1h:Def P w K mg base CX0 2 "is_name" ["thing"] (sp_is_name K))(Z9:Def P w K mg base CX0 2 "is_within" ["thing","least","most"] (sp_within K)):FnOk P w K mg base CX0 3 f fd ["name","cost","room","earlier"] (sp_checkG K):=by
 have sc:FnScope ["name","cost","room","earlier"] ["name","cost","room","earlier"] (defScope Z02):=by walk_at "sc"
 refine F.ok sc (fun vs H Q E h=>?_) (fun cdv A outer s H vs Q E hr h=>?_)
 · obtain ⟨_,_,_,_,_,_,rfl,_⟩:=h;rfl
 obtain ⟨n,co,r,e,kvs,ks,rfl,he,hk,hrow,q⟩:=h
 refine ⟨_,(@pss_cons _ _ _ _ _ (ps_if (pt_not (pt_val (pe_callD Z1h hr rfl pass0 (pa_cons (pv 0) pa_nil))))
  (@pss_one _ _ _ ps_never)
  pss_nil)
  (@pss_cons _ _ _ _ _ (ps_if (pt_cmp (pc_din (hu_of hr) (pv 0) (pv 3)))
   (@pss_one _ _ _ ps_never)
   pss_nil)
  (@pss_cons _ _ _ _ _ (ps_if (pt_not (pt_val (pe_callD Z9 hr rfl pass0 (pa_cons (pv 1) (pa_cons pe_int (pa_cons (pe_op op_pow pe_int pe_int) pa_nil))))))
   (@pss_one _ _ _ ps_never)
   pss_nil)
  (@pss_one _ _ _ (ps_if (pt_not (pt_val (pe_callD Z9 hr rfl pass0 (pa_cons (pv 2) (pa_cons pe_int (pa_cons (pe_gint rfl T.Zj) pa_nil))))))
   (@pss_one _ _ _ ps_never)
   pss_nil))))),?_⟩
 walk_at "st"
 obtain ⟨z,c,w,rfl,rfl,rfl,nz,hb,h1,h2,h3,h4⟩:=rowR_none hrow
 have line:=line_val
 have hz8:=name_len hb
 walk_at "go"
 intro H1 sm1
 rw [hb]
 have he1:=sm1 _ _ he
 walk_at "go"
 refine ⟨_,DGet.k (k:=Sum.inr z) he1,?_⟩
 rw [key_mem hk,decide_eq_false nz]
 walk_at "go"
 refine ⟨rfl,?_⟩
 split
 · rename_i h
   exact absurd h (by rw [wIn_ok h1 h2];decide)
 · walk_at "go"
   refine ⟨rfl,?_⟩
   split
   · rename_i h
     exact absurd h (by rw [wIn_ok h3 h4];decide)
   · walk_at "go"
     exact q _ sm1
theorem Z2e{f:Addr}{fd:FuncData}(F:Fun K "__init__" "Stock.__init__" Z0i f fd)(T:Txt K mg Z0)(Z08:Def P w K mg base CX0 3 "check_thing" ["name","cost","room","earlier"] (sp_checkG K)):FnOk P w K mg base CX0 4 f fd ["self","rows"] (sp_initG K Z0):=by
 have sc:FnScope ["self","rows","name","cost","room"] ["self","rows"] (defScope Z0i):=by walk_at "sc"
 refine F.ok sc (fun vs H Q E h=>?_) (fun cdv A outer s H vs Q E hr h=>?_)
 · obtain ⟨_,_,_,_,rfl,_⟩:=h;rfl
 obtain ⟨p,dx,ra,rs,rfl,hp,hrs,hall,er,q⟩:=h
 refine ⟨_,(@pss_cons _ _ _ _ _ (ps_if (pt_cmpR op_gt (pe_callB call_len_seq rfl T.Z3 PySem.boot_len (pa_cons (pv 1) pa_nil)) (pe_gint rfl T.Zf) (nomark _))
  (@pss_one _ _ _ ps_never)
  pss_nil)
  (@pss_cons _ _ _ _ _ (ps_fld (pv 0) pe_dnewK rfl)
  (@pss_one _ _ _ (ps_for PassesOwn.never rfl (pi_list (pv 1)) (pg_tup rfl (pgs_cons (pg_name (i:=2) sc.nd rfl (Or.inl rfl)) (pgs_cons (pg_name (i:=3) sc.nd rfl (Or.inl rfl)) (pgs_cons (pg_name (i:=4) sc.nd rfl (Or.inl rfl)) pgs_nil))))
   (@pss_cons _ _ _ _ _ (ps_expr (pe_callD Z08 hr rfl pass0 (pa_cons (pv 2) (pa_cons (pv 3) (pa_cons (pv 4) (pa_cons (pe_fld (pv 0) rfl) pa_nil))))))
   (@pss_one _ _ _ (ps_dput (hu_of hr) (pe_fld (pv 0) rfl) (pv 2) (pe_tup (pa_cons (pe_callB call_lenD rfl T.Z3 PySem.boot_len (pa_cons (pe_fld (pv 0) rfl) pa_nil)) (pa_cons (pv 3) (pa_cons (pv 4) pa_nil)))) rfl))))))),?_⟩
 walk_at "st"
 have line:=line_val
 obtain ⟨hl60,hstk⟩:=initR_none er
 walk_at "go"
 rw [List.length_map]
 split
 · rename_i h
   exact absurd h (by omega)
 · rename_i h
   walk_at "go"
   intro d hd
   have npd:p≠d:=ne_of_none hp hd
   walk_at "go"
   refine ⟨Z0,dx,[],by rw [upd_ne npd];exact hp,T.Z4,T.Z2,by decide,?_⟩
   have sb0:SameBut p H (upd (upd H d (.dK [])) p (.ins Z0 dx (flds d))):=fun b o e n=>by rw [upd_ne n,upd_ne (ne_of_none e hd)];exact e
   have hp0:upd (upd H d (.dK [])) p (.ins Z0 dx (flds d)) p=some (.ins Z0 dx (flds d)):=upd_same
   have hd0:upd (upd H d (.dK [])) p (.ins Z0 dx (flds d)) d=some (.dK []):=by rw [upd_ne npd.symm,upd_same]
   unfold flds at sb0 hp0 hd0
   generalize upd (upd H d (HO.dK [])) p (HO.ins Z0 dx (putF (Str.ofString "things") (V.ref d) []))=H0 at sb0 hp0 hd0 ⊢
   walk_at "go"
   refine ⟨⟨_,SqL.but sb0 hp hrs⟩,?_⟩
   refine forL_by (xs:=rs.map fun t=>V.ref t.1) (fun i σ H'=>∃v1 v2 v3,σ=[some (V.ref p),some (V.ref ra),v1,v2,v3]∧SameBut p H H'∧H' p=some (.ins Z0 dx (flds d))∧MidAt K H' d (rs.take i)∧stockR (nmsOf (rs.take i)) (rs.drop i)=none) ⟨none,none,none,rfl,sb0,hp0,⟨[],hd0,rfl,fun j t e=>by simp at e⟩,by rw [List.take_zero,List.drop_zero];exact hstk⟩ (fun i σ H' _ h_=>by obtain ⟨v1,v2,v3,_,sb,_⟩:=h_;exact SqL.but sb hp hrs) ?_ ?_
   · rintro i x σ H' hx ⟨v1,v2,v3,rfl,sb,hp',⟨kvs,hd',hk,hm⟩,hst⟩
     rw [List.getElem?_map]at hx
     cases ht:rs[i]? with
     | none=>rw [ht]at hx;cases hx
     | some t=>
      rw [ht]at hx
      simp only [Option.map_some,Option.some.injEq]at hx
      subst hx
      have hi:i < rs.length:=(List.getElem?_eq_some_iff.mp ht).1
      have r1:=SqT.but sb hp (hall t (List.mem_of_getElem? ht))
      rw [stockR_step ht]at hst
      have hkl:kvs.length=i:=by
       have:=congrArg List.length hk
       simp [nmsOf]at this;omega
      cases hrow:rowR (nmsOf (rs.take i)) t.2.1 t.2.2.1 t.2.2.2 with
      | some e=>rw [hrow]at hst;cases hst
      | none=>
       rw [hrow]at hst
       obtain ⟨z,c,q',e1,e2,e3,nz,hb,_⟩:=rowR_none hrow
       walk_at "go"
       refine ⟨_,r1,rfl,?_⟩
       walk_at "go"
       refine ⟨Z0,dx,flds d,hp',T.Z4,T.Z2,_,flds_things,d,rfl,kvs,hd',_,hk,hrow,fun H1 sm1=>?_⟩
       rw [e1,e2,e3]
       have hp1:=sm1 _ _ hp'
       have hd1:=sm1 _ _ hd'
       walk_at "go"
       refine ⟨Z0,dx,flds d,hp1,T.Z4,T.Z2,_,flds_things,?_⟩
       walk_at "go"
       refine ⟨kvs,hd1,by omega,fun t2 ht2=>?_⟩
       have np2:p≠t2:=ne_of_none hp1 ht2
       have nd2:d≠t2:=ne_of_none hd1 ht2
       have hd2:upd H1 t2 (.tup [.int kvs.length,.int c,.int q']) d=some (.dK kvs):=by rw [upd_ne nd2];exact hd1
       refine ⟨Z0,dx,flds d,by rw [upd_ne np2];exact hp1,T.Z4,T.Z2,_,flds_things,d,rfl,_,DPut.k (k:=Sum.inr z) hd2 (by omega),?_,?_,?_,?_⟩
       · intro b o eb nb
         have h1:=sm1 _ _ (sb b o eb nb)
         rw [upd_ne (ne_of_none eb hd),upd_ne (ne_of_none h1 ht2)]
         exact h1
       · rw [upd_ne npd,upd_ne np2];exact hp1
       · rw [List.take_add_one,ht]
         refine MidAt.snoc hd2 hk (fun j t' e=>?_) e1 e2 e3 nz upd_same
         obtain ⟨a,q1,q2⟩:=hm j t' e
         exact ⟨a,q1,(sm1.trans (Same.new ht2)).tup q2⟩
       · rw [List.take_add_one,ht]
         have e:nmsOf (rs.take kvs.length++(some t).toList)=nmsOf (rs.take kvs.length)++[sOf t.2.1]:=by unfold nmsOf;simp
         rw [e];exact hst
   · rintro σ H' ⟨v1,v2,v3,rfl,sb,hp',⟨kvs,hd',hk,hm⟩,hst⟩
     simp only [List.length_map,List.take_length,List.drop_length]at hk hm hst
     show Q V.non H'
     refine q _ sb ⟨dx,d,kvs,hp',hd',?_,fun i t ht=>?_⟩
     · rw [hk];unfold nmsOf;rw [List.map_map,List.map_map];rfl
     · rw [List.getElem?_map]at ht
       cases hr:rs[i]? with
       | none=>rw [hr]at ht;cases ht
       | some t'=>
        rw [hr]at ht
        simp only [Option.map_some,Option.some.injEq]at ht
        subst ht
        exact hm i t' hr
theorem Z2o{f:Addr}{fd:FuncData}(F:Fun K "has" "Stock.has" Z0u f fd)(T:Txt K mg Z0):FnOk P w K mg base CX0 1 f fd ["self","name"] (sp_has K Z0):=by
 have sc:FnScope ["self","name"] ["self","name"] (defScope Z0u):=by walk_at "sc"
 refine F.ok sc (fun vs H Q E h=>?_) (fun cdv A outer s H vs Q E hr h=>?_)
 · obtain ⟨_,_,_,rfl,_⟩:=h;rfl
 obtain ⟨p,ts,z,rfl,hs,q⟩:=h
 refine ⟨_,(@pss_one _ _ _ (@ps_ret _ _ _ _ (pe_cmp (pc_din (hu_of hr) (pv 1) (pe_fld (pv 0) rfl))))),?_⟩
 walk_at "st"
 obtain ⟨dx,d,kvs,h1,h2,h3,h4,h5⟩:=StockAt.has hs
 walk_at "go"
 refine ⟨Z0,dx,flds d,h1,T.Z4,T.Z2,_,flds_things,d,rfl,_,DGet.k (k:=Sum.inr z) h2,?_⟩
 rw [h4]
 exact q
theorem Z1n{f:Addr}{fd:FuncData}(F:Fun K "thing_of" "Stock.thing_of" Zl f fd)(T:Txt K mg Z0):FnOk P w K mg base CX0 1 f fd ["self","name"] (sp32_thing K Z0):=by
 have sc:FnScope ["self","name"] ["self","name"] (defScope Zl):=by walk_at "sc"
 refine F.ok sc (fun vs H Q E h=>?_) (fun cdv A outer s H vs Q E hr h=>?_)
 · obtain ⟨_,_,_,rfl,_⟩:=h;rfl
 obtain ⟨p,ts,z,rfl,hs,nd,hz,q⟩:=h
 refine ⟨_,(@pss_cons _ _ _ _ _ (ps_if (pt_cmp (pc_dnotin (hu_of hr) (pv 1) (pe_fld (pv 0) rfl)))
  (@pss_one _ _ _ ps_never)
  pss_nil)
  (@pss_one _ _ _ (@ps_ret _ _ _ _ (pe_dget (hu_of hr) (pe_fld (pv 0) rfl) (pv 1) (fun _ _=>rfl))))),?_⟩
 walk_at "st"
 obtain ⟨dx,d,kvs,h1,h2,h3,h4,h5⟩:=StockAt.has hs
 have line:=line_val
 walk_at "go"
 refine ⟨Z0,dx,flds d,h1,T.Z4,T.Z2,_,flds_things,d,rfl,_,DGet.k (k:=Sum.inr z) h2,?_⟩
 rw [h4,decide_eq_true hz]
 obtain ⟨i,t,ht,rfl⟩:=mem_nth hz
 obtain ⟨a,e1,e2⟩:=h5 nd i t ht
 walk_at "go"
 refine ⟨Z0,dx,flds d,h1,T.Z4,T.Z2,_,flds_things,?_⟩
 walk_at "go"
 refine ⟨V.ref a,by rw [← e1];exact DGet.k (k:=Sum.inr t.1) h2,?_⟩
 exact q i t ht rfl a e2
theorem Z1s{f:Addr}{fd:FuncData}(F:Fun K "room_of" "Stock.room_of" Zq f fd)(T:Txt K mg Z0)(Z5:DefM P w K mg base CX0 1 Z0 "thing_of" ["self","name"] (sp32_thing K Z0)):FnOk P w K mg base CX0 2 f fd ["self","name"] (sp32_room K Z0):=by
 have sc:FnScope ["self","name"] ["self","name"] (defScope Zq):=by walk_at "sc"
 refine F.ok sc (fun vs H Q E h=>?_) (fun cdv A outer s H vs Q E hr h=>?_)
 · obtain ⟨_,_,_,rfl,_⟩:=h;rfl
 obtain ⟨p,ts,z,rfl,hs,nd,hz,q⟩:=h
 refine ⟨_,(@pss_one _ _ _ (@ps_ret _ _ _ _ (@pe_ix _ _ _ _ _ _ _ ix_tup (pe_methS Z5 T.Z4 hr (passS pass0) (pv 0) (pa_cons (pv 1) pa_nil)) pe_int (fun _ _=>rfl)))),?_⟩
 walk_at "st"
 obtain ⟨dx,d,kvs,h1,h2,h3,h4,h5⟩:=StockAt.has hs
 walk_at "go"
 refine ⟨dx,flds d,h1,by rfl,?_⟩
 walk_at "go"
 refine ⟨ts,hs,nd,hz,fun i t ht e a ha=>?_⟩
 subst e
 refine ixT_of ha rfl ?_
 rw [rm_at nd ht]at q
 exact q
theorem Z1t{f:Addr}{fd:FuncData}(F:Fun K "cost_of" "Stock.cost_of" Zr f fd)(T:Txt K mg Z0)(Z5:DefM P w K mg base CX0 1 Z0 "thing_of" ["self","name"] (sp32_thing K Z0)):FnOk P w K mg base CX0 2 f fd ["self","name"] (sp41_cost K Z0):=by
 have sc:FnScope ["self","name"] ["self","name"] (defScope Zr):=by walk_at "sc"
 refine F.ok sc (fun vs H Q E h=>?_) (fun cdv A outer s H vs Q E hr h=>?_)
 · obtain ⟨_,_,_,rfl,_⟩:=h;rfl
 obtain ⟨p,ts,z,rfl,hs,nd,hz,q⟩:=h
 refine ⟨_,(@pss_one _ _ _ (@ps_ret _ _ _ _ (@pe_ix _ _ _ _ _ _ _ ix_tup (pe_methS Z5 T.Z4 hr (passS pass0) (pv 0) (pa_cons (pv 1) pa_nil)) pe_int (fun _ _=>rfl)))),?_⟩
 walk_at "st"
 obtain ⟨dx,d,kvs,h1,h2,h3,h4,h5⟩:=StockAt.has hs
 walk_at "go"
 refine ⟨dx,flds d,h1,by rfl,?_⟩
 walk_at "go"
 refine ⟨ts,hs,nd,hz,fun i t ht e a ha=>?_⟩
 subst e
 refine ixT_of ha rfl ?_
 rw [cst_at nd ht]at q
 exact q
theorem Z2f{f:Addr}{fd:FuncData}(F:Fun K "check_asks" "check_asks" Z0j f fd)(T:Txt K mg Z0)(Zy:Def P w K mg base CX0 3 "check_places" ["places"] (sp32_check))(Z0x:DefM P w K mg base CX0 1 Z0 "has" ["self","name"] (sp_has K Z0))(Z6:DefM P w K mg base CX0 2 Z0 "room_of" ["self","name"] (sp32_room K Z0)):FnOk P w K mg base CX0 4 f fd ["stock","asks","places"] (sp41_asks K Z0):=by
 have sc:FnScope ["stock","asks","places","number","name"] ["stock","asks","places"] (defScope Z0j):=by walk_at "sc"
 refine F.ok sc (fun vs H Q E h=>?_) (fun cdv A outer s H vs Q E hr h=>?_)
 · obtain ⟨_,_,_,_,_,rfl,_⟩:=h;rfl
 obtain ⟨p,a,pl,ts,ys,rfl,hs,nd,hS,hl,hin,hw,h1,h2,q⟩:=h
 refine ⟨_,(@pss_cons _ _ _ _ _ (ps_expr (pe_callD Zy hr rfl pass0 (pa_cons (pv 2) pa_nil)))
  (@pss_cons _ _ _ _ _ (ps_if (pt_cmpR op_gt (pe_callB call_len_seq rfl T.Z3 PySem.boot_len (pa_cons (pv 1) pa_nil)) (pe_gint rfl T.Zk) (nomark _))
   (@pss_one _ _ _ ps_never)
   pss_nil)
  (@pss_cons _ _ _ _ _ (ps_for PassesOwn.never rfl (pi_enum rfl T.Z8 (pa_cons (pv 1) pa_nil)) (pg_tup rfl (pgs_cons (pg_name (i:=3) sc.nd rfl (Or.inl rfl)) (pgs_cons (pg_name (i:=4) sc.nd rfl (Or.inl rfl)) pgs_nil)))
   (@pss_cons _ _ _ _ _ (ps_if (pt_not (pt_val (pe_methS Z0x T.Z4 hr (passS pass0) (pv 0) (pa_cons (pv 4) pa_nil))))
    (@pss_one _ _ _ ps_never)
    pss_nil)
   (@pss_one _ _ _ (ps_if (pt_cmpR op_gt (pe_methS Z6 T.Z4 hr (passS pass0) (pv 0) (pa_cons (pv 4) pa_nil)) (pv 2) (nomark _))
    (@pss_one _ _ _ ps_never)
    pss_nil))))
  (@pss_one _ _ _ (@ps_ret _ _ _ _ pe_bl))))),?_⟩
 walk_at "st"
 have line:=line_val
 walk_at "go"
 rw [List.length_map,if_neg (by omega)]
 walk_at "go"
 refine ⟨⟨_,hS⟩,?_⟩
 rename_i rest hrest
 refine forE_by (xs:=ys.map V.str) (fun i σ H'=>∃v3 v4,σ=[some (V.ref p),some (V.ref a),some (V.int pl),v3,v4]∧Same H H') ⟨none,none,rfl,Same.refl _⟩ (fun i σ H' _ ⟨v3,v4,_,sm⟩=>sm.seq hS) ?_ ?_
 · rintro i x σ H' t hx ⟨v3,v4,rfl,sm⟩ ht
   rw [List.getElem?_map]at hx
   cases hy:ys[i]? with
   | none=>rw [hy]at hx;cases hx
   | some y=>
    rw [hy]at hx
    cases hx
    have hyin:=hin y (List.mem_of_getElem? hy)
    walk_at "go"
    refine ⟨_,SqT.of upd_same,rfl,_,_,rfl,_,_,rfl,rfl,?_⟩
    have sm2:=sm.trans (Same.new (o:= .tup [.int i,.str y]) ht)
    generalize upd H' t (.tup [.int i,.str y])=H2 at sm2 ⊢
    have hs2:=StockAt.same sm2 hs
    obtain ⟨dx,d,kvs,g1,g2,_⟩:=StockAt.has hs2
    walk_at "go"
    refine ⟨dx,flds d,g1,by rfl,ts,hs2,?_⟩
    rw [if_neg (fun h=>h hyin)]
    walk_at "go"
    refine ⟨dx,flds d,g1,by rfl,ts,hs2,nd,hyin,?_⟩
    rw [if_neg (by have:=hw y (List.mem_of_getElem? hy);omega)]
    exact sm2
 · rintro σ H' ⟨v3,v4,rfl,sm⟩
   walk_at "go"
   exact q _ sm
theorem Z2p{f:Addr}{fd:FuncData}(F:Fun K "worths_of" "worths_of" Z0v f fd)(T:Txt K mg Z0):FnOk P w K mg base CX0 1 f fd ["asks"] (sp47_worths K):=by
 have sc:FnScope ["asks","worths","worth","name"] ["asks"] (defScope Z0v):=by walk_at "sc"
 refine F.ok sc (fun vs H Q E h=>?_) (fun cdv A outer s H vs Q E hr h=>?_)
 · obtain ⟨_,_,rfl,_⟩:=h;rfl
 obtain ⟨a,ys,rfl,hS,hl,q⟩:=h
 refine ⟨_,(@pss_cons _ _ _ _ _ (ps_set (i:=1) sc.nd rfl (Or.inl rfl) pe_dnewK)
  (@pss_cons _ _ _ _ _ (ps_set (i:=2) sc.nd rfl (Or.inl rfl) pe_int)
  (@pss_cons _ _ _ _ _ (ps_for PassesOwn.never rfl (pi_list (pv 0)) (pg_name (i:=3) sc.nd rfl (Or.inl rfl))
   (@pss_one _ _ _ (ps_if (pt_cmp (pc_dnotin (hu_of hr) (pv 3) (pv 1)))
    (@pss_cons _ _ _ _ _ (ps_dput (hu_of hr) (pv 1) (pv 3) (pv 2) rfl)
    (@pss_one _ _ _ (ps_aug (i:=2) sc.nd rfl (Or.inl rfl) pe_int ip_mul)))
    pss_nil)))
  (@pss_one _ _ _ (@ps_ret _ _ _ _ (pv 1)))))),?_⟩
 walk_at "st"
 have line:=line_val
 walk_at "go"
 intro d hd
 have s1:Same H (upd H d (.dK [])):=Same.new hd
 have g1:upd H d (.dK []) d=some (.dK (kvN (dis (ys.take 0)) (fun _=>0))):=upd_same
 generalize upd H d (.dK [])=H1 at s1 g1 ⊢
 rename_i rest hrest
 subst hrest
 walk_at "go"
 rename_i rest hrest
 subst hrest
 walk_at "go"
 refine ⟨⟨_,s1.seq hS⟩,?_⟩
 refine forL_by (xs:=ys.map V.str) (fun i σ H'=>∃(R:Str→Int) (v3:Option V),σ=[some (V.ref a),some (V.ref d),some (V.int (2 ^ (dis (ys.take i)).length)),v3]∧Same H H'∧H' d=some (.dK (kvN (dis (ys.take i)) R))∧WtI (dis (ys.take i)) R) ⟨fun _=>0,none,rfl,s1,g1,fun j z h=>by cases h⟩ (fun i σ H' _ ⟨_,_,_,sm,_⟩=>sm.seq hS) ?_ ?_
 · rintro i x σ H' hx ⟨R,v3,rfl,sm,e5,e6⟩
   rw [List.getElem?_map]at hx
   cases hy:ys[i]? with
   | none=>rw [hy]at hx;cases hx
   | some y=>
   rw [hy]at hx
   cases hx
   have hi:=(List.getElem?_eq_some_iff.mp hy).1
   have hg:ys.getD i Str.empty=y:=by rw [List.getD_eq_getElem?_getD,hy];rfl
   have hdt:dis (ys.take (i+1))=dis1 (dis (ys.take i)) y∧True:=⟨by rw [dis_take hi,hg],trivial⟩
   have hlen:=len_dis_le ys i
   rw [hdt.1]
   generalize dis (ys.take i)=D at e5 e6 hlen
   walk_at "go"
   refine ⟨_,DGet.k (k:=Sum.inr y) e5,?_⟩
   by_cases hin:y∈D
   · rw [kvN_val hin,if_neg (by simp)]
     have ed:dis1 D y=D:=if_pos hin
     rw [ed]
     exact ⟨rfl,sm,R,e5,e6⟩
   · rw [kvN_none hin,if_pos (by rfl)]
     have ed:dis1 D y=D++[y]:=if_neg hin
     rw [ed]
     walk_at "go"
     have hput:=DPut.k (k:=Sum.inr y) (v:=V.int (2 ^ D.length)) e5 (by rw [kvN_len];omega)
     rw [kvN_snoc hin]at hput
     refine ⟨_,hput,?_⟩
     rename_i rest hrest
     subst hrest
     walk_at "go"
     refine ⟨?_,same_upd sm hd,_,upd_same,wt_snoc hin e6⟩
     rw [List.length_append]
     exact (Int.pow_succ ..).symm
 · rintro σ H' ⟨R,v3,rfl,sm,e5,e6⟩
   rw [List.length_map,List.take_length]at e5 e6
   walk_at "go"
   exact q d R H' sm hd e5 e6
theorem Z1u{f:Addr}{fd:FuncData}(F:Fun K "rooms_of_sets" "rooms_of_sets" Zs f fd)(T:Txt K mg Z0)(Z6:DefM P w K mg base CX0 2 Z0 "room_of" ["self","name"] (sp32_room K Z0)):FnOk P w K mg base CX0 3 f fd ["stock","worths"] (sp47_rooms K Z0):=by
 have sc:FnScope ["stock","worths","rooms","name","room"] ["stock","worths"] (defScope Zs):=by walk_at "sc"
 refine F.ok sc (fun vs H Q E h=>?_) (fun cdv A outer s H vs Q E hr h=>?_)
 · obtain ⟨_,_,_,_,_,rfl,_⟩:=h;rfl
 obtain ⟨st,d,ts,D,W,rfl,hs,nd,hD,hd,hl,q⟩:=h
 refine ⟨_,(@pss_cons _ _ _ _ _ (ps_set (i:=2) sc.nd rfl (Or.inl rfl) (@pe_lst _ _ _ _ (pa_cons pe_int pa_nil)))
  (@pss_cons _ _ _ _ _ (ps_thaw (ps_for PassesOwn.never rfl (pi_dict (pv 1)) (pg_name (i:=3) sc.nd rfl (Or.inl rfl))
   (@pss_cons _ _ _ _ _ (ps_set (i:=4) sc.nd rfl (Or.inr rfl) (pe_methS Z6 T.Z4 hr (passS pass0) (pv 0) (pa_cons (pv 3) pa_nil)))
   (@pss_one _ _ _ (ps_set (i:=2) sc.nd rfl (Or.inl rfl) (pe_op op_cat (pv 2) (pe_comp1 "without" [4] rfl rfl (pi_list (pv 2)) (fun b=>(pe_op op_add (pv 0) (pv 1))))))))))
  (@pss_one _ _ _ (@ps_ret _ _ _ _ (pv 2))))),?_⟩
 walk_at "st"
 have line:=line_val
 walk_at "go"
 intro r0 hr0
 have s1:Same H (upd H r0 (.lst [V.int 0])):=Same.new hr0
 have g1:upd H r0 (.lst [V.int 0]) r0=some (.lst ((rmsL ([]:List Int)).map V.int)):=upd_same
 generalize upd H r0 (.lst [V.int 0])=H1 at s1 g1 ⊢
 have hd1:=s1 _ _ hd
 rename_i rest hrest
 subst hrest
 walk_at "go"
 refine ⟨_,.inl ⟨hd1,fun o=>?_⟩⟩
 have sb2:SameBut d H1 (upd H1 d (.frz o (.dK (kvN D W)))):=fun b u e nb=>by rw [upd_ne nb];exact e
 have hd2:upd H1 d (.frz o (.dK (kvN D W))) d=some (.frz o (.dK (kvN D W))):=upd_same
 have nr:r0≠d:=fun e=>by rw [e,hd1]at g1;cases g1
 have g2':upd H1 d (.frz o (.dK (kvN D W))) r0=some (.lst ((rmsL ([]:List Int)).map V.int)):=by rw [upd_ne nr];exact g1
 have hs2:=hs _ (fun b u e nb=>sb2 b u (s1 _ _ e) nb)
 generalize upd H1 d (.frz o (.dK (kvN D W)))=H2 at sb2 hd2 g2' hs2 ⊢
 rename_i rest hrest
 refine forK_by (kvs:=kvN D W) (fun i σ H'=>∃(r:Addr) (v3 v4:Option V),σ=[some (V.ref st),some (V.ref d),some (V.ref r),v3,v4]∧Same H2 H'∧H r=none∧H' r=some (.lst ((rmsL ((D.take i).map (rm ts))).map V.int))) ⟨r0,none,none,rfl,Same.refl _,hr0,g2'⟩ (fun i σ H' _ ⟨_,_,_,_,sm,_⟩=>sm _ _ hd2) ?_ ?_
 · clear hrest
   rintro i x σ H' hx ⟨r,v3,v4,rfl,sm,hr,hr'⟩
   have hx2:∃z,D[i]?=some z∧x=(Sum.inr z,V.int (W z)):=by
    unfold kvN at hx
    rw [List.getElem?_map]at hx
    cases hz:D[i]? with
    | none=>rw [hz]at hx;cases hx
    | some z=>rw [hz]at hx;cases hx;exact ⟨z,rfl,rfl⟩
   obtain ⟨z,hz,rfl⟩:=hx2
   have hi:=(List.getElem?_eq_some_iff.mp hz).1
   have htk:(D.take (i+1)).map (rm ts)=(D.take i).map (rm ts)++[rm ts z]:=by rw [List.take_succ,hz,List.map_append];rfl
   have hs3:=hs2.same sm
   obtain ⟨dx,e,kvs,k1,k2,k3,k4,k5⟩:=StockAt.has hs3
   show gName 3 (V.str z) _ _ _
   walk_at "go"
   refine ⟨dx,_,k1,by rfl,ts,hs3,nd,hD z (List.mem_of_getElem? hz),?_⟩
   rename_i rest hrest
   subst hrest
   walk_at "go"
   have hlen:(rmsL ((D.take i).map (rm ts))).length≤64:=by
    rw [rms_len,List.length_map,List.length_take]
    exact Nat.le_trans (Nat.pow_le_pow_right (by decide) (show min i D.length≤6 by omega)) (by decide)
   refine ⟨⟨_,SqL.of hr'⟩,compL_pure (addV (rm ts z)) (SqL.of hr') (by rw [List.length_map];omega) (fun b x H'' Q' hx sm' q'=>?_) (fun D2 hD2=>?_)⟩
   · obtain ⟨x,hx,rfl⟩:=List.mem_map.mp hx
     walk_at "go"
     exact q'
   · rw [addV_list]
     have n1:r≠D2:=ne_of_none hr' hD2
     refine ⟨r,D2,_,_,rfl,rfl,by rw [upd_ne n1];exact hr',upd_same,by rw [List.length_map,List.length_map,List.length_map];omega,fun p hp=>⟨p,rfl,?_,?_,?_⟩⟩
     · exact (sm.trans (Same.new hD2)).trans (Same.new hp)
     · have:=snone ((sm.trans (Same.new hD2))) hp
       cases e:H p with
       | none=>rfl
       | some u=>
        by_cases hpd:p=d
        · rw [hpd,hd2]at this;cases this
        · rw [sb2 p u (s1 _ _ e) hpd]at this;cases this
     · rw [upd_same,htk,rms_snoc,List.map_append]
 · rintro σ H' ⟨r,v3,v4,rfl,sm,hr,hr'⟩
   rw [kvN_len,List.take_length]at hr'
   refine .inr ⟨d,o,_,sm _ _ hd2,fun o' u'=>?_,?_⟩
   · show H d≠_
     rw [hd]
     intro k
     cases k
   have nrd:r≠d:=fun e=>by rw [e,hd]at hr;cases hr
   have smF:Same H (upd H' d (.dK (kvN D W))):=fun b u e=>by
    by_cases hb:b=d
    · rw [hb,upd_same,← hd,← hb];exact e
    · rw [upd_ne hb];exact sm _ _ (sb2 b u (s1 _ _ e) hb)
   have hrF:upd H' d (.dK (kvN D W)) r=some (.lst ((rmsL (D.map (rm ts))).map V.int)):=by rw [upd_ne nrd];exact hr'
   generalize upd H' d (.dK (kvN D W))=H9 at smF hrF ⊢
   subst hrest
   walk_at "go"
   exact q r H9 smF hr hrF
theorem Z39{f:Addr}{fd:FuncData}(F:Fun K "is_in" "is_in" Z23 f fd)(T:Txt K mg Z0):FnOk P w K mg base CX0 1 f fd ["worth","held"] (sp47_in):=by
 have sc:FnScope ["worth","held"] ["worth","held"] (defScope Z23):=by walk_at "sc"
 refine F.ok sc (fun vs H Q E h=>?_) (fun cdv A outer s H vs Q E hr h=>?_)
 · obtain ⟨_,_,rfl,_⟩:=h;rfl
 obtain ⟨w',h,rfl,q⟩:=h
 refine ⟨_,(@pss_one _ _ _ (@ps_ret _ _ _ _ (pe_cmpR op_ne (pe_op op_and (pv 1) (pv 0)) pe_int (nomark _)))),?_⟩
 walk_at "st"
 walk_at "go"
 rw [show (!decide (Builtin.bitAnd h w'=0))=decide (Builtin.bitAnd h w'≠0) by simp]
 exact q
theorem Z2y{f:Addr}{fd:FuncData}(F:Fun K "has_all" "has_all" Z1a f fd)(T:Txt K mg Z0):FnOk P w K mg base CX0 1 f fd ["held","some"] (sp47_all):=by
 have sc:FnScope ["held","some"] ["held","some"] (defScope Z1a):=by walk_at "sc"
 refine F.ok sc (fun vs H Q E h=>?_) (fun cdv A outer s H vs Q E hr h=>?_)
 · obtain ⟨_,_,rfl,_⟩:=h;rfl
 obtain ⟨h,s',rfl,q⟩:=h
 refine ⟨_,(@pss_one _ _ _ (@ps_ret _ _ _ _ (pe_cmpR op_eq (pe_op op_and (pv 0) (pv 1)) (pv 1) (nomark _)))),?_⟩
 walk_at "st"
 walk_at "go"
 exact q
theorem Z2g{f:Addr}{fd:FuncData}(F:Fun K "known_ways" "known_ways" Z0k f fd)(T:Txt K mg Z0):FnOk P w K mg base CX0 1 f fd ["ways"] (sp47_known):=by
 have sc:FnScope ["ways"] ["ways"] (defScope Z0k):=by walk_at "sc"
 refine F.ok sc (fun vs H Q E h=>?_) (fun cdv A outer s H vs Q E hr h=>?_)
 · obtain ⟨_,_,rfl,_⟩:=h;rfl
 obtain ⟨l,es,rfl,hW,hl,q⟩:=h
 refine ⟨_,(@pss_one _ _ _ (@ps_ret _ _ _ _ (pe_comp2I "held" "way" [] rfl rfl (pi_enum rfl T.Z8 (pa_cons (pv 0) pa_nil)) (fun b=>(pt_cmpR op_notN (pv 1) pe_non (nomark _))) (fun b=>(pe_tup (pa_cons (@pe_ix _ _ _ _ _ _ _ ix_tup (pv 1) pe_int (fun _ _=>rfl)) (pa_cons (pv 0) pa_nil))))))),?_⟩
 walk_at "st"
 have line:=line_val
 obtain ⟨vs,hv,hvl,he⟩:=hW
 walk_at "go"
 refine ⟨⟨_,SqL.of hv⟩,compE_pairs (fun i=>(es.getD i none).isSome) (fun i=>(((es.getD i none).getD (0,0)).1,(i:Int))) (SqL.of hv) (by omega) (fun b i x H' QT hx sm qt=>?_) (fun b i x H' Q' hx hp sm q'=>?_) (fun D as H' hD sm hD' hP=>?_)⟩
 · have hi:=(List.getElem?_eq_some_iff.mp hx).1
   have hee:=List.getElem?_eq_getElem (show i < es.length by omega)
   have hen:=he i x _ hx hee
   have eg:es.getD i none=es[i]∧True:=⟨by rw [List.getD_eq_getElem?_getD,hee];rfl,trivial⟩
   rw [eg.1]at qt
   walk_at "go"
   cases e:es[i] with
   | none=>
    rw [e]at hen qt
    have hx0:x=V.non:=hen
    rw [show (!decide (x=V.non))=false by rw [hx0];rfl]
    exact qt _ (Same.refl _)
   | some p=>
    rw [e]at hen qt
    obtain ⟨a,ha,_⟩:=hen
    rw [show (!decide (x=V.non))=true by rw [ha];rfl]
    exact qt _ (Same.refl _)
 · have hi:=(List.getElem?_eq_some_iff.mp hx).1
   have hee:=List.getElem?_eq_getElem (show i < es.length by omega)
   have hen:=he i x _ hx hee
   have eg:es.getD i none=es[i]∧True:=⟨by rw [List.getD_eq_getElem?_getD,hee];rfl,trivial⟩
   rw [eg.1]at hp q'
   cases e:es[i] with
   | none=>rw [e]at hp;cases hp
   | some p=>
    rw [e]at hen q'
    obtain ⟨a,rfl,ha⟩:=hen
    walk_at "go"
    refine ixT_of (SqT.of (sm _ _ ha)) (v:=V.int p.1) (atI_nat (j:=0) rfl) ?_
    exact ⟨by omega,fun t ht=>q' t _ (Same.new ht) upd_same⟩
 · have e:vs.length=es.length:=hvl
   rw [e]at hP
   exact q D as H' sm hD hD' hP
theorem Z26{f:Addr}{fd:FuncData}(F:Fun K "served_ways" "served_ways" Z03 f fd)(T:Txt K mg Z0)(Zc:Def P w K mg base CX0 1 "known_ways" ["ways"] (sp47_known))(Zd:Def P w K mg base CX0 1 "is_in" ["worth","held"] (sp47_in)):FnOk P w K mg base CX0 2 f fd ["ways","worth","cost"] (sp47_served):=by
 have sc:FnScope ["ways","worth","cost"] ["ways","worth","cost"] (defScope Z03):=by walk_at "sc"
 refine F.ok sc (fun vs H Q E h=>?_) (fun cdv A outer s H vs Q E hr h=>?_)
 · obtain ⟨_,_,_,_,rfl,_⟩:=h;rfl
 obtain ⟨l,w',c,es,rfl,hW,hl,q⟩:=h
 refine ⟨_,(@pss_one _ _ _ (@ps_ret _ _ _ _ (pe_comp2 "paid" "held" [1,2] rfl rfl (pi_list (pe_callD Zc hr rfl pass0 (pa_cons (pv 0) pa_nil))) (fun b=>(pe_tup (pa_cons (pe_ifExp (pt_val (pe_callD Zd hr rfl pass0 (pa_cons (pv 2) (pa_cons (pv 1) pa_nil)))) (pv 0) (pe_op op_add (pv 0) (pv 3))) (pa_cons (pv 1) pa_nil))))))),?_⟩
 walk_at "st"
 have line:=line_val
 walk_at "go"
 refine ⟨es,hW,hl,fun D as H1 sm1 hD hD1 hP=>?_⟩
 have hlen:as.length≤64:=by
  rw [hP.1]
  unfold knP
  rw [List.length_map]
  exact Nat.le_trans (List.length_filter_le _ _) (by rw [List.length_range];exact hl)
 refine ⟨⟨_,SqL.of hD1⟩,compL_pairs (fun p=>(if Builtin.bitAnd p.2 w'≠0 then p.1 else p.1+c,p.2)) (SqL.of hD1) hP.at (by omega) (fun b x H' Q' hx sm q'=>?_) (fun D2 bs H2 hD2 sm2 h2 hP2=>?_)⟩
 · walk_at "go"
   split
   · rename_i h
     exact ⟨by omega,fun t ht=>q' t _ (Same.new ht) (by show _=some (HO.tup [V.int (if Builtin.bitAnd x.2 w'≠0 then x.1 else x.1+c),V.int x.2]);rw [if_pos h];exact upd_same)⟩
   · rename_i h
     exact ⟨by omega,fun t ht=>q' t _ (Same.new ht) (by show _=some (HO.tup [V.int (if Builtin.bitAnd x.2 w'≠0 then x.1 else x.1+c),V.int x.2]);rw [if_neg h];exact upd_same)⟩
 · exact q D2 bs H2 (sm1.trans sm2) (snone sm1 hD2) h2 hP2
theorem Z27{f:Addr}{fd:FuncData}(F:Fun K "ways_behind" "ways_behind" Z04 f fd)(T:Txt K mg Z0)(Z09:Def P w K mg base CX0 2 "served_ways" ["ways","worth","cost"] (sp47_served))(Zd:Def P w K mg base CX0 1 "is_in" ["worth","held"] (sp47_in))(Z1i:Def P w K mg base CX0 1 "has_all" ["held","some"] (sp47_all)):FnOk P w K mg base CX0 3 f fd ["ways","rooms","places","worth","cost"] (sp47_behind K):=by
 have sc:FnScope ["ways","rooms","places","worth","cost","served","behind","held","room"] ["ways","rooms","places","worth","cost"] (defScope Z04):=by walk_at "sc"
 refine F.ok sc (fun vs H Q E h=>?_) (fun cdv A outer s H vs Q E hr h=>?_)
 · obtain ⟨_,_,_,_,_,_,_,rfl,_⟩:=h;rfl
 obtain ⟨l,r,n,w',c,es,rs,rfl,hW,hl,hS,hrl,q⟩:=h
 refine ⟨_,(@pss_cons _ _ _ _ _ (ps_set (i:=5) sc.nd rfl (Or.inl rfl) (pe_callD Z09 hr rfl pass0 (pa_cons (pv 0) (pa_cons (pv 3) (pa_cons (pv 4) pa_nil)))))
  (@pss_cons _ _ _ _ _ (ps_set (i:=6) sc.nd rfl (Or.inl rfl) (@pe_lst _ _ _ _ pa_nil))
  (@pss_cons _ _ _ _ _ (ps_for PassesOwn.never rfl (pi_enum rfl T.Z8 (pa_cons (pv 1) pa_nil)) (pg_tup rfl (pgs_cons (pg_name (i:=7) sc.nd rfl (Or.inr rfl)) (pgs_cons (pg_name (i:=8) sc.nd rfl (Or.inl rfl)) pgs_nil)))
   (@pss_one _ _ _ (ps_if (PW.pt (pw_and (pt_val (pe_callD Zd hr rfl pass0 (pa_cons (pv 3) (pa_cons (pv 7) pa_nil)))) (pw_and1 (pt_cmpR op_le (pv 8) (pv 2) (nomark _)))))
    (@pss_one _ _ _ (ps_expr (pe_bm PySem.F.plainAttrs_list PySem.F.slot_list_append PySem.F.type_list_append mt_append (pv 6) (pa_cons (pe_minTD hr rfl T.Z10 (by first | rfl | decide+kernel) (pa_cons (pe_compI "way" [7,3] rfl rfl (pi_list (pv 5)) (fun b=>(pt_val (pe_callD Z1i hr rfl pass0 (pa_cons (@pe_ix _ _ _ _ _ _ _ ix_tup (pv 0) pe_int (fun _ _=>rfl)) (pa_cons (pe_op op_sub (pv 1) (pv 2)) pa_nil))))) (fun b=>(pv 0))) pa_nil) pe_non) pa_nil))))
    (@pss_one _ _ _ (ps_expr (pe_bm PySem.F.plainAttrs_list PySem.F.slot_list_append PySem.F.type_list_append mt_append (pv 6) (pa_cons pe_non pa_nil)))))))
  (@pss_one _ _ _ (@ps_ret _ _ _ _ (pv 6)))))),?_⟩
 walk_at "st"
 have line:=line_val
 walk_at "go"
 refine ⟨es,hW,hl,fun sv as H1 sm1 hsv hsv1 hP=>?_⟩
 have hlen:as.length≤64:=by
  rw [hP.1]
  unfold svP knP
  rw [List.length_map,List.length_map]
  exact Nat.le_trans (List.length_filter_le _ _) (by rw [List.length_range];exact hl)
 rename_i rest hrest
 subst hrest
 walk_at "go"
 intro bh hbh
 have s2:Same H1 (upd H1 bh (.lst [])):=Same.new hbh
 have g2':WaysH (upd H1 bh (.lst [])) bh ([]:List Ent):=⟨[],upd_same,rfl,fun i v e h=>by simp at h⟩
 have hbh0:=snone sm1 hbh
 have nsv:sv≠bh:=ne_of_none hsv1 hbh
 have sm02:=sm1.trans s2
 have hsv2:=s2 _ _ hsv1
 have hP2:=hP.same s2
 generalize upd H1 bh (.lst [])=H2 at s2 g2' sm02 hsv2 hP2 ⊢
 rename_i rest hrest
 subst hrest
 walk_at "go"
 refine ⟨⟨_,sm02.seq hS⟩,?_⟩
 rename_i rest hrest
 refine forE_by (xs:=rs.map V.int) (fun i σ H'=>∃v7 v8:Option V,σ=[some (V.ref l),some (V.ref r),some (V.int n),some (V.int w'),some (V.int c),some (V.ref sv),some (V.ref bh),v7,v8]∧Same H H'∧H' sv=some (.lst (as.map V.ref))∧PairsH H' as (svP es w' c)∧WaysH H' bh ((bhE es rs n w' c).take i)) ⟨none,none,rfl,sm02,hsv2,hP2,by rw [List.take_zero];exact g2'⟩ (fun i σ H' _ h_=>by obtain ⟨_,_,_,sm,_⟩:=h_;exact sm.seq hS) ?_ ?_
 · clear hrest hP hP2 hsv1 hsv2 g2' sm02 s2
   rintro i x σ H' t hx ⟨v7,v8,rfl,sm,hsv',hP',hbw⟩ ht
   rw [List.getElem?_map]at hx
   cases hr0:rs[i]? with
   | none=>rw [hr0]at hx;cases hx
   | some ri=>
   rw [hr0]at hx
   cases hx
   have hi:=(List.getElem?_eq_some_iff.mp hr0).1
   have hgi:rs.getD i 0=ri:=by rw [List.getD_eq_getElem?_getD,hr0];rfl
   walk_at "go"
   refine ⟨_,SqT.of upd_same,rfl,_,_,rfl,_,_,rfl,rfl,?_⟩
   have sm3:Same H' (upd H' t (.tup [.int i,.int ri])):=Same.new ht
   have smt:=sm.trans sm3
   have hsv3:=sm3 _ _ hsv'
   have hP3:=hP'.same sm3
   have hb3:=hbw.same sm3
   generalize upd H' t (.tup [.int i,.int ri])=H3 at sm3 smt hsv3 hP3 hb3 ⊢
   clear sm sm3 hsv' hP' hbw ht
   have htk:(bhE es rs n w' c).take (i+1)=(bhE es rs n w' c).take i++[if Builtin.bitAnd (i:Int) w'≠0∧ri≤n then leastP ((svP es w' c).filter (alP ((i:Int) - w'))) else none]:=by
    rw [List.take_succ,bh_at hi,hgi];rfl
   have app:∀(v:V) (H4:Hp) (R:V→Hp→Prop),Same H3 H4→EnH H4 v (if Builtin.bitAnd (i:Int) w'≠0∧ri≤n then leastP ((svP es w' c).filter (alP ((i:Int) - w'))) else none)→(∀H5,Same H H5→H5 sv=some (.lst (as.map V.ref))→PairsH H5 as (svP es w' c)→WaysH H5 bh ((bhE es rs n w' c).take (i+1))→R .non H5)→rAppend (V.ref bh) [v] H4 R:=by
    intro v H4 R sm4 hv k
    obtain ⟨vs,h1,h2,h3⟩:=hb3.same sm4
    have hvl:vs.length≤64:=by rw [h2,List.length_take];omega
    refine ⟨bh,vs,v,rfl,rfl,h1,by omega,k _ (same_upd (smt.trans sm4) hbh0) (by rw [upd_ne nsv];exact sm4 _ _ hsv3) ((hP3.same sm4).off h1) ?_⟩
    rw [htk]
    refine ⟨vs++[v],upd_same,by rw [List.length_append,List.length_append,h2];rfl,fun j u e hu he=>?_⟩
    have off:∀{u:V} {e:Ent},EnH H4 u e→EnH (upd H4 bh (.lst (vs++[v]))) u e:=fun {u e} hh=>by
     cases e with
     | none=>exact hh
     | some p=>
      obtain ⟨a',ea,ta⟩:=hh
      exact ⟨a',ea,by rw [upd_ne (fun z=>by rw [z,h1]at ta;cases ta)];exact ta⟩
    by_cases hj:j < vs.length
    · rw [List.getElem?_append_left hj]at hu
      rw [List.getElem?_append_left (by rw [← h2];exact hj)]at he
      exact off (h3 j u e hu he)
    · rw [List.getElem?_append_right (by omega)]at hu
      rw [List.getElem?_append_right (by rw [← h2];omega)]at he
      have h0:j - vs.length=0:=by have:=(List.getElem?_eq_some_iff.mp hu).1;simp at this;omega
      rw [h0]at hu
      rw [← h2,h0]at he
      cases hu
      cases he
      exact off hv
   obtain ⟨vs0,hb0,_,_⟩:=id hb3
   walk_at "go"
   by_cases c1:Builtin.bitAnd (i:Int) w'≠0
   · rw [if_pos c1]
     by_cases c2:ri≤n
     · rw [if_pos c2]
       have eE:(if Builtin.bitAnd (i:Int) w'≠0∧ri≤n then leastP ((svP es w' c).filter (alP ((i:Int) - w'))) else none)=leastP ((svP es w' c).filter (alP ((i:Int) - w')))∧True:=⟨if_pos ⟨c1,c2⟩,trivial⟩
       rw [eE.1]at app
       have hpl:=hP3.1
       refine ⟨.inl ⟨rfl,_,SqL.of hb0⟩,⟨_,SqL.of hsv3⟩,compL_ifx (fun j=>alP ((i:Int) - w') ((svP es w' c).getD j (0,0))) (SqL.of hsv3) (by rw [List.length_map];omega) (fun b j x H5 QT hx sm5 qt=>?_) (fun b j x H5 Q' hx hp sm5 q'=>?_) (fun D2 H5 hD2 sm5 hD5=>?_)⟩
       · rw [List.getElem?_map]at hx
         cases ha:as[j]? with
         | none=>rw [ha]at hx;cases hx
         | some a'=>
         rw [ha]at hx
         cases hx
         have hj:=(List.getElem?_eq_some_iff.mp ha).1
         have hpe:=List.getElem?_eq_getElem (show j < (svP es w' c).length by omega)
         have eg:(svP es w' c).getD j (0,0)=(svP es w' c)[j]∧True:=⟨by rw [List.getD_eq_getElem?_getD,hpe];rfl,trivial⟩
         rw [eg.1]at qt
         walk_at "go"
         exact ixT_of (SqT.of (sm5 _ _ (hP3.2 j a' _ ha hpe))) (v:=V.int (svP es w' c)[j].2) (atI_nat (j:=1) rfl) ⟨_,rfl,qt _ (Same.refl _)⟩
       · walk_at "go"
         exact q' _ (Same.refl _)
       · rw [List.length_map]at hD5
         have hPf:PairsH H5 (((List.range as.length).filter fun j=>alP ((i:Int) - w') ((svP es w' c).getD j (0,0))).map fun j=>as.getD j 0) ((svP es w' c).filter (alP ((i:Int) - w'))):=by
          rw [filt_ix (0,0) (alP ((i:Int) - w')) (svP es w' c),← hpl]
          refine ⟨by rw [List.length_map,List.length_map],fun k a' p ha hp=>?_⟩
          rw [List.getElem?_map]at ha hp
          cases hk:((List.range as.length).filter fun j=>alP ((i:Int) - w') ((svP es w' c).getD j (0,0)))[k]? with
          | none=>rw [hk]at ha;cases ha
          | some j=>
          rw [hk]at ha hp
          cases ha
          cases hp
          have hj:=List.mem_range.mp (List.mem_filter.mp (List.mem_of_getElem? hk)).1
          have ha2:=List.getElem?_eq_getElem hj
          have hp2:=List.getElem?_eq_getElem (show j < (svP es w' c).length by omega)
          have e1:as.getD j 0=as[j]:=by rw [List.getD_eq_getElem?_getD,ha2];rfl
          have e2:(svP es w' c).getD j (0,0)=(svP es w' c)[j]:=by rw [List.getD_eq_getElem?_getD,hp2];rfl
          show H5 (as.getD j 0)=some (HO.tup [V.int ((svP es w' c).getD j (0,0)).1,V.int ((svP es w' c).getD j (0,0)).2])
          rw [e1,e2]
          exact sm5 _ _ (hP3.2 j _ _ ha2 hp2)
         have hDf:H5 D2=some (.lst ((((List.range as.length).filter fun j=>alP ((i:Int) - w') ((svP es w' c).getD j (0,0))).map fun j=>as.getD j 0).map V.ref)):=by
          rw [hD5]
          congr 2
          rw [List.map_map]
          refine List.map_congr_left fun j hj=>?_
          have hj:=List.mem_range.mp (List.mem_filter.mp hj).1
          show (as.map V.ref).getD j .non=V.ref (as.getD j 0)
          rw [List.getD_eq_getElem?_getD,List.getD_eq_getElem?_getD,List.getElem?_map,List.getElem?_eq_getElem hj];rfl
         generalize (((List.range as.length).filter fun j=>alP ((i:Int) - w') ((svP es w' c).getD j (0,0))).map fun j=>as.getD j 0)=bs at hPf hDf
         refine ⟨D2,rfl,bs,SqL.of hDf,_,hPf.at,fun e=>?_,fun k a' p ha hp hm=>?_⟩
         · have e2:(svP es w' c).filter (alP ((i:Int) - w'))=[]:=by
            have:=hPf.1
            rw [e]at this
            exact List.length_eq_zero_iff.mp this.symm
           exact app _ _ _ sm5 (by rw [e2];rfl) fun H6 a1 a2 a3 a4=>⟨a1,a2,a3,a4⟩
         · have e2:leastP ((svP es w' c).filter (alP ((i:Int) - w')))=some p:=least_of (List.mem_of_getElem? hp) hm
           exact app _ _ _ sm5 (by rw [e2];exact ⟨a',rfl,hPf.2 k a' p ha hp⟩) fun H6 a1 a2 a3 a4=>⟨a1,a2,a3,a4⟩
     · rw [if_neg c2]
       rw [if_neg (fun k=>c2 k.2)]at app
       exact ⟨.inl ⟨rfl,_,SqL.of hb0⟩,app _ _ _ (Same.refl _) rfl fun H6 a1 a2 a3 a4=>⟨a1,a2,a3,a4⟩⟩
   · rw [if_neg c1]
     rw [if_neg (fun k=>c1 k.1)]at app
     exact ⟨.inl ⟨rfl,_,SqL.of hb0⟩,app _ _ _ (Same.refl _) rfl fun H6 a1 a2 a3 a4=>⟨a1,a2,a3,a4⟩⟩
 · rintro σ H' ⟨v7,v8,rfl,sm,hsv',hP',hbw⟩
   rw [List.length_map,List.take_of_length_le (by rw [bh_len];omega)]at hbw
   subst hrest
   walk_at "go"
   exact q bh H' sm hbh0 hbw
theorem Z2u{f:Addr}{fd:FuncData}(F:Fun K "all_ways" "all_ways" Z13 f fd)(T:Txt K mg Z0)(Zt:Def P w K mg base CX0 3 "rooms_of_sets" ["stock","worths"] (sp47_rooms K Z0))(Z0a:Def P w K mg base CX0 3 "ways_behind" ["ways","rooms","places","worth","cost"] (sp47_behind K))(Zu:DefM P w K mg base CX0 2 Z0 "cost_of" ["self","name"] (sp41_cost K Z0)):FnOk P w K mg base CX0 4 f fd ["stock","asks","places","worths"] (sp47_tab K Z0):=by
 have sc:FnScope ["stock","asks","places","worths","rooms","told","name"] ["stock","asks","places","worths"] (defScope Z13):=by walk_at "sc"
 refine F.ok sc (fun vs H Q E h=>?_) (fun cdv A outer s H vs Q E hr h=>?_)
 · obtain ⟨_,_,_,_,_,_,_,_,rfl,_⟩:=h;rfl
 obtain ⟨st,a,d,n,ts,ys,D,W,rfl,hs,nd,hS,hl,hin,hD,hd,hl6,q⟩:=h
 refine ⟨_,(@pss_cons _ _ _ _ _ (ps_set (i:=4) sc.nd rfl (Or.inl rfl) (pe_callD Zt hr rfl pass0 (pa_cons (pv 0) (pa_cons (pv 3) pa_nil))))
  (@pss_cons _ _ _ _ _ (ps_set (i:=5) sc.nd rfl (Or.inl rfl) (@pe_lst _ _ _ _ (pa_cons (@pe_lst _ _ _ _ (pa_cons (pe_tup (pa_cons pe_int (pa_cons pe_int pa_nil))) pa_nil)) pa_nil)))
  (@pss_cons _ _ _ _ _ (ps_for PassesOwn.never rfl (pi_list (pv 1)) (pg_name (i:=6) sc.nd rfl (Or.inl rfl))
   (@pss_one _ _ _ (ps_expr (pe_bm PySem.F.plainAttrs_list PySem.F.slot_list_append PySem.F.type_list_append mt_append (pv 5) (pa_cons (pe_callD Z0a hr rfl pass0 (pa_cons (@pe_ix _ _ _ _ _ _ _ ix_list (pv 5) (pe_un un_neg pe_int) (fun _ _=>rfl)) (pa_cons (pv 4) (pa_cons (pv 2) (pa_cons (pe_dget (hu_of hr) (pv 3) (pv 6) (fun _ _=>rfl)) (pa_cons (pe_methS Zu T.Z4 hr (passS pass0) (pv 0) (pa_cons (pv 6) pa_nil)) pa_nil)))))) pa_nil)))))
  (@pss_one _ _ _ (@ps_ret _ _ _ _ (pv 5)))))),?_⟩
 walk_at "st"
 have line:=line_val
 walk_at "go"
 refine ⟨ts,hs,nd,D,hD,W,hd,hl6,fun rl H1 sm1 hrl hr1=>?_⟩
 rename_i rest hrest
 subst hrest
 walk_at "go"
 intro p hp
 refine ⟨by omega,fun p1 hp1=>⟨by omega,fun p2 hp2=>?_⟩⟩
 have t1:Same H1 (upd H1 p (.tup [V.int 0,V.int 0])):=Same.new hp
 have t2:=t1.trans (Same.new (o:= .lst [V.ref p]) hp1)
 have t3:=t2.trans (Same.new (o:= .lst [V.ref p1]) hp2)
 have n01:p≠p1:=ne_of_none upd_same hp1
 have n12:p1≠p2:=ne_of_none upd_same hp2
 have n02:p≠p2:=ne_of_none (by rw [upd_ne n01];exact upd_same) hp2
 have w0:WaysH (upd (upd (upd H1 p (.tup [V.int 0,V.int 0])) p1 (.lst [V.ref p])) p2 (.lst [V.ref p1])) p1 (tab (rmsL (D.map (rm ts))) n W (cst ts) ys 0):=⟨[V.ref p],by rw [upd_ne n12];exact upd_same,rfl,fun i v e hv he=>by
  match i with
  | 0=>
   cases hv
   cases he
   exact ⟨p,rfl,by rw [upd_ne n02,upd_ne n01];exact upd_same⟩
  | i+1=>cases hv⟩
 have l0:upd (upd (upd H1 p (.tup [V.int 0,V.int 0])) p1 (.lst [V.ref p])) p2 (.lst [V.ref p1]) p2=some (.lst ([p1].map V.ref)):=upd_same
 have hp2':=snone (sm1.trans t2) hp2
 have nrl:rl≠p2:=ne_of_none (t2 _ _ hr1) hp2
 have sm3:=sm1.trans t3
 have hrl3:=t3 _ _ hr1
 generalize upd (upd (upd H1 p (.tup [V.int 0,V.int 0])) p1 (.lst [V.ref p])) p2 (.lst [V.ref p1])=H3 at t3 w0 l0 sm3 hrl3 ⊢
 clear t1 t2 t3 hp hp1 hp2 n01 n02
 have hr64:(rmsL (D.map (rm ts))).length≤64:=by
  rw [rms_len,List.length_map]
  exact Nat.le_trans (Nat.pow_le_pow_right (by decide) hl6) (by decide)
 rename_i rest hrest
 subst hrest
 walk_at "go"
 refine ⟨⟨_,sm3.seq hS⟩,?_⟩
 rename_i rest hrest
 refine forL_by (xs:=ys.map V.str) (fun i σ H'=>∃v6:Option V,σ=[some (V.ref st),some (V.ref a),some (V.int n),some (V.ref d),some (V.ref rl),some (V.ref p2),v6]∧Same H H'∧H' rl=some (.lst ((rmsL (D.map (rm ts))).map V.int))∧∃as:List Addr,H' p2=some (.lst (as.map V.ref))∧as.length=i+1∧(∀a'∈as,a'≠p2)∧∀(j:Nat) (a':Addr),as[j]?=some a'→WaysH H' a' (tab (rmsL (D.map (rm ts))) n W (cst ts) ys j)) ⟨none,rfl,sm3,hrl3,[p1],l0,rfl,(fun a' h=>by rw [List.mem_singleton.mp h];exact n12),fun i a' h=>by match i with | 0=>(cases h;exact w0) | i+1=>cases h⟩ (fun i σ H' _ ⟨_,_,sm,_⟩=>sm.seq hS) ?_ ?_
 · clear hrest w0 l0 sm3 hrl3
   rintro i x σ H' hx ⟨v6,rfl,sm,hrl',as,hl1,hal,hne,hw⟩
   rw [List.getElem?_map]at hx
   cases hy:ys[i]? with
   | none=>rw [hy]at hx;cases hx
   | some y=>
   rw [hy]at hx
   cases hx
   have hi:=(List.getElem?_eq_some_iff.mp hy).1
   have hyD:=hin y (List.mem_of_getElem? hy)
   have hs':=hs H' (fun b u e _=>sm _ _ e)
   obtain ⟨dx,e,kvs,k1,k2,k3,k4,k5⟩:=StockAt.has hs'
   have hd':=sm _ _ hd
   have hg:=DGet.k (k:=Sum.inr y) hd'
   rw [kvN_val hyD]at hg
   obtain ⟨al,hal2⟩:∃al,as[i]?=some al:=⟨_,List.getElem?_eq_getElem (by omega)⟩
   have hwl:=hw i al hal2
   walk_at "go"
   refine ⟨.inl ⟨rfl,_,SqL.of hl1⟩,ixL_of (SqL.of hl1) (v:=V.ref al) (last_at hal hal2) ⟨_,hg,dx,_,k1,by rfl,ts,hs',nd,hD y hyD,al,rfl,W y,rfl,_,hwl,tab_len hr64,_,SqL.of hrl',hr64,fun nb H5 sm5 hnb hw5=>?_⟩⟩
   have npb:nb≠p2:=fun e=>by rw [e,hl1]at hnb;cases hnb
   have h5:=sm5 _ _ hl1
   have offW:∀{a':Addr} {es:List Ent} {o:HO},a'≠p2→WaysH H5 a' es→WaysH (upd H5 p2 o) a' es:=fun {a' es o} hn ⟨vs,h1,h2,h3⟩=>⟨vs,by rw [upd_ne hn];exact h1,h2,fun j v e hv he=>by
    have hh:=h3 j v e hv he
    cases e with
    | none=>exact hh
    | some p'=>
     obtain ⟨b',eb,tb⟩:=hh
     exact ⟨b',eb,by rw [upd_ne (fun z=>by rw [z,h5]at tb;cases tb)];exact tb⟩⟩
   refine ⟨p2,_,_,rfl,rfl,h5,by rw [List.length_map];omega,same_upd (sm.trans sm5) hp2',by rw [upd_ne nrl];exact sm5 _ _ hrl',as++[nb],by rw [upd_same,List.map_append];rfl,by rw [List.length_append,hal];rfl,fun a' h=>?_,fun j a' h=>?_⟩
   · rcases List.mem_append.mp h with h | h
     · exact hne a' h
     · rw [List.mem_singleton.mp h];exact npb
   · by_cases hj:j < as.length
     · rw [List.getElem?_append_left hj]at h
       exact offW (hne a' (List.mem_of_getElem? h)) ((hw j a' h).same sm5)
     · rw [List.getElem?_append_right (by omega)]at h
       have h0:j - as.length=0:=by have:=(List.getElem?_eq_some_iff.mp h).1;simp at this;omega
       rw [h0]at h
       cases h
       rw [show j=i+1 by omega]
       have hgy:ys.getD i Str.empty=y:=by rw [List.getD_eq_getElem?_getD,hy];rfl
       show WaysH _ nb (bhE (tab (rmsL (D.map (rm ts))) n W (cst ts) ys i) (rmsL (D.map (rm ts))) n (W (ys.getD i Str.empty)) (cst ts (ys.getD i Str.empty)))
       rw [hgy]
       exact offW npb hw5
 · rintro σ H' ⟨v6,rfl,sm,hrl',as,hl1,hal,hne,hw⟩
   have hT:TabH H' p2 (tab (rmsL (D.map (rm ts))) n W (cst ts) ys) ys.length:=⟨as,hl1,by rw [hal,List.length_map],hw⟩
   subst hrest
   walk_at "go"
   exact q p2 H' sm hp2' hT
theorem Z28{f:Addr}{fd:FuncData}(F:Fun K "row_between" "row_between" Z05 f fd)(T:Txt K mg Z0)(Zd:Def P w K mg base CX0 1 "is_in" ["worth","held"] (sp47_in)):FnOk P w K mg base CX0 2 f fd ["worths","name","ahead","behind"] (sp46_between):=by
 have sc:FnScope ["worths","name","ahead","behind","gone"] ["worths","name","ahead","behind"] (defScope Z05):=by walk_at "sc"
 refine F.ok sc (fun vs H Q E h=>?_) (fun cdv A outer s H vs Q E hr h=>?_)
 · obtain ⟨_,_,_,_,_,_,rfl,_⟩:=h;rfl
 obtain ⟨d,z,x,y,D,W,rfl,hd,hz,hl6,q⟩:=h
 refine ⟨_,(@pss_cons _ _ _ _ _ (ps_thaw (ps_comp2I (i:=4) "other" "worth" [2,3] sc.nd rfl rfl rfl rfl (pi_view (pe_bm0 PySem.F.plainAttrs_dict PySem.F.slot_dict_items PySem.F.type_dict_items mt_items (pv 0))) (fun b=>(PW.pt (pw_and (pt_val (pe_callD Zd hr rfl pass0 (pa_cons (pv 1) (pa_cons (pv 2) pa_nil)))) (pw_and1 (pt_not (pt_val (pe_callD Zd hr rfl pass0 (pa_cons (pv 1) (pa_cons (pv 3) pa_nil))))))))) (fun b=>(pv 0))))
  (@pss_one _ _ _ (@ps_ret _ _ _ _ (pe_tup (pa_cons (pv 1) (pa_cons (pe_callD Zd hr rfl pass0 (pa_cons (pe_dget (hu_of hr) (pv 0) (pv 1) (fun _ _=>rfl)) (pa_cons (pv 2) pa_nil))) (pa_cons (pv 4) pa_nil))))))),?_⟩
 walk_at "st"
 have line:=line_val
 walk_at "go"
 refine ⟨.inr (.inr (.inl ⟨rfl,.inl ⟨_,hd⟩⟩)),_,hd,fun v hv=>?_⟩
 have nvd:v≠d:=fun e=>by rw [e,hd]at hv;cases hv
 refine ⟨d,upd_same,_,by rw [upd_ne nvd.symm];exact hd,fun o=>?_⟩
 have smv:Same H (upd H v (itemsO v d)):=Same.new hv
 have sb2:SameBut d H (upd (upd H v (itemsO v d)) d (.frz o (.dK (kvN D W)))):=fun b u e nb=>by rw [upd_ne nb];exact smv _ _ e
 have hd2:upd (upd H v (itemsO v d)) d (.frz o (.dK (kvN D W))) d=some (.frz o (.dK (kvN D W))):=upd_same
 generalize upd (upd H v (itemsO v d)) d (.frz o (.dK (kvN D W)))=H2 at sb2 hd2 ⊢
 rename_i rest hrest
 have geti:∀{i:Nat} {k:Key} {u:V},(kvN D W)[i]?=some (k,u)→∃z',D[i]?=some z'∧k=Sum.inr z'∧u=V.int (W z'):=fun {i k u} hx=>by
  unfold kvN at hx
  rw [List.getElem?_map]at hx
  cases hz':D[i]? with
  | none=>rw [hz']at hx;cases hx
  | some z'=>rw [hz']at hx;cases hx;exact ⟨z',rfl,rfl,rfl⟩
 refine compI_2 (fun i=>decide (Builtin.bitAnd x (W (D.getD i Str.empty))≠0) && !decide (Builtin.bitAnd y (W (D.getD i Str.empty))≠0)) (fun i=>V.str (D.getD i Str.empty)) hd2 (by rw [kvN_len];omega) (fun b i k u H' QT hx sm qt=>?_) (fun b i k u H' Q' hx hp sm q'=>?_) (fun E' H3 hE sm3 hE3=>?_)
 · obtain ⟨z',hz',rfl,rfl⟩:=geti hx
   have eg:D.getD i Str.empty=z'∧True:=⟨by rw [List.getD_eq_getElem?_getD,hz'];rfl,trivial⟩
   rw [eg.1]at qt
   show tAnd _ _ [some (V.str z'),some (V.int (W z')),_,_] _ _
   walk_at "go"
   split
   · rename_i h
     rw [decide_eq_true h,Bool.true_and]at qt
     exact qt _ (Same.refl _)
   · rename_i h
     rw [decide_eq_false h,Bool.false_and]at qt
     exact qt _ (Same.refl _)
 · obtain ⟨z',hz',rfl,rfl⟩:=geti hx
   have eg:D.getD i Str.empty=z'∧True:=⟨by rw [List.getD_eq_getElem?_getD,hz'];rfl,trivial⟩
   rw [eg.1]at q'
   show tVar 0 [some (V.str z'),some (V.int (W z')),_,_] _ _
   walk_at "go"
   exact q' _ (Same.refl _)
 · refine .inr ⟨d,o,_,sm3 _ _ hd2,fun o' u'=>?_,?_⟩
   · show H d≠_
     rw [hd]
     intro k
     cases k
   have nE:E'≠d:=fun e=>by rw [e,hd2]at hE;cases hE
   have hE0:H E'=none:=by
    cases e:H E' with
    | none=>rfl
    | some u=>rw [sb2 _ _ e nE]at hE;cases hE
   have hE9:upd H3 d (.dK (kvN D W)) E'=some (.lst ((goneL D W x y).map V.str)):=by
    rw [upd_ne nE,hE3,kvN_len]
    congr 2
    unfold goneL
    rw [filt_ix Str.empty (fun z=>decide (Builtin.bitAnd x (W z)≠0) && !decide (Builtin.bitAnd y (W z)≠0)) D,List.map_map]
    rfl
   have smF:Same H (upd H3 d (.dK (kvN D W))):=fun b u e=>by
    by_cases hb:b=d
    · rw [hb,upd_same,← hd,← hb];exact e
    · rw [upd_ne hb];exact sm3 _ _ (sb2 b u e hb)
   generalize upd H3 d (.dK (kvN D W))=H9 at smF hE9 ⊢
   have hd9:=smF _ _ hd
   subst hrest
   walk_at "go"
   have hg:=DGet.k (k:=Sum.inr z) hd9
   rw [kvN_val hz]at hg
   exact ⟨_,hg,W z,rfl,by omega,fun p hp=>q p E' _ (smF.trans (Same.new hp)) (snone smF hp) hE0 upd_same ((Same.new hp) _ _ hE9)⟩
theorem Z2h{f:Addr}{fd:FuncData}(F:Fun K "book_along" "book_along" Z0l f fd)(T:Txt K mg Z0)(Z0b:Def P w K mg base CX0 2 "row_between" ["worths","name","ahead","behind"] (sp46_between)):FnOk P w K mg base CX0 3 f fd ["asks","worths","told","held"] (sp46_along K):=by
 have sc:FnScope ["asks","worths","told","held","rows","number","ahead"] ["asks","worths","told","held"] (defScope Z0l):=by walk_at "sc"
 refine F.ok sc (fun vs H Q E h=>?_) (fun cdv A outer s H vs Q E hr h=>?_)
 · obtain ⟨_,_,_,_,_,_,_,_,rfl,_⟩:=h;rfl
 obtain ⟨a,d,l,h,ys,D,W,f',rfl,hS,hl,hin,hl6,hd,hT,hb,q⟩:=h
 refine ⟨_,(@pss_cons _ _ _ _ _ (ps_set (i:=4) sc.nd rfl (Or.inl rfl) (@pe_lst _ _ _ _ pa_nil))
  (@pss_cons _ _ _ _ _ (ps_for PassesOwn.never rfl (pi_rangeD rfl T.Zb (pa_cons (pe_callB call_len_seq rfl T.Z3 PySem.boot_len (pa_cons (pv 0) pa_nil)) (pa_cons pe_int (pa_cons (pe_un un_neg pe_int) pa_nil)))) (pg_name (i:=5) sc.nd rfl (Or.inl rfl))
   (@pss_cons _ _ _ _ _ (ps_set (i:=6) sc.nd rfl (Or.inl rfl) (@pe_ix _ _ _ _ _ _ _ ix_tup (@pe_ix _ _ _ _ _ _ _ ix_list (@pe_ix _ _ _ _ _ _ _ ix_list (pv 2) (pv 5) (fun _ _=>rfl)) (pv 3) (fun _ _=>rfl)) pe_int (fun _ _=>rfl)))
   (@pss_cons _ _ _ _ _ (ps_expr (pe_bm PySem.F.plainAttrs_list PySem.F.slot_list_append PySem.F.type_list_append mt_append (pv 4) (pa_cons (pe_callD Z0b hr rfl pass0 (pa_cons (pv 1) (pa_cons (@pe_ix _ _ _ _ _ _ _ ix_list (pv 0) (pe_op op_sub (pv 5) pe_int) (fun _ _=>rfl)) (pa_cons (pv 6) (pa_cons (pv 3) pa_nil))))) pa_nil)))
   (@pss_one _ _ _ (ps_set (i:=3) sc.nd rfl (Or.inl rfl) (pv 6))))))
  (@pss_one _ _ _ (@ps_ret _ _ _ _ (pe_listrev rfl rfl T.Ze rfl T.Zp (pa_cons (pv 4) pa_nil)))))),?_⟩
 walk_at "st"
 have line:=line_val
 obtain ⟨as,hl1,hal,hw⟩:=hT
 walk_at "go"
 intro p hp0
 have s1:Same H (upd H p (.lst [])):=Same.new hp0
 have g1:upd H p (.lst []) p=some (.lst (([]:List Addr).map V.ref)):=upd_same
 generalize upd H p (.lst [])=H1 at s1 g1 ⊢
 rename_i rest hrest
 subst hrest
 walk_at "go"
 refine ⟨_,.inl (s1.seq hS),by rw [List.length_map];omega,by rw [List.length_map];omega,by decide,by decide,?_⟩
 rw [List.length_map,show ((ys.length:Int) - 0).toNat=ys.length by omega]
 rename_i rest hrest
 refine forD_by (fun i σ H'=>∃(rws:List Addr) (v5 v6:Option V),σ=[some (V.ref a),some (V.ref d),some (V.ref l),some (V.int (hc f' ys.length h i)),some (V.ref p),v5,v6]∧Same H H'∧H' p=some (.lst (rws.map V.ref))∧rws.length=i∧∀(j:Nat) (t:Addr) (z:Str),rws[j]?=some t→ys[ys.length - (j+1)]?=some z→RowN p H' t z (decide (Builtin.bitAnd (hc f' ys.length h (j+1):Int) (W z)≠0)) (goneL D W (hc f' ys.length h (j+1):Int) (hc f' ys.length h j:Int))) ⟨[],none,none,rfl,s1,g1,rfl,fun j t z e=>by simp at e⟩ ?_ ?_
 · clear hrest s1 g1
   rintro i σ H' hi ⟨rws,v5,v6,rfl,sm,hpl,hrl,hrw⟩
   have hw':=hw (ys.length - i)
   obtain ⟨al,hal2⟩:∃al,as[ys.length - i]?=some al:=⟨_,List.getElem?_eq_getElem (by omega)⟩
   obtain ⟨vs,hv1,hv2,hv3⟩:=hw' al hal2
   obtain ⟨p',hp',hp'0⟩:=hb i hi
   have e2:p'.2=(hc f' ys.length h (i+1):Int)∧True:=⟨by rw [hc_step hp',Int.toNat_of_nonneg hp'0],trivial⟩
   obtain ⟨v,hv⟩:∃v,vs[hc f' ys.length h i]?=some v:=⟨_,List.getElem?_eq_getElem (by rw [hv2];exact (List.getElem?_eq_some_iff.mp hp').1)⟩
   obtain ⟨ta,rfl,hta⟩:=hv3 _ v _ hv hp'
   rw [e2.1]at hta
   obtain ⟨y,hy⟩:∃y,ys[ys.length - (i+1)]?=some y:=⟨_,List.getElem?_eq_getElem (by omega)⟩
   have hyD:=hin y (List.mem_of_getElem? hy)
   show gName 5 (V.int ((ys.length:Int) - (i:Int))) _ _ _
   rw [show (ys.length:Int) - (i:Int)=((ys.length - i:Nat):Int) by omega]
   walk_at "go"
   refine ixL_of (SqL.of (sm _ _ hl1)) (v:=V.ref al) (atI_nat (by rw [List.getElem?_map,hal2];rfl)) (ixL_of (SqL.of (sm _ _ hv1)) (v:=V.ref ta) (atI_nat hv) (ixT_of (SqT.of (sm _ _ hta)) (v:=V.int (hc f' ys.length h (i+1))) (atI_nat (j:=1) rfl) ?_))
   rename_i rest hrest
   subst hrest
   walk_at "go"
   refine ⟨.inl ⟨rfl,_,SqL.of hpl⟩,ixL_of (sm.seq hS) (v:=V.str y) ?_ ⟨y,rfl,D,W,sm _ _ hd,hyD,hl6,fun t gl H5 sm5 ht0 hg0 ht5 hg5=>?_⟩⟩
   · rw [show ((ys.length - i:Nat):Int) - 1=((ys.length - (i+1):Nat):Int) by omega]
     exact atI_nat (by rw [List.getElem?_map,hy];rfl)
   have h5:=sm5 _ _ hpl
   refine ⟨p,_,_,rfl,rfl,h5,by rw [List.length_map];omega,?_⟩
   clear e2
   have nt:t≠p:=fun e=>by rw [e,hpl]at ht0;cases ht0
   have ng:gl≠p:=fun e=>by rw [e,hpl]at hg0;cases hg0
   rename_i rest hrest
   subst hrest
   walk_at "go"
   refine ⟨same_upd (sm.trans sm5) hp0,rws++[t],by rw [upd_same,List.map_append];rfl,by rw [List.length_append,hrl];rfl,fun j u z hj hz=>?_⟩
   by_cases hji:j < rws.length
   · rw [List.getElem?_append_left hji]at hj
     exact (hrw j u z hj hz).same fun b o e n=>by rw [upd_ne n];exact sm5 _ _ e
   · rw [List.getElem?_append_right (by omega)]at hj
     have hj0:j=i:=by have:=(List.getElem?_eq_some_iff.mp hj).1;simp at this;omega
     subst hj0
     rw [show j - rws.length=0 by omega]at hj
     cases hj
     rw [hy]at hz
     cases hz
     exact ⟨gl,nt,ng,by rw [upd_ne nt];exact ht5,by rw [upd_ne ng];exact hg5⟩
 · rintro σ H' ⟨rws,v5,v6,rfl,sm,hpl,hrl,hrw⟩
   subst hrest
   walk_at "go"
   refine ⟨_,SqL.of hpl,fun D' hD'=>q D' rws.reverse _ (sm.trans (Same.new hD')) (snone sm hD') (by rw [upd_same,List.map_reverse]) (by rw [List.length_reverse];exact hrl) fun i t z ht hz=>?_⟩
   have hil:=(List.getElem?_eq_some_iff.mp hz).1
   rw [List.getElem?_reverse (by omega)]at ht
   have e1:rws.length - 1 - i=ys.length - (i+1):=by omega
   rw [e1]at ht
   have e3:ys.length - (ys.length - (i+1)+1)=i:=by omega
   have hr:=(hrw _ t z ht (by rw [e3];exact hz)).row.same (Same.new hD' (o:= .lst (rws.map V.ref).reverse))
   have e4:ys.length - (i+1)+1=ys.length - i:=by omega
   rw [e4]at hr
   exact hr
theorem Z29{f:Addr}{fd:FuncData}(F:Fun K "payments_of" "payments_of" Z06 f fd)(T:Txt K mg Z0):FnOk P w K mg base CX0 1 f fd ["ways"] (sp47_pay):=by
 have sc:FnScope ["ways"] ["ways"] (defScope Z06):=by walk_at "sc"
 refine F.ok sc (fun vs H Q E h=>?_) (fun cdv A outer s H vs Q E hr h=>?_)
 · obtain ⟨_,_,rfl,_⟩:=h;rfl
 obtain ⟨l,es,rfl,hW,hl,q⟩:=h
 refine ⟨_,(@pss_one _ _ _ (@ps_ret _ _ _ _ (pe_comp1 "way" [] rfl rfl (pi_list (pv 0)) (fun b=>(pe_ifExp (pt_cmpR op_isN (pv 0) pe_non (nomark _)) pe_non (@pe_ix _ _ _ _ _ _ _ ix_tup (pv 0) pe_int (fun _ _=>rfl))))))),?_⟩
 walk_at "st"
 have line:=line_val
 obtain ⟨vs,hv,hvl,he⟩:=hW
 walk_at "go"
 refine ⟨⟨_,SqL.of hv⟩,compL_ix (fun i=>payV (es.getD i none)) (SqL.of hv) (by omega) (fun b i x H' Q' hx sm q'=>?_) (fun D hD=>?_)⟩
 · have hi:=(List.getElem?_eq_some_iff.mp hx).1
   have hee:=List.getElem?_eq_getElem (show i < es.length by omega)
   have hen:=he i x _ hx hee
   have eg:es.getD i none=es[i]∧True:=⟨by rw [List.getD_eq_getElem?_getD,hee];rfl,trivial⟩
   rw [eg.1]at q'
   walk_at "go"
   cases e:es[i] with
   | none=>
    rw [e]at hen q'
    have hx0:x=V.non:=hen
    rw [if_pos hx0]
    exact q'
   | some p=>
    rw [e]at hen q'
    obtain ⟨a,ha,ht⟩:=hen
    rw [if_neg (by rw [ha];simp)]
    subst ha
    exact ixT_of (SqT.of (sm _ _ ht)) (v:=V.int p.1) (atI_nat (j:=0) rfl) q'
 · refine q D _ (Same.new hD) hD ?_
   rw [upd_same]
   congr 2
   refine List.ext_getElem? fun i=>?_
   rw [List.getElem?_map,List.getElem?_map]
   by_cases hi:i < es.length
   · rw [List.getElem?_range (by omega),List.getElem?_eq_getElem hi]
     show some (payV (es.getD i none))=some (payV es[i])
     rw [List.getD_eq_getElem?_getD,List.getElem?_eq_getElem hi];rfl
   · rw [List.getElem?_eq_none (by rw [List.length_range];omega),List.getElem?_eq_none (by omega)];rfl
theorem Z2z{f:Addr}{fd:FuncData}(F:Fun K "ways_of" "ways_of" Z1b f fd)(T:Txt K mg Z0)(Z0n:Def P w K mg base CX0 4 "check_asks" ["stock","asks","places"] (sp41_asks K Z0))(Z0y:Def P w K mg base CX0 1 "worths_of" ["asks"] (sp47_worths K))(Z16:Def P w K mg base CX0 4 "all_ways" ["stock","asks","places","worths"] (sp47_tab K Z0))(Zc:Def P w K mg base CX0 1 "known_ways" ["ways"] (sp47_known))(Z0o:Def P w K mg base CX0 3 "book_along" ["asks","worths","told","held"] (sp46_along K))(Z0c:Def P w K mg base CX0 1 "payments_of" ["ways"] (sp47_pay)):FnOk P w K mg base CX0 5 f fd ["stock","asks","places"] (sp46_ways K Z0):=by
 have sc:FnScope ["stock","asks","places","worths","told","least","book"] ["stock","asks","places"] (defScope Z1b):=by walk_at "sc"
 refine F.ok sc (fun vs H Q E h=>?_) (fun cdv A outer s H vs Q E hr h=>?_)
 · obtain ⟨_,_,_,_,_,rfl,_⟩:=h;rfl
 obtain ⟨st,a,n,ts,ys,rfl,hs,nd,hS,hl,hin,hrm,h1,h2,h6,q⟩:=h
 refine ⟨_,(@pss_cons _ _ _ _ _ (ps_expr (pe_callD Z0n hr rfl pass0 (pa_cons (pv 0) (pa_cons (pv 1) (pa_cons (pv 2) pa_nil)))))
  (@pss_cons _ _ _ _ _ (ps_set (i:=3) sc.nd rfl (Or.inl rfl) (pe_callD Z0y hr rfl pass0 (pa_cons (pv 1) pa_nil)))
  (@pss_cons _ _ _ _ _ (ps_if (PW.pt (pw_or (pt_cmpR op_gt (pe_callB call_len_seq rfl T.Z3 PySem.boot_len (pa_cons (pv 1) pa_nil)) (pe_gint rfl T.Zi) (nomark _)) (pw_or1 (pt_cmpR op_gt (pe_callB call_lenD rfl T.Z3 PySem.boot_len (pa_cons (pv 3) pa_nil)) (pe_gint rfl T.Z7) (nomark _)))))
   (@pss_one _ _ _ ps_never)
   pss_nil)
  (@pss_cons _ _ _ _ _ (ps_set (i:=4) sc.nd rfl (Or.inl rfl) (pe_callD Z16 hr rfl pass0 (pa_cons (pv 0) (pa_cons (pv 1) (pa_cons (pv 2) (pa_cons (pv 3) pa_nil))))))
  (@pss_cons _ _ _ _ _ (ps_set (i:=5) sc.nd rfl (Or.inl rfl) (pe_callB (call_minT hr) rfl T.Z10 (by first | rfl | decide+kernel) (pa_cons (pe_callD Zc hr rfl pass0 (pa_cons (@pe_ix _ _ _ _ _ _ _ ix_list (pv 4) (pe_un un_neg pe_int) (fun _ _=>rfl)) pa_nil)) pa_nil)))
  (@pss_cons _ _ _ _ _ (ps_set (i:=6) sc.nd rfl (Or.inl rfl) (pe_callD Z0o hr rfl pass0 (pa_cons (pv 1) (pa_cons (pv 3) (pa_cons (pv 4) (pa_cons (@pe_ix _ _ _ _ _ _ _ ix_tup (pv 5) pe_int (fun _ _=>rfl)) pa_nil))))))
  (@pss_one _ _ _ (@ps_ret _ _ _ _ (pe_tup (pa_cons (@pe_ix _ _ _ _ _ _ _ ix_tup (pv 5) pe_int (fun _ _=>rfl)) (pa_cons (pv 6) (pa_cons (pe_comp1 "ways" [] rfl rfl (pi_list (pe_slice sl_list (pv 4) (po_some pe_int) po_none)) (fun b=>(pe_callD Z0c hr rfl pass0 (pa_cons (pv 0) pa_nil)))) pa_nil)))))))))))),?_⟩
 walk_at "st"
 have line:=line_val
 walk_at "go"
 refine ⟨ts,hs,nd,ys,hS,by omega,hin,hrm,h1,h2,fun H1 sm1=>?_⟩
 have hS1:=sm1.seq hS
 rename_i rest hrest
 subst hrest
 walk_at "go"
 refine ⟨ys,hS1,by omega,fun d W H2 sm2 hd hd2 hW=>?_⟩
 have hd0:=snone sm1 hd
 have sm02:=sm1.trans sm2
 have nD:(dis ys).Nodup:=dis_nodup ys
 have hmD:∀y∈ys,y∈dis ys:=fun y hy=>mem_dis.mpr hy
 have hDt:∀z∈dis ys,z∈ts.map (·.1):=fun z hz=>hin z (mem_dis.mp hz)
 have hs2:∀H',SameBut d H2 H'→StockAt K Z0 H' st ts:=fun H' sb=>hs.same fun b u e=>sb b u (sm02 _ _ e) (fun k=>by rw [k,hd0]at e;cases e)
 rename_i rest hrest
 subst hrest
 walk_at "go"
 refine ⟨_,.inl (sm2.seq hS1),?_⟩
 rw [List.length_map,if_neg (by omega)]
 refine ⟨_,hd2,?_⟩
 rw [kvN_len,if_neg (by omega)]
 rename_i rest hrest
 subst hrest
 walk_at "go"
 refine ⟨ts,hs2,nd,ys,sm2.seq hS1,hl,dis ys,hmD,hDt,W,hd2,h6,fun tl H3 sm3 htl hT0=>?_⟩
 have htab:∀i,i≤ys.length→tab (rmsL ((dis ys).map (rm ts))) n W (cst ts) ys i=TB ts ys n i:=fun i hi=>tab_is nD hW hmD i hi
 have hT:TabH H3 tl (TB ts ys n) ys.length:=by
  obtain ⟨as,a1,a2,a3⟩:=hT0
  refine ⟨as,a1,a2,fun i a h=>?_⟩
  have hi:=(List.getElem?_eq_some_iff.mp h).1
  rw [← htab i (by omega)]
  exact a3 i a h
 clear hT0
 have sm03:=sm02.trans sm3
 have hd3:=sm3 _ _ hd2
 have hr64:∀i,(TB ts ys n i).length≤64:=fun i=>Nat.le_trans tb_len (Nat.le_trans (Nat.pow_le_pow_right (by decide) h6) (by decide))
 obtain ⟨as,hl1,hal,hw⟩:=id hT
 obtain ⟨al,hal2⟩:∃al,as[ys.length]?=some al:=⟨_,List.getElem?_eq_getElem (by omega)⟩
 rename_i rest hrest
 subst hrest
 walk_at "go"
 refine ixL_of (SqL.of hl1) (v:=V.ref al) (last_at hal hal2) ⟨al,rfl,_,hw _ al hal2,hr64 _,fun kl ks H4 sm4 hkl hkl4 hkP=>?_⟩
 have nk:ks≠[]:=fun e=>by
  have h:=hkP.1
  rw [e]at h
  refine tab_some (C:=cst ts) (Rm:=rm ts) (n:=n) nD hW hmD (fun y hy=>by have:=hrm y hy;omega) ?_
  rw [htab _ (Nat.le_refl _)]
  exact List.length_eq_zero_iff.mp h.symm
 refine ⟨ks,SqL.of hkl4,_,hkP.at,nk,fun i ap pp hap hpp hmin=>?_⟩
 obtain ⟨hh,pq,hq1,hq2⟩:=kn_mem.mp (List.mem_of_getElem? hpp)
 have hta:=hkP.2 i ap pp hap hpp
 have sm04:=sm03.trans sm4
 rename_i rest hrest
 subst hrest
 walk_at "go"
 refine ixT_of (SqT.of hta) (v:=V.int pp.2) (atI_nat (j:=1) rfl) ⟨hh,by rw [hq2],ys,sm04.seq hS,hl,dis ys,hmD,h6,W,sm4 _ _ hd3,TB ts ys n,hT.same sm4,fun j hj=>chain2 nD hmD hq1 j hj,fun bk rws H5 sm5 hbk hbk5 hrl hrw=>?_⟩
 have hlp:leastP (knP (TB ts ys n ys.length))=some pp:=least_of (List.mem_of_getElem? hpp) hmin
 have hHI:∀i,hi (TB ts ys n) ys.length hh i=HI ts ys n pp i:=fun i=>by rw [hq2];rfl
 have hrw5:∀(i:Nat) (u:Addr) (z:Str),rws[i]?=some u→ys[i]?=some z→RowH H5 u z (decide (z∈stL (dis ys) (HI ts ys n pp i))) ((dis ys).filter fun y=>decide (y∈stL (dis ys) (HI ts ys n pp i)) && !decide (y∈stL (dis ys) (HI ts ys n pp (i+1)))):=fun i u z hu hz=>by
  have h:=hrw i u z hu hz
  have hzD:=hmD z (List.mem_of_getElem? hz)
  rw [hHI,hHI,hW.wr nD hzD]at h
  have eg:goneL (dis ys) W (HI ts ys n pp i:Int) (HI ts ys n pp (i+1):Int)=(dis ys).filter fun y=>decide (y∈stL (dis ys) (HI ts ys n pp i)) && !decide (y∈stL (dis ys) (HI ts ys n pp (i+1))):=by
   rw [← gone_is]
   unfold goneL
   exact List.filter_congr fun y hy=>by rw [hW.wr nD hy]
  rw [eg]at h
  rw [decide_eq_decide.mpr (show z∈stL (dis ys) (HI ts ys n pp i)↔Builtin.bitAnd (HI ts ys n pp i:Int) (RD (dis ys) z:Int)≠0 from ⟨fun m=>(st_mem.mp m).2,fun m=>st_mem.mpr ⟨hzD,m⟩⟩)]
  exact h
 clear hrw hHI
 have sm05:=sm04.trans sm5
 have hta5:=sm5 _ _ hta
 have hl5:=(sm4.trans sm5) _ _ hl1
 have hw5:∀(i:Nat) (a':Addr),as[i]?=some a'→WaysH H5 a' (TB ts ys n i):=fun i a' h=>((hw i a' h).same sm4).same sm5
 rename_i rest hrest
 subst hrest
 walk_at "go"
 refine ixT_of (SqT.of hta5) (v:=V.int pp.1) (atI_nat (j:=0) rfl) ?_
 refine ⟨_,SqL.of hl5,fun cp hcp=>?_⟩
 rw [cut_one]
 have sm6:Same H5 (upd H5 cp (.lst ((as.drop 1).map V.ref))):=Same.new hcp
 have hcp6:upd H5 cp (.lst ((as.drop 1).map V.ref)) cp=some (.lst ((as.drop 1).map V.ref)):=upd_same
 generalize upd H5 cp (.lst ((as.drop 1).map V.ref))=H6 at sm6 hcp6 ⊢
 have hdl:(as.drop 1).length=ys.length:=by rw [List.length_drop];omega
 refine ⟨⟨_,SqL.of hcp6⟩,compL_mkX (fun D i y H=>∃x,y=V.ref x∧x≠D∧H6 x=none∧H x=some (.lst ((TB ts ys n (i+1)).map payV))) (fun {D i y H H'} ⟨x,e1,e2,e4,e3⟩ sb=>⟨x,e1,e2,e4,sb _ _ e3 e2⟩) (SqL.of hcp6) (by rw [List.length_map];omega) (fun b D i x H' Q' hx sm' hD ⟨zs,hzs⟩ q'=>?_) (fun D yl H7 hD sm7 hyD hyl hall=>?_)⟩
 · rw [List.getElem?_map]at hx
   cases ha:(as.drop 1)[i]? with
   | none=>rw [ha]at hx;cases hx
   | some a'=>
   rw [ha]at hx
   cases hx
   rw [List.getElem?_drop,Nat.add_comm]at ha
   walk_at "go"
   refine ⟨_,((hw5 (i+1) a' ha).same sm6).same sm',hr64 _,fun D2 H8 sm8 hD2 hD8=>q' _ _ sm8 ⟨D2,rfl,fun e=>?_,snone sm' hD2,hD8⟩⟩
   rw [e,hzs]at hD2
   cases hD2
 refine ⟨by omega,fun t ht=>?_⟩
 obtain ⟨ls,els,hls⟩:∃ls:List Addr,yl=ls.map V.ref∧∀(i:Nat) (x:Addr),ls[i]?=some x→H6 x=none∧H7 x=some (.lst ((TB ts ys n (i+1)).map payV)):=by
  refine ⟨yl.map aOf,?_,fun i x h=>?_⟩
  · rw [List.map_map]
    refine (List.map_id yl).symm.trans (List.map_congr_left fun y hy=>?_)
    obtain ⟨i,hi⟩:=List.mem_iff_getElem?.mp hy
    obtain ⟨x,rfl,_⟩:=hall i y hi
    rfl
  · rw [List.getElem?_map]at h
    cases hy':yl[i]? with
    | none=>rw [hy']at h;cases h
    | some y=>
     rw [hy']at h
     obtain ⟨x',rfl,_,h4,h3⟩:=hall i y hy'
     cases h
     exact ⟨h4,h3⟩
 have smt:Same H7 (upd H7 t (.tup [V.int pp.1,V.ref bk,V.ref D])):=Same.new ht
 rw [els]at hyD
 have sm06:=sm05.trans sm6
 refine q t bk D rws ls pp _ ((sm06.trans sm7).trans smt) (snone sm04 hbk) (snone sm06 hD) (fun x hx=>?_) hlp ⟨upd_same,smt _ _ (sm7 _ _ (sm6 _ _ hbk5)),hrl,fun i u z a b=>((hrw5 i u z a b).same ((sm6.trans sm7).trans smt)),smt _ _ hyD,?_,fun i x h=>?_⟩
 · obtain ⟨i,hi⟩:=List.mem_iff_getElem?.mp hx
   exact snone sm06 (hls i x hi).1
 · rw [els,List.length_map,List.length_map,hdl]at hyl
   exact hyl
 · have h2:=smt _ _ (hls i x h).2
   rw [show ((TB ts ys n (i+1)).map payO).map oV=(TB ts ys n (i+1)).map payV by rw [List.map_map];exact List.map_congr_left fun e _=>pay_is.symm]
   exact h2
theorem Z2q{f:Addr}{fd:FuncData}(F:Fun K "_law_cell_at" "_law_cell_at" Z0w f fd)(T:Txt K mg Z0):FnOk P w K mg base CX0 1 f fd ["_law_script","_law_k"] (sp_cell K):=by
 have sc:FnScope ["_law_script","_law_k"] ["_law_script","_law_k"] (defScope Z0w):=by walk_at "sc"
 refine F.ok sc (fun vs H Q E h=>?_) (fun cdv A outer s H vs Q E hr h=>?_)
 · obtain ⟨_,_,_,rfl,_⟩:=h;rfl
 obtain ⟨a,ns,k,rfl,hS,h0,hl,q⟩:=h
 refine ⟨_,(@pss_cons _ _ _ _ _ (ps_if (pt_cmpR op_lt (pv 1) (pe_callB call_len_seq rfl T.Z3 PySem.boot_len (pa_cons (pv 0) pa_nil)) (nomark _))
  (@pss_one _ _ _ (@ps_ret _ _ _ _ (@pe_ix _ _ _ _ _ _ _ ix_list (pv 0) (pv 1) (fun _ _=>rfl))))
  pss_nil)
  (@pss_one _ _ _ (@ps_ret _ _ _ _ pe_int))),?_⟩
 walk_at "st"
 walk_at "go"
 rw [List.length_map]
 split
 · rename_i hk
   exact ixL_of hS (atI_of h0 (getMap (by omega))) q
 · rename_i hk
   rw [List.getD_eq_getElem?_getD,List.getElem?_eq_none (by omega)]at q
   walk_at "go"
   exact q
theorem Z30{f:Addr}{fd:FuncData}(F:Fun K "_law_whole" "_law_whole" Z1c f fd)(T:Txt K mg Z0):FnOk P w K mg base CX0 1 f fd ["_law_found"] (sp41_whole):=by
 have sc:FnScope ["_law_found"] ["_law_found"] (defScope Z1c):=by walk_at "sc"
 refine F.ok sc (fun vs H Q E h=>?_) (fun cdv A outer s H vs Q E hr h=>?_)
 · obtain ⟨_,rfl,_⟩:=h;rfl
 obtain ⟨i,rfl,q⟩:=h
 refine ⟨_,(@pss_one _ _ _ (@ps_ret _ _ _ _ (pe_and (pe_callB call_isinst rfl T.Z1 (by first | rfl | decide+kernel) (pa_cons (pv 0) (pa_cons (pe_bltn (v:= .ty "int") rfl T.Z0e (by first | rfl | decide+kernel) rfl) pa_nil))) (pe_one (pe_not (pe_callB call_isinst rfl T.Z1 (by first | rfl | decide+kernel) (pa_cons (pv 0) (pa_cons (pe_bltn (v:= .ty "bool") rfl T.Z0h (by first | rfl | decide+kernel) rfl) pa_nil)))))))),?_⟩
 walk_at "st"
 walk_at "go"
 exact q
theorem Z31{f:Addr}{fd:FuncData}(F:Fun K "_law_mixed" "_law_mixed" Z1d f fd)(T:Txt K mg Z0):FnOk P w K mg base CX0 1 f fd ["_law_cell","_law_k"] (sp41_mixed):=by
 have sc:FnScope ["_law_cell","_law_k","_law_number"] ["_law_cell","_law_k"] (defScope Z1d):=by walk_at "sc"
 refine F.ok sc (fun vs H Q E h=>?_) (fun cdv A outer s H vs Q E hr h=>?_)
 · obtain ⟨_,_,rfl,_⟩:=h;rfl
 obtain ⟨c,k,rfl,q⟩:=h
 refine ⟨_,(@pss_cons _ _ _ _ _ (ps_set (i:=2) sc.nd rfl (Or.inl rfl) (pe_op op_mod (pe_op op_mul (pe_op op_add (pv 0) (pe_op op_mul pe_int (pv 1))) pe_int) pe_int))
  (@pss_one _ _ _ (@ps_ret _ _ _ _ (pe_op op_mod (pe_op op_mulB (pv 2) (pv 2)) pe_int)))),?_⟩
 walk_at "st"
 have h0:=Int.emod_nonneg ((c+7919 * k) * 48271) (show (2147483647:Int)≠0 by decide)
 have h1:=Int.emod_lt_of_pos ((c+7919 * k) * 48271) (show (0:Int) < 2147483647 by decide)
 walk_at "go"
 exact ⟨⟨by omega,by omega⟩,by decide,q _ (Int.emod_nonneg _ (by decide)) (Int.emod_lt_of_pos _ (by decide))⟩
theorem Z32{f:Addr}{fd:FuncData}(F:Fun K "_law_names" "_law_names" Z1e f fd)(T:Txt K mg Z0):FnOk P w K mg base CX0 1 f fd ["_law_cell","_law_many"] (sp41_names):=by
 have sc:FnScope ["_law_cell","_law_many","_law_signs","_law_size","_law_at","_law_far","_law_names_here","_law_k","_law_name","_law_j"] ["_law_cell","_law_many"] (defScope Z1e):=by walk_at "sc"
 refine F.ok sc (fun vs H Q E h=>?_) (fun cdv A outer s H vs Q E hr h=>?_)
 · obtain ⟨_,_,rfl,_⟩:=h;rfl
 obtain ⟨i,m,rfl,hm,q⟩:=h
 refine ⟨_,(@pss_cons _ _ _ _ _ (ps_set (i:=2) sc.nd rfl (Or.inl rfl) pe_str)
  (@pss_cons _ _ _ _ _ (ps_set (i:=3) sc.nd rfl (Or.inl rfl) (pe_op op_add pe_int (pe_op op_mod (pv 0) pe_int)))
  (@pss_cons _ _ _ _ _ (ps_set (i:=4) sc.nd rfl (Or.inl rfl) (pe_op op_mod (pe_op op_fdiv (pv 0) pe_int) (pv 3)))
  (@pss_cons _ _ _ _ _ (ps_set (i:=5) sc.nd rfl (Or.inl rfl) (pe_op op_mod (pe_op op_fdiv (pv 0) pe_int) pe_int))
  (@pss_cons _ _ _ _ _ (ps_set (i:=6) sc.nd rfl (Or.inl rfl) (@pe_lst _ _ _ _ pa_nil))
  (@pss_cons _ _ _ _ _ (ps_for PassesOwn.never rfl (pi_range1 rfl T.Zb (pa_cons (pv 1) pa_nil)) (pg_name (i:=7) sc.nd rfl (Or.inl rfl))
   (@pss_cons _ _ _ _ _ (ps_set (i:=8) sc.nd rfl (Or.inl rfl) (pe_op op_mulS (@pe_ix _ _ _ _ _ _ _ ix_str (pv 2) (pe_op op_mod (pe_op op_add (pv 5) (pe_op op_fdiv (pv 7) pe_int)) pe_int) (fun _ _=>rfl)) (pe_op op_add pe_int (pe_op op_mod (pv 7) pe_int))))
   (@pss_cons _ _ _ _ _ (ps_if (pt_cmpR op_gt (pe_op op_mod (pe_op op_fdiv (pv 0) pe_int) pe_int) pe_int (nomark _))
    (@pss_cons _ _ _ _ _ (ps_set (i:=8) sc.nd rfl (Or.inl rfl) (@pe_ix _ _ _ _ _ _ _ ix_str (pv 2) (pe_op op_mod (pe_op op_add (pv 5) (pe_op op_mulB (pv 7) (pe_callTy call_int1 rfl T.Z0e (by first | rfl | decide+kernel) (pa_cons (pe_cmpR op_eq (pv 4) pe_int (nomark _)) pa_nil)))) pe_int) (fun _ _=>rfl)))
    (@pss_one _ _ _ (ps_for PassesOwn.never rfl (pi_range2 rfl T.Zb (pa_cons pe_int (pa_cons (pv 3) pa_nil))) (pg_name (i:=9) sc.nd rfl (Or.inl rfl))
     (@pss_one _ _ _ (ps_set (i:=8) sc.nd rfl (Or.inl rfl) (pe_op op_add_str (pv 8) (@pe_ix _ _ _ _ _ _ _ ix_str (pv 2) (pe_op op_mod (pe_op op_add (pe_op op_add (pv 5) (pe_op op_mul pe_int (pv 9))) (pe_op op_mulB (pv 7) (pe_callTy call_int1 rfl T.Z0e (by first | rfl | decide+kernel) (pa_cons (pe_cmpR op_eq (pv 9) (pv 4) (nomark _)) pa_nil)))) pe_int) (fun _ _=>rfl))))))))
    pss_nil)
   (@pss_one _ _ _ (ps_expr (pe_bm PySem.F.plainAttrs_list PySem.F.slot_list_append PySem.F.type_list_append mt_append (pv 6) (pa_cons (pv 8) pa_nil)))))))
  (@pss_one _ _ _ (@ps_ret _ _ _ _ (pv 6))))))))),?_⟩
 walk_at "st"
 have line:=line_val
 have bl:=both_length
 have hL1:1≤(1+i % 8).toNat:=by omega
 have hL8:(1+i % 8).toNat≤8:=by omega
 have h8:(1+i % 8)=((1+i % 8).toNat:Int):=by omega
 walk_at "go"
 rw [h8]
 clear h8
 generalize (1+i % 8).toNat=L at hL1 hL8 ⊢
 have ha0:=Int.emod_nonneg (i / 8) (show (L:Int)≠0 by omega)
 have ha1:=Int.emod_lt_of_pos (i / 8) (show (0:Int) < L by omega)
 walk_at "go"
 generalize i / 8 % (L:Int)=at' at ha0 ha1 ⊢
 have hf0:=Int.emod_nonneg (i / 192) (show (26:Int)≠0 by decide)
 generalize i / 192 % 26=fr at hf0 ⊢
 intro p hp
 walk_at "go"
 refine forR_by (fun k σ H'=>∃(v7 v8 v9:Option V),σ=[some (V.int i),some (V.int m),some (V.str (Str.ofString "abcdefghijklmnopqrstuvwxyz0123456789")),some (V.int L),some (V.int at'),some (V.int fr),some (V.ref p),v7,v8,v9]∧H'=upd H p (.lst ((nmsB (decide (0 < i / 64 % 3)) fr at' L k).map V.str))) ⟨none,none,none,rfl,rfl⟩ ?_ ?_
 · rintro k σ H' hk ⟨v7,v8,v9,rfl,rfl⟩
   have hlen:((nmsB (decide (0 < i / 64 % 3)) fr at' L k).map V.str).length=k:=by simp [nmsB]
   walk_at "go"
   refine ixS_of (by omega) (ix_bc _ (by decide) (by decide)) ?_
   walk_at "go"
   refine ⟨mul_okR (by omega) (by omega),?_⟩
   rw [mul_rep (by omega),show (1+(k:Int) % 8).toNat=1+k % 8 by omega]
   rename_i rest hrest
   subst hrest
   walk_at "go"
   rename_i rest hrest
   have key:∀(z:List Nat) (w9:Option V),nmB (decide (0 < i / 64 % 3)) fr at' L k=z→rest [some (V.int i),some (V.int m),some (V.str (Str.ofString "abcdefghijklmnopqrstuvwxyz0123456789")),some (V.int L),some (V.int at'),some (V.int fr),some (V.ref p),some (V.int k),some (V.str (tx z)),w9] (upd H p (.lst ((nmsB (decide (0 < i / 64 % 3)) fr at' L k).map V.str))):=by
    intro z w9 hz
    rw [← hz]
    clear hz
    subst hrest
    walk_at "go"
    refine ⟨.inl ⟨rfl,_,SqL.of upd_same⟩,p,_,_,rfl,rfl,upd_same,by rw [hlen];omega,?_⟩
    walk_at "go"
    rw [nmsB_succ,List.map_append]
    rfl
   clear hrest
   split
   · rename_i hw
     have ew:nmB (decide (0 < i / 64 % 3)) fr at' L k=nmL (fun j:Nat=>fr+5 * (j:Int)) at' L k:=by unfold nmB;rw [decide_eq_true hw];rfl
     rw [ew]at key
     walk_at "go"
     refine ⟨⟨by omega,by split <;> decide⟩,by decide,ixS_of (by omega) (ix_bc _ (by decide) (by decide)) ?_⟩
     rw [T_one,← nmL_one]
     rename_i rest2 hrest2
     subst hrest2
     walk_at "go"
     refine forR_by (fun j σ H'=>∃(w9:Option V),σ=[some (V.int i),some (V.int m),some (V.str (Str.ofString "abcdefghijklmnopqrstuvwxyz0123456789")),some (V.int L),some (V.int at'),some (V.int fr),some (V.ref p),some (V.int k),some (V.str (tx (nmL (fun j:Nat=>fr+5 * (j:Int)) at' (1+j) k))),w9]∧H'=upd H p (.lst ((nmsB (decide (0 < i / 64 % 3)) fr at' L k).map V.str))) ⟨_,rfl,rfl⟩ ?_ ?_
     · rintro j σ H' hj ⟨w9,rfl,rfl⟩
       have hzl:(tx (nmL (fun j:Nat=>fr+5 * (j:Int)) at' (1+j) k)).length≤8:=by rw [T_len,nmL_l];omega
       rw [show 1+(j+1)=1+j+1 by omega,nmL_more]
       generalize nmL (fun j:Nat=>fr+5 * (j:Int)) at' (1+j) k=zl at hzl ⊢
       walk_at "go"
       refine ⟨⟨by omega,by split <;> decide⟩,by decide,ixS_of (by omega) (ix_bc _ (by decide) (by decide)) ⟨_,rfl,by rw [len_one];omega,?_,rfl⟩⟩
       rw [T_one,T_app]
     · rintro σ H' ⟨w9,rfl,rfl⟩
       rw [show 1+((L:Int) - 1).toNat=L by omega]
       exact key _ _ rfl
   · rename_i hw
     exact key _ _ (by unfold nmB;rw [if_neg (by simp;omega)];rfl)
 · rintro σ H' ⟨v7,v8,v9,rfl,rfl⟩
   walk_at "go"
   exact q p _ _ hp (Same.new hp) upd_same (by simp [nmsB]) (by simp [nmsB]) (nmsB_nodup ha0 ha1 (by omega)) (nmsB_name hL1 hL8)
theorem Z36{f:Addr}{fd:FuncData}(F:Fun K "_law_cost" "_law_cost" Z1p f fd)(T:Txt K mg Z0)(Zn:Def P w K mg base CX0 1 "_law_mixed" ["_law_cell","_law_k"] (sp41_mixed)):FnOk P w K mg base CX0 2 f fd ["_law_cell","_law_k"] (sp41_lcost):=by
 have sc:FnScope ["_law_cell","_law_k","_law_number"] ["_law_cell","_law_k"] (defScope Z1p):=by walk_at "sc"
 refine F.ok sc (fun vs H Q E h=>?_) (fun cdv A outer s H vs Q E hr h=>?_)
 · obtain ⟨_,_,rfl,_⟩:=h;rfl
 obtain ⟨c,k,rfl,q⟩:=h
 refine ⟨_,(@pss_cons _ _ _ _ _ (ps_set (i:=2) sc.nd rfl (Or.inl rfl) (pe_callD Zn hr rfl pass0 (pa_cons (pe_op op_fdiv (pv 0) pe_int) (pa_cons (pv 1) pa_nil))))
  (@pss_cons _ _ _ _ _ (ps_if (pt_cmpR op_eq (pe_op op_mod (pv 0) pe_int) pe_int (nomark _))
   (@pss_one _ _ _ (@ps_ret _ _ _ _ (pe_op op_mod (pv 2) pe_int)))
   pss_nil)
  (@pss_cons _ _ _ _ _ (ps_if (pt_cmpR op_eq (pe_op op_mod (pv 0) pe_int) pe_int (nomark _))
   (@pss_one _ _ _ (@ps_ret _ _ _ _ (pe_op op_mod (pv 2) pe_int)))
   pss_nil)
  (@pss_cons _ _ _ _ _ (ps_if (pt_cmpR op_eq (pe_op op_mod (pv 0) pe_int) pe_int (nomark _))
   (@pss_one _ _ _ (@ps_ret _ _ _ _ (pe_op op_mod (pe_op op_pow (pv 2) pe_int) (pe_op op_add (pe_op op_pow pe_int pe_int) pe_int))))
   pss_nil)
  (@pss_one _ _ _ (@ps_ret _ _ _ _ (pe_op op_add pe_int (pe_op op_mod (pe_op op_fdiv (pv 0) pe_int) pe_int)))))))),?_⟩
 walk_at "st"
 have line:=line_val
 walk_at "go"
 intro v hv0 hv1
 have hb0:=Int.emod_nonneg (v ^ 4) (show (10 ^ 30+1:Int)≠0 by decide)
 have hb1:=Int.emod_lt_of_pos (v ^ 4) (show (0:Int) < 10 ^ 30+1 by decide)
 walk_at "go"
 by_cases h:c % 4=0
 · rw [if_pos h];exact ⟨by decide,q _ (by omega) (by omega)⟩
 rw [if_neg h]
 rename_i r hr'
 subst hr'
 walk_at "go"
 by_cases h:c % 4=1
 · rw [if_pos h];exact ⟨by decide,q _ (by omega) (by omega)⟩
 rw [if_neg h]
 rename_i r hr'
 subst hr'
 walk_at "go"
 by_cases h:c % 4=2
 · rw [if_pos h]
   refine ⟨cpow_of (by omega) (by omega) (by omega),cpow_of (by omega) (by omega) (by decide),by decide,q _ hb0 (by omega)⟩
 rw [if_neg h]
 rename_i r hr'
 subst hr'
 walk_at "go"
 exact q _ (by omega) (by omega)
theorem Z37{f:Addr}{fd:FuncData}(F:Fun K "_law_room" "_law_room" Z1q f fd)(T:Txt K mg Z0)(Zn:Def P w K mg base CX0 1 "_law_mixed" ["_law_cell","_law_k"] (sp41_mixed)):FnOk P w K mg base CX0 2 f fd ["_law_cell","_law_k"] (sp41_lroom):=by
 have sc:FnScope ["_law_cell","_law_k","_law_number"] ["_law_cell","_law_k"] (defScope Z1q):=by walk_at "sc"
 refine F.ok sc (fun vs H Q E h=>?_) (fun cdv A outer s H vs Q E hr h=>?_)
 · obtain ⟨_,_,rfl,_⟩:=h;rfl
 obtain ⟨c,k,rfl,q⟩:=h
 refine ⟨_,(@pss_cons _ _ _ _ _ (ps_set (i:=2) sc.nd rfl (Or.inl rfl) (pe_callD Zn hr rfl pass0 (pa_cons (pe_op op_fdiv (pv 0) pe_int) (pa_cons (pv 1) pa_nil))))
  (@pss_cons _ _ _ _ _ (ps_if (pt_cmpR op_eq (pe_op op_mod (pv 0) pe_int) pe_int (nomark _))
   (@pss_one _ _ _ (@ps_ret _ _ _ _ pe_int))
   pss_nil)
  (@pss_cons _ _ _ _ _ (ps_if (pt_cmpR op_eq (pe_op op_mod (pv 0) pe_int) pe_int (nomark _))
   (@pss_one _ _ _ (@ps_ret _ _ _ _ (pe_op op_add pe_int (pe_op op_mod (pv 2) pe_int))))
   pss_nil)
  (@pss_one _ _ _ (@ps_ret _ _ _ _ (pe_op op_add pe_int (pe_op op_mod (pv 2) pe_int))))))),?_⟩
 walk_at "st"
 have line:=line_val
 walk_at "go"
 intro v hv0 hv1
 walk_at "go"
 by_cases h:c % 4=0
 · rw [if_pos h];exact q _ (by omega) (by omega)
 rw [if_neg h]
 rename_i r hr'
 subst hr'
 walk_at "go"
 by_cases h:c % 4=1
 · rw [if_pos h];exact ⟨by decide,q _ (by omega) (by omega)⟩
 rw [if_neg h]
 rename_i r hr'
 subst hr'
 walk_at "go"
 exact q _ (by omega) (by omega)
theorem Z2v{f:Addr}{fd:FuncData}(F:Fun K "_law_places" "_law_places" Z14 f fd)(T:Txt K mg Z0):FnOk P w K mg base CX0 1 f fd ["_law_cell","_law_widest","_law_total"] (sp41_lplaces):=by
 have sc:FnScope ["_law_cell","_law_widest","_law_total"] ["_law_cell","_law_widest","_law_total"] (defScope Z14):=by walk_at "sc"
 refine F.ok sc (fun vs H Q E h=>?_) (fun cdv A outer s H vs Q E hr h=>?_)
 · obtain ⟨_,_,_,rfl,_⟩:=h;rfl
 obtain ⟨c,w,t,rfl,hw1,hw2,ht0,ht1,q⟩:=h
 refine ⟨_,(@pss_cons _ _ _ _ _ (ps_if (pt_cmpR op_eq (pe_op op_mod (pv 0) pe_int) pe_int (nomark _))
  (@pss_one _ _ _ (@ps_ret _ _ _ _ (pv 1)))
  pss_nil)
  (@pss_cons _ _ _ _ _ (ps_if (pt_cmpR op_eq (pe_op op_mod (pv 0) pe_int) pe_int (nomark _))
   (@pss_one _ _ _ (@ps_ret _ _ _ _ (pe_op op_pow pe_int pe_int)))
   pss_nil)
  (@pss_cons _ _ _ _ _ (ps_if (pt_cmpR op_eq (pe_op op_mod (pv 0) pe_int) pe_int (nomark _))
   (@pss_one _ _ _ (@ps_ret _ _ _ _ (pe_op op_add (pv 1) (pe_op op_mod (pe_op op_fdiv (pv 0) pe_int) (pe_op op_add (pv 2) pe_int)))))
   pss_nil)
  (@pss_one _ _ _ (@ps_ret _ _ _ _ (pe_op op_add (pv 1) (pe_op op_mod (pe_op op_fdiv (pv 0) pe_int) pe_int))))))),?_⟩
 walk_at "st"
 have line:=line_val
 have hb0:=Int.emod_nonneg (c / 6) (show (t+1:Int)≠0 by omega)
 have hb1:=Int.emod_lt_of_pos (c / 6) (show (0:Int) < t+1 by omega)
 walk_at "go"
 by_cases h:c % 6=0
 · rw [if_pos h];exact q _ (by omega) (by omega)
 rw [if_neg h]
 rename_i r hr'
 subst hr'
 walk_at "go"
 by_cases h:c % 6=1
 · rw [if_pos h]
   have e6:(10:Int) ^ 6=1000000:=by decide
   exact ⟨cpow_of (by omega) (by omega) (by decide),q _ (by rw [e6];omega) (by decide)⟩
 rw [if_neg h]
 rename_i r hr'
 subst hr'
 walk_at "go"
 by_cases h:c % 6=2
 · rw [if_pos h]
   refine ⟨cdiv_of (by omega) (by omega),by omega,q _ (by omega) (by omega)⟩
 rw [if_neg h]
 rename_i r hr'
 subst hr'
 walk_at "go"
 exact q _ (by omega) (by omega)
theorem Z38{f:Addr}{fd:FuncData}(F:Fun K "_law_bits" "_law_bits" Z1r f fd)(T:Txt K mg Z0):FnOk P w K mg base CX0 1 f fd ["_law_asks"] (sp47_worths K):=by
 have sc:FnScope ["_law_asks","_law_bits_here","_law_size","_law_name"] ["_law_asks"] (defScope Z1r):=by walk_at "sc"
 refine F.ok sc (fun vs H Q E h=>?_) (fun cdv A outer s H vs Q E hr h=>?_)
 · obtain ⟨_,_,rfl,_⟩:=h;rfl
 obtain ⟨a,ys,rfl,hS,hl,q⟩:=h
 refine ⟨_,(@pss_cons _ _ _ _ _ (ps_set (i:=1) sc.nd rfl (Or.inl rfl) pe_dnewK)
  (@pss_cons _ _ _ _ _ (ps_set (i:=2) sc.nd rfl (Or.inl rfl) pe_int)
  (@pss_cons _ _ _ _ _ (ps_for PassesOwn.never rfl (pi_list (pv 0)) (pg_name (i:=3) sc.nd rfl (Or.inl rfl))
   (@pss_one _ _ _ (ps_if (pt_cmp (pc_dnotin (hu_of hr) (pv 3) (pv 1)))
    (@pss_cons _ _ _ _ _ (ps_dput (hu_of hr) (pv 1) (pv 3) (pv 2) rfl)
    (@pss_one _ _ _ (ps_set (i:=2) sc.nd rfl (Or.inl rfl) (pe_op op_mul pe_int (pv 2)))))
    pss_nil)))
  (@pss_one _ _ _ (@ps_ret _ _ _ _ (pv 1)))))),?_⟩
 walk_at "st"
 have line:=line_val
 walk_at "go"
 intro d hd
 have s1:Same H (upd H d (.dK [])):=Same.new hd
 have g1:upd H d (.dK []) d=some (.dK (kvN (dis (ys.take 0)) (fun _=>0))):=upd_same
 generalize upd H d (.dK [])=H1 at s1 g1 ⊢
 rename_i rest hrest
 subst hrest
 walk_at "go"
 rename_i rest hrest
 subst hrest
 walk_at "go"
 refine ⟨⟨_,s1.seq hS⟩,?_⟩
 refine forL_by (xs:=ys.map V.str) (fun i σ H'=>∃(R:Str→Int) (v3:Option V),σ=[some (V.ref a),some (V.ref d),some (V.int (2 ^ (dis (ys.take i)).length)),v3]∧Same H H'∧H' d=some (.dK (kvN (dis (ys.take i)) R))∧WtI (dis (ys.take i)) R) ⟨fun _=>0,none,rfl,s1,g1,fun j z h=>by cases h⟩ (fun i σ H' _ ⟨_,_,_,sm,_⟩=>sm.seq hS) ?_ ?_
 · rintro i x σ H' hx ⟨R,v3,rfl,sm,e5,e6⟩
   rw [List.getElem?_map]at hx
   cases hy:ys[i]? with
   | none=>rw [hy]at hx;cases hx
   | some y=>
   rw [hy]at hx
   cases hx
   have hi:=(List.getElem?_eq_some_iff.mp hy).1
   have hg:ys.getD i Str.empty=y:=by rw [List.getD_eq_getElem?_getD,hy];rfl
   have hdt:dis (ys.take (i+1))=dis1 (dis (ys.take i)) y∧True:=⟨by rw [dis_take hi,hg],trivial⟩
   have hlen:=len_dis_le ys i
   rw [hdt.1]
   generalize dis (ys.take i)=D at e5 e6 hlen
   walk_at "go"
   refine ⟨_,DGet.k (k:=Sum.inr y) e5,?_⟩
   by_cases hin:y∈D
   · rw [kvN_val hin,if_neg (by simp)]
     have ed:dis1 D y=D:=if_pos hin
     rw [ed]
     exact ⟨rfl,sm,R,e5,e6⟩
   · rw [kvN_none hin,if_pos (by rfl)]
     have ed:dis1 D y=D++[y]:=if_neg hin
     rw [ed]
     walk_at "go"
     have hput:=DPut.k (k:=Sum.inr y) (v:=V.int (2 ^ D.length)) e5 (by rw [kvN_len];omega)
     rw [kvN_snoc hin]at hput
     refine ⟨_,hput,?_⟩
     rename_i rest hrest
     subst hrest
     walk_at "go"
     refine ⟨?_,same_upd sm hd,_,upd_same,wt_snoc hin e6⟩
     rw [List.length_append]
     first | exact (Int.pow_succ ..).symm | (rw [Int.mul_comm];exact (Int.pow_succ ..).symm)
 · rintro σ H' ⟨R,v3,rfl,sm,e5,e6⟩
   rw [List.length_map,List.take_length]at e5 e6
   walk_at "go"
   exact q d R H' sm hd e5 e6
theorem Z2i{f:Addr}{fd:FuncData}(F:Fun K "_law_rooms_of" "_law_rooms_of" Z0m f fd)(T:Txt K mg Z0):FnOk P w K mg base CX0 1 f fd ["_law_some","_law_bits_here","_law_rooms"] (sp46_rooms):=by
 have sc:FnScope ["_law_some","_law_bits_here","_law_rooms"] ["_law_some","_law_bits_here","_law_rooms"] (defScope Z0m):=by walk_at "sc"
 refine F.ok sc (fun vs H Q E h=>?_) (fun cdv A outer s H vs Q E hr h=>?_)
 · obtain ⟨_,_,_,_,_,_,_,rfl,_⟩:=h;rfl
 obtain ⟨s',b',e,D,ns,B,W,rfl,hb,he,hbe,hD,hl6,q⟩:=h
 refine ⟨_,(@pss_one _ _ _ (ps_thaw (@ps_ret _ _ _ _ (pe_callB (call_sumL rfl) rfl T.Z0r (by first | rfl | decide+kernel) (pa_cons (pe_compI "_law_name" [2,0,1] rfl rfl (pi_dict (pv 1)) (fun b=>(pt_cmpR op_ne (pe_op op_and (pv 2) (pe_dget (hu_of hr) (pv 3) (pv 0) (fun _ _=>rfl))) pe_int (nomark _))) (fun b=>(pe_dget (hu_of hr) (pv 1) (pv 0) (fun _ _=>rfl)))) pa_nil))))),?_⟩
 walk_at "st"
 have line:=line_val
 walk_at "go"
 refine ⟨_,.inl ⟨hb,fun o=>?_⟩⟩
 have sb2:SameBut b' H (upd H b' (.frz o (.dK (kvN D B)))):=fun x u e nb=>by rw [upd_ne nb];exact e
 have hb2:upd H b' (.frz o (.dK (kvN D B))) b'=some (.frz o (.dK (kvN D B))):=upd_same
 generalize upd H b' (.frz o (.dK (kvN D B)))=H2 at sb2 hb2 ⊢
 have he2:=sb2 _ _ he (Ne.symm hbe)
 have geti:∀{i:Nat} {k:Key} {u:V},(kvN D B)[i]?=some (k,u)→∃z',D[i]?=some z'∧k=Sum.inr z':=fun {i k u} hx=>by
  unfold kvN at hx
  rw [List.getElem?_map]at hx
  cases hz':D[i]? with
  | none=>rw [hz']at hx;cases hx
  | some z'=>rw [hz']at hx;cases hx;exact ⟨z',rfl,rfl⟩
 refine compK_if (fun i=>decide (Builtin.bitAnd (s':Int) (B (D.getD i Str.empty))≠0)) (fun i=>V.int (W (D.getD i Str.empty))) hb2 (by rw [kvN_len];omega) (fun b i k u H' QT hx sm qt=>?_) (fun b i k u H' Q' hx hp sm q'=>?_) (fun E' H3 hE sm3 hE3=>?_)
 · obtain ⟨z',hz',rfl⟩:=geti hx
   have eg:D.getD i Str.empty=z'∧True:=⟨by rw [List.getD_eq_getElem?_getD,hz'];rfl,trivial⟩
   rw [eg.1]at qt
   have hzD:=List.mem_of_getElem? hz'
   have hg:DGet H' b' (.str z') (some (.int (B z'))):= .inl ⟨_,Sum.inr z',.inr ⟨o,sm _ _ hb2⟩,rfl,(kvN_val hzD).symm⟩
   show tTest _ [some (V.str z'),_,_,_] _ _
   walk_at "go"
   refine ⟨_,hg,B z',rfl,?_⟩
   simp only [ne_eq,decide_not]at qt
   exact qt _ (Same.refl _)
 · obtain ⟨z',hz',rfl⟩:=geti hx
   have eg:D.getD i Str.empty=z'∧True:=⟨by rw [List.getD_eq_getElem?_getD,hz'];rfl,trivial⟩
   rw [eg.1]at q'
   have hzn:=hD z' (List.mem_of_getElem? hz')
   have hg:=DGet.k (k:=Sum.inr z') (sm _ _ he2)
   rw [kvN_val hzn]at hg
   show tDGet _ _ [some (V.str z'),_,_,_] _ _
   walk_at "go"
   exact ⟨_,hg,q' _ (Same.refl _)⟩
 walk_at "go"
 have eL:(((List.range (kvN D B).length).filter fun i=>decide (Builtin.bitAnd (s':Int) (B (D.getD i Str.empty))≠0)).map fun i=>V.int (W (D.getD i Str.empty)))=((D.filter fun z=>decide (Builtin.bitAnd (s':Int) (B z)≠0)).map W).map V.int:=by
  rw [kvN_len,filt_ix Str.empty (fun z=>decide (Builtin.bitAnd (s':Int) (B z)≠0)) D,List.map_map,List.map_map]
  rfl
 rw [eL]at hE3
 refine ⟨_,SqL.of hE3,.inr ⟨b',o,_,sm3 _ _ hb2,fun o' u'=>?_,?_⟩⟩
 · show H b'≠_
   rw [hb]
   intro k
   cases k
 refine q _ fun b u e=>?_
 by_cases hbb:b=b'
 · rw [hbb,upd_same,← hb,← hbb];exact e
 · rw [upd_ne hbb];exact sm3 _ _ (sb2 b u e hbb)
theorem Z3a{f:Addr}{fd:FuncData}(F:Fun K "_law_due" "_law_due" Z24 f fd)(T:Txt K mg Z0):FnOk P w K mg base CX0 1 f fd ["_law_ahead","_law_some","_law_own","_law_cost_here"] (sp46_due K):=by
 have sc:FnScope ["_law_ahead","_law_some","_law_own","_law_cost_here","_law_due_here","_law_before","_law_paid"] ["_law_ahead","_law_some","_law_own","_law_cost_here"] (defScope Z24):=by walk_at "sc"
 refine F.ok sc (fun vs H Q E h=>?_) (fun cdv A outer s H vs Q E hr h=>?_)
 · obtain ⟨_,_,_,_,_,rfl,_⟩:=h;rfl
 obtain ⟨l,s',w',c,A',rfl,hS,hl,hc0,hc1,q⟩:=h
 refine ⟨_,(@pss_cons _ _ _ _ _ (ps_set (i:=4) sc.nd rfl (Or.inl rfl) pe_non)
  (@pss_cons _ _ _ _ _ (ps_for PassesOwn.never rfl (pi_range1 rfl T.Zb (pa_cons (pe_callB call_len_seq rfl T.Z3 PySem.boot_len (pa_cons (pv 0) pa_nil)) pa_nil)) (pg_name (i:=5) sc.nd rfl (Or.inl rfl))
   (@pss_one _ _ _ (ps_if (PW.pt (pw_and (pt_cmpR op_notN (@pe_ix _ _ _ _ _ _ _ ix_list (pv 0) (pv 5) (fun _ _=>rfl)) pe_non (nomark _)) (pw_and1 (pt_cmpR op_eq (pe_op op_and (pe_op op_or (pv 5) (pv 2)) (pv 1)) (pv 1) (nomark _)))))
    (@pss_cons _ _ _ _ _ (ps_set (i:=6) sc.nd rfl (Or.inl rfl) (pe_op op_add (@pe_ix _ _ _ _ _ _ _ ix_list (pv 0) (pv 5) (fun _ _=>rfl)) (pe_op op_mulB (pv 3) (pe_callTy call_int1 rfl T.Z0e (by first | rfl | decide+kernel) (pa_cons (pe_cmpR op_eq (pe_op op_and (pv 5) (pv 2)) pe_int (nomark _)) pa_nil)))))
    (@pss_one _ _ _ (ps_if (PW.pt (pw_or (pt_cmpR op_isN (pv 4) pe_non (nomark _)) (pw_or1 (pt_cmpR op_lt (pv 6) (pv 4) (nomark _)))))
     (@pss_one _ _ _ (ps_set (i:=4) sc.nd rfl (Or.inl rfl) (pv 6)))
     pss_nil)))
    pss_nil)))
  (@pss_one _ _ _ (@ps_ret _ _ _ _ (pv 4))))),?_⟩
 walk_at "st"
 have line:=line_val
 walk_at "go"
 refine ⟨by rw [List.length_map];omega,?_⟩
 rw [List.length_map]
 rename_i rest hrest
 refine forR_by (fun i σ H'=>∃(v5 v6:Option V),σ=[some (V.ref l),some (V.int s'),some (V.int w'),some (V.int c),some (oV (duA A' w' c s' i)),v5,v6]∧H=H') ⟨none,none,rfl,rfl⟩ ?_ ?_
 · clear hrest
   rintro i σ H' hi ⟨v5,v6,rfl,hH⟩
   subst hH
   have hx:atI (A'.map oV) (i:Int)=some (oV (A'.getD i none)):=atI_nat (by rw [List.getElem?_map,List.getElem?_eq_getElem hi];show some (oV A'[i])=_;rw [List.getD_eq_getElem?_getD,List.getElem?_eq_getElem hi];rfl)
   have hstep:duA A' w' c s' (i+1)=du1 w' c s' (duA A' w' c s' i) i (A'.getD i none):=rfl
   rw [hstep]
   generalize A'.getD i none=x at hx
   generalize duA A' w' c s' i=d
   walk_at "go"
   refine ixL_of hS hx ?_
   cases x with
   | none=>rw [if_neg (by simp [oV])];exact ⟨rfl,rfl⟩
   | some a0=>
    rw [if_pos (by simp [oV])]
    by_cases hcn:con1 w' s' i
    · rw [if_pos (show Builtin.bitAnd (Builtin.bitOr (i:Int) w') s'=s' from hcn)]
      have e1:du1 w' c s' d i (some a0)=(match d with | none=>some (val1 w' c i a0) | some d=>if val1 w' c i a0 < d then some (val1 w' c i a0) else some d):=if_pos hcn
      rw [e1]
      walk_at "go"
      refine ixL_of hS hx ⟨⟨by omega,by split <;> decide⟩,a0,rfl,?_⟩
      rename_i rest hrest
      change rest [some (V.ref l),some (V.int s'),some (V.int w'),some (V.int c),some (oV d),some (V.int i),some (V.int (val1 w' c i a0))] H
      clear e1
      generalize val1 w' c i a0=vv at hrest ⊢
      subst hrest
      cases d with
      | none=>
       walk_at "go"
       rw [if_pos (show oV none=V.non from rfl)]
       rfl
      | some d0=>
       walk_at "go"
       rw [if_neg (by simp [oV])]
       refine ⟨d0,rfl,?_⟩
       by_cases h:vv < d0
       · rw [if_pos h,if_pos h]
         rfl
       · rw [if_neg h,if_neg h]
    · rw [if_neg (show ¬Builtin.bitAnd (Builtin.bitOr (i:Int) w') s'=s' from hcn)]
      have e1:du1 w' c s' d i (some a0)=d:=if_neg hcn
      rw [e1]
      exact ⟨rfl,rfl⟩
 · rintro σ H' ⟨v5,v6,rfl,hH⟩
   subst hH
   subst hrest
   walk_at "go"
   exact q
theorem Z2a{f:Addr}{fd:FuncData}(F:Fun K "_law_list_good" "_law_list_good" Z07 f fd)(T:Txt K mg Z0)(Z2b:Def P w K mg base CX0 1 "_law_due" ["_law_ahead","_law_some","_law_own","_law_cost_here"] (sp46_due K))(Zo:Def P w K mg base CX0 1 "_law_whole" ["_law_found"] (sp41_whole)):FnOk P w K mg base CX0 2 f fd ["_law_entries","_law_ahead","_law_own","_law_cost_here","_law_fits"] (sp46_list K):=by
 have sc:FnScope ["_law_entries","_law_ahead","_law_own","_law_cost_here","_law_fits","_law_some","_law_due_here"] ["_law_entries","_law_ahead","_law_own","_law_cost_here","_law_fits"] (defScope Z07):=by walk_at "sc"
 refine F.ok sc (fun vs H Q E h=>?_) (fun cdv A outer s H vs Q E hr h=>?_)
 · obtain ⟨_,_,_,_,_,_,_,_,rfl,_⟩:=h;rfl
 obtain ⟨e,l,f',w',c,E',A',F',rfl,he,hS,hF,hl,hE,hFl,hc0,hc1,hG,q⟩:=h
 refine ⟨_,(@pss_cons _ _ _ _ _ (ps_if (PW.pt (pw_or (pt_not (pt_val (pe_callB call_isinst rfl T.Z1 (by first | rfl | decide+kernel) (pa_cons (pv 0) (pa_cons (pe_bltn (v:= .ty "list") rfl T.Ze (by first | rfl | decide+kernel) rfl) pa_nil))))) (pw_or1 (pt_cmpR op_ne (pe_callB call_len_seq rfl T.Z3 PySem.boot_len (pa_cons (pv 0) pa_nil)) (pe_callB call_len_seq rfl T.Z3 PySem.boot_len (pa_cons (pv 1) pa_nil)) (nomark _)))))
  (@pss_one _ _ _ (@ps_ret _ _ _ _ pe_bl))
  pss_nil)
  (@pss_cons _ _ _ _ _ (ps_for PassesOwn.never rfl (pi_range1 rfl T.Zb (pa_cons (pe_callB call_len_seq rfl T.Z3 PySem.boot_len (pa_cons (pv 1) pa_nil)) pa_nil)) (pg_name (i:=5) sc.nd rfl (Or.inl rfl))
   (@pss_cons _ _ _ _ _ (ps_set (i:=6) sc.nd rfl (Or.inl rfl) pe_non)
   (@pss_cons _ _ _ _ _ (ps_if (PW.pt (pw_and (pt_cmpR op_ne (pe_op op_and (pv 5) (pv 2)) pe_int (nomark _)) (pw_and1 (pt_val (@pe_ix _ _ _ _ _ _ _ ix_list (pv 4) (pv 5) (fun _ _=>rfl))))))
    (@pss_one _ _ _ (ps_set (i:=6) sc.nd rfl (Or.inl rfl) (pe_callD Z2b hr rfl pass0 (pa_cons (pv 1) (pa_cons (pv 5) (pa_cons (pv 2) (pa_cons (pv 3) pa_nil)))))))
    pss_nil)
   (@pss_one _ _ _ (ps_if (pt_cmpR op_isN (pv 6) pe_non (nomark _))
    (@pss_one _ _ _ (ps_if (pt_cmpR op_notN (@pe_ix _ _ _ _ _ _ _ ix_list (pv 0) (pv 5) (fun _ _=>rfl)) pe_non (nomark _))
     (@pss_one _ _ _ (@ps_ret _ _ _ _ pe_bl))
     pss_nil))
    (@pss_one _ _ _ (ps_if (PW.pt (pw_or (pt_not (pt_val (pe_callD Zo hr rfl pass0 (pa_cons (@pe_ix _ _ _ _ _ _ _ ix_list (pv 0) (pv 5) (fun _ _=>rfl)) pa_nil)))) (pw_or1 (pt_cmpR op_ne (@pe_ix _ _ _ _ _ _ _ ix_list (pv 0) (pv 5) (fun _ _=>rfl)) (pv 6) (nomark _)))))
     (@pss_one _ _ _ (@ps_ret _ _ _ _ pe_bl))
     pss_nil)))))))
  (@pss_one _ _ _ (@ps_ret _ _ _ _ pe_bl)))),?_⟩
 walk_at "st"
 have line:=line_val
 walk_at "go"
 refine ⟨_,.inl (SqL.of he),_,.inl hS,?_⟩
 rw [List.length_map,List.length_map,hE,if_neg (by simp)]
 rename_i rest hrest
 subst hrest
 walk_at "go"
 refine ⟨by rw [List.length_map];omega,?_⟩
 rw [List.length_map]
 refine forR_by (fun i σ H'=>∃(v5 v6:Option V),σ=[some (V.ref e),some (V.ref l),some (V.int w'),some (V.int c),some (V.ref f'),v5,v6]∧H=H') ⟨none,none,rfl,rfl⟩ ?_ ?_
 · rintro i σ H' hi ⟨v5,v6,rfl,hH⟩
   subst hH
   have hxF:atI (F'.map V.bl) (i:Int)=some (V.bl (F'.getD i false)):=atI_nat (by rw [List.getElem?_map,List.getElem?_eq_getElem (by omega),List.getD_eq_getElem?_getD,List.getElem?_eq_getElem (by omega)];rfl)
   obtain ⟨ee,hee⟩:∃ee,E'[i]?=some ee:=⟨_,List.getElem?_eq_getElem (by omega)⟩
   have hxE:atI (E'.map oV) (i:Int)=some (oV ee):=atI_nat (by rw [List.getElem?_map,hee];rfl)
   walk_at "go"
   rename_i rest hrest
   have key:rest [some (V.ref e),some (V.ref l),some (V.int w'),some (V.int c),some (V.ref f'),some (V.int i),some (oV ee)] H:=by
    subst hrest
    cases ee with
    | none=>
     walk_at "go"
     rw [if_pos (show oV none=V.non from rfl)]
     exact ixL_of (SqL.of he) hxE (by rw [if_neg (by simp [oV])])
    | some x=>
     walk_at "go"
     rw [if_neg (by simp [oV])]
     exact ixL_of (SqL.of he) hxE ⟨x,rfl,ixL_of (SqL.of he) hxE ⟨rfl,by rw [if_neg (by simp)]⟩⟩
   have hdue:=hG i ee hee
   by_cases hb:Builtin.bitAnd (i:Int) w'=0
   · rw [if_neg (by simpa using hb)]
     rw [if_neg (fun k=>k.1 hb)]at hdue
     rw [hdue]at key
     exact key
   · rw [if_pos hb]
     refine ixL_of hF hxF ⟨_,rfl,?_⟩
     by_cases hf:F'.getD i false=true
     · rw [if_pos hf]
       rw [if_pos ⟨hb,hf⟩]at hdue
       rw [hdue]at key
       exact ⟨A',hS,hl,hc0,hc1,key⟩
     · rw [if_neg hf]
       rw [if_neg (fun k=>hf k.2)]at hdue
       rw [hdue]at key
       exact key
 · rintro σ H' ⟨v5,v6,rfl,hH⟩
   subst hH
   walk_at "go"
   exact q
theorem Z33{f:Addr}{fd:FuncData}(F:Fun K "_law_least" "_law_least" Z1f f fd)(T:Txt K mg Z0):FnOk P w K mg base CX0 1 f fd ["_law_entries"] (sp46_least K):=by
 have sc:FnScope ["_law_entries"] ["_law_entries"] (defScope Z1f):=by walk_at "sc"
 refine F.ok sc (fun vs H Q E h=>?_) (fun cdv A outer s H vs Q E hr h=>?_)
 · obtain ⟨_,_,_,rfl,_⟩:=h;rfl
 obtain ⟨l,E',m,rfl,hS,hl,hm,hmin,q⟩:=h
 refine ⟨_,(@pss_one _ _ _ (@ps_ret _ _ _ _ (pe_callB (call_minL rfl) rfl T.Z10 (by first | rfl | decide+kernel) (pa_cons (pe_compI "_law_entry" [] rfl rfl (pi_list (pv 0)) (fun b=>(pt_cmpR op_notN (pv 0) pe_non (nomark _))) (fun b=>(pv 0))) pa_nil)))),?_⟩
 walk_at "st"
 have line:=line_val
 walk_at "go"
 refine ⟨⟨_,hS⟩,?_⟩
 refine compL_if (fun x=>!decide (x=V.non)) (fun x=>x) hS (by rw [List.length_map];omega) (fun b x H3 QT hx sm3 qt=>?_) (fun b x H3 Q' hx hp sm3 q'=>?_) fun D H3 hD sm3 hD3=>?_
 · walk_at "go"
   exact qt _ (Same.refl H3)
 · walk_at "go"
   exact q' _ (Same.refl H3)
 have hfl:((E'.map oV).filter fun x=>!decide (x=V.non)).map (fun x=>x)=(E'.filterMap id).map V.int:=by
  clear hm hmin hS hl hD3
  induction E' with
  | nil=>rfl
  | cons x r ih=>
   cases x with
   | none=>exact ih
   | some v=>show V.int v::_=V.int v::_;congr 1
 rw [hfl]at hD3
 walk_at "go"
 refine ⟨E'.filterMap id,SqL.of hD3,fun e=>?_,fun v hv hall=>?_⟩
 · have:=List.mem_filterMap.mpr ⟨some m,hm,(rfl:id (some m)=some m)⟩
   rw [e]at this
   cases this
 have h1:=hall m (List.mem_filterMap.mpr ⟨some m,hm,rfl⟩)
 obtain ⟨x,hx,hxv⟩:=List.mem_filterMap.mp hv
 have hxv:x=some v:=hxv
 rw [hxv]at hx
 have h2:=hmin v hx
 have e:v=m∧True:=⟨by omega,trivial⟩
 rw [e.1]
 exact q _ sm3
theorem Z21{f:Addr}{fd:FuncData}(F:Fun K "_law_lawful_pay" "_law_lawful_pay" Zw f fd)(T:Txt K mg Z0):FnOk P w K mg base CX0 1 f fd ["_law_book","_law_asks","_law_costs","_law_rooms","_law_places_here"] (sp46_pay K):=by
 have sc:FnScope ["_law_book","_law_asks","_law_costs","_law_rooms","_law_places_here","_law_lying","_law_paid","_law_row","_law_name","_law_one"] ["_law_book","_law_asks","_law_costs","_law_rooms","_law_places_here"] (defScope Zw):=by walk_at "sc"
 refine F.ok sc (fun vs H Q E h=>?_) (fun cdv A outer s H vs Q E hr h=>?_)
 · obtain ⟨_,_,_,_,_,_,_,_,_,_,_,_,_,rfl,_⟩:=h;rfl
 obtain ⟨b',a,co,ro,n,rws,ys,ns,C,W,S',G',P',rfl,hb,hbl,hS,hl,hn9,hco,hro,hin,hrow,hS0,hP0,hSS,hst,q⟩:=h
 refine ⟨_,(@pss_cons _ _ _ _ _ (ps_if (PW.pt (pw_or (pt_not (pt_val (pe_callB call_isinst rfl T.Z1 (by first | rfl | decide+kernel) (pa_cons (pv 0) (pa_cons (pe_bltn (v:= .ty "list") rfl T.Ze (by first | rfl | decide+kernel) rfl) pa_nil))))) (pw_or1 (pt_cmpR op_ne (pe_callB call_len_seq rfl T.Z3 PySem.boot_len (pa_cons (pv 0) pa_nil)) (pe_callB call_len_seq rfl T.Z3 PySem.boot_len (pa_cons (pv 1) pa_nil)) (nomark _)))))
  (@pss_one _ _ _ (@ps_ret _ _ _ _ (pe_un un_neg pe_int)))
  pss_nil)
  (@pss_cons _ _ _ _ _ (ps_set (i:=5) sc.nd rfl (Or.inl rfl) (@pe_lst _ _ _ _ pa_nil))
  (@pss_cons _ _ _ _ _ (ps_set (i:=6) sc.nd rfl (Or.inl rfl) pe_int)
  (@pss_cons _ _ _ _ _ (ps_for PassesOwn.never rfl (pi_zip rfl T.Z1l (pa_cons (pv 0) (pa_cons (pv 1) pa_nil))) (pg_tup rfl (pgs_cons (pg_name (i:=7) sc.nd rfl (Or.inl rfl)) (pgs_cons (pg_name (i:=8) sc.nd rfl (Or.inl rfl)) pgs_nil)))
   (@pss_cons _ _ _ _ _ (ps_if (PW.pt (pw_or (pt_not (pt_val (pe_callB call_isinst rfl T.Z1 (by first | rfl | decide+kernel) (pa_cons (pv 7) (pa_cons (pe_bltn (v:= .ty "tuple") rfl T.Z0g (by first | rfl | decide+kernel) rfl) pa_nil))))) (pw_or (pt_cmpR op_ne (pe_callB call_len_seq rfl T.Z3 PySem.boot_len (pa_cons (pv 7) pa_nil)) pe_int (nomark _)) (pw_or (pt_not (pt_val (pe_callB call_isinst rfl T.Z1 (by first | rfl | decide+kernel) (pa_cons (@pe_ix _ _ _ _ _ _ _ ix_tup (pv 7) pe_int (fun _ _=>rfl)) (pa_cons (pe_bltn (v:= .ty "str") rfl T.Z0z (by first | rfl | decide+kernel) rfl) pa_nil))))) (pw_or1 (pt_cmpR op_ne (@pe_ix _ _ _ _ _ _ _ ix_tup (pv 7) pe_int (fun _ _=>rfl)) (pv 8) (nomark _)))))))
    (@pss_one _ _ _ (@ps_ret _ _ _ _ (pe_un un_neg pe_int)))
    pss_nil)
   (@pss_cons _ _ _ _ _ (ps_if (PW.pt (pw_or (pt_not (pt_val (pe_callB call_isinst rfl T.Z1 (by first | rfl | decide+kernel) (pa_cons (@pe_ix _ _ _ _ _ _ _ ix_tup (pv 7) pe_int (fun _ _=>rfl)) (pa_cons (pe_bltn (v:= .ty "bool") rfl T.Z0h (by first | rfl | decide+kernel) rfl) pa_nil))))) (pw_or (pt_cmpR op_ne (@pe_ix _ _ _ _ _ _ _ ix_tup (pv 7) pe_int (fun _ _=>rfl)) (pe_cmpR op_in_seq (pv 8) (pv 5) (by with_unfolding_all rfl)) (nomark _)) (pw_or1 (pt_not (pt_val (pe_callB call_isinst rfl T.Z1 (by first | rfl | decide+kernel) (pa_cons (@pe_ix _ _ _ _ _ _ _ ix_tup (pv 7) pe_int (fun _ _=>rfl)) (pa_cons (pe_bltn (v:= .ty "list") rfl T.Ze (by first | rfl | decide+kernel) rfl) pa_nil)))))))))
    (@pss_one _ _ _ (@ps_ret _ _ _ _ (pe_un un_neg pe_int)))
    pss_nil)
   (@pss_cons _ _ _ _ _ (ps_for PassesOwn.never rfl (pi_list (@pe_ix _ _ _ _ _ _ _ ix_tup (pv 7) pe_int (fun _ _=>rfl))) (pg_name (i:=9) sc.nd rfl (Or.inl rfl))
    (@pss_cons _ _ _ _ _ (ps_if (PW.pt (pw_or (pt_not (pt_val (pe_callB call_isinst rfl T.Z1 (by first | rfl | decide+kernel) (pa_cons (pv 9) (pa_cons (pe_bltn (v:= .ty "str") rfl T.Z0z (by first | rfl | decide+kernel) rfl) pa_nil))))) (pw_or (pt_cmpR op_eq (pv 9) (pv 8) (nomark _)) (pw_or1 (pt_cmpR op_notIn_seq (pv 9) (pv 5) (by with_unfolding_all rfl))))))
     (@pss_one _ _ _ (@ps_ret _ _ _ _ (pe_un un_neg pe_int)))
     pss_nil)
    (@pss_one _ _ _ (ps_expr (pe_bm PySem.F.plainAttrs_list PySem.F.slot_list_remove PySem.F.type_list_remove mt_remove (pv 5) (pa_cons (pv 9) pa_nil))))))
   (@pss_cons _ _ _ _ _ (ps_if (pt_not (pt_val (@pe_ix _ _ _ _ _ _ _ ix_tup (pv 7) pe_int (fun _ _=>rfl))))
    (@pss_cons _ _ _ _ _ (ps_expr (pe_bm PySem.F.plainAttrs_list PySem.F.slot_list_append PySem.F.type_list_append mt_append (pv 5) (pa_cons (pv 8) pa_nil)))
    (@pss_one _ _ _ (ps_set (i:=6) sc.nd rfl (Or.inl rfl) (pe_op op_add (pv 6) (pe_dget (hu_of hr) (pv 2) (pv 8) (fun _ _=>rfl))))))
    pss_nil)
   (@pss_one _ _ _ (ps_if (pt_cmpR op_gt (pe_callB (call_sumL rfl) rfl T.Z0r (by first | rfl | decide+kernel) (pa_cons (pe_comp1 "_law_one" [3] rfl rfl (pi_list (pv 5)) (fun b=>(pe_dget (hu_of hr) (pv 1) (pv 0) (fun _ _=>rfl)))) pa_nil)) (pv 4) (nomark _))
    (@pss_one _ _ _ (@ps_ret _ _ _ _ (pe_un un_neg pe_int)))
    pss_nil)))))))
  (@pss_one _ _ _ (@ps_ret _ _ _ _ (pv 6))))))),?_⟩
 walk_at "st"
 have line:=line_val
 walk_at "go"
 refine ⟨_,.inl (SqL.of hb),_,.inl hS,?_⟩
 rw [List.length_map,List.length_map,hbl,if_neg (by simp)]
 rename_i rest hrest
 subst hrest
 walk_at "go"
 intro ly hly
 have sm0:Same H (upd H ly (.lst [])):=Same.new hly
 have g0:upd H ly (.lst []) ly=some (.lst (([]:List Str).map V.str)):=upd_same
 generalize upd H ly (.lst [])=H0 at sm0 g0 ⊢
 rename_i rest hrest
 subst hrest
 walk_at "go"
 refine ⟨⟨_,SqL.of (sm0 _ _ hb)⟩,⟨_,sm0.seq hS⟩,?_⟩
 refine forZ_by (xs:=rws.map V.ref) (ys:=ys.map V.str) (by rw [List.length_map,List.length_map];exact hbl) (fun i σ H'=>∃(L:List Str) (v7 v8 v9:Option V),σ=[some (V.ref b'),some (V.ref a),some (V.ref co),some (V.ref ro),some (V.int n),some (V.ref ly),some (V.int (P' i)),v7,v8,v9]∧Same H H'∧H' ly=some (.lst (L.map V.str))∧L.Nodup∧∀y,y∈L↔y∈S' i)
  ⟨[],none,none,none,by rw [hP0],sm0,g0,List.nodup_nil,fun y=>by rw [hS0]⟩ (fun i σ H' _ h_=>by obtain ⟨_,_,_,_,_,sm,_⟩:=h_;exact ⟨SqL.of (sm _ _ hb),sm.seq hS⟩) ?_ ?_
 · clear sm0 g0
   rintro i x y0 σ H' tt hx hy0 ⟨L,v7,v8,v9,rfl,sm,hL,nL,hmem⟩ htt
   rw [List.getElem?_map]at hx hy0
   cases hr:rws[i]? with
   | none=>rw [hr]at hx;cases hx
   | some u=>
   cases hy:ys[i]? with
   | none=>rw [hy]at hy0;cases hy0
   | some y=>
   rw [hr]at hx;cases hx
   rw [hy]at hy0;cases hy0
   obtain ⟨gl,hu,hgl⟩:=hrow i u y hr hy
   obtain ⟨st1,st2,st3,st4⟩:=hst i y hy
   obtain ⟨sn,sns,gn,gm⟩:=hSS i
   have hyn:=hin y (List.mem_of_getElem? hy)
   rw [st4]
   clear st4
   walk_at "go"
   refine ⟨_,SqT.of upd_same,rfl,_,_,rfl,_,_,rfl,rfl,?_⟩
   have smt:Same H' (upd H' tt (.tup [.ref u,.str y])):=Same.new htt
   have sm2:=sm.trans smt
   have hL2:=smt _ _ hL
   generalize upd H' tt (.tup [.ref u,.str y])=H2 at sm2 hL2 ⊢
   clear sm htt smt hL
   have hu2:=sm2 _ _ hu
   have hgl2:=sm2 _ _ hgl
   walk_at "go"
   refine ⟨_,.inr (SqT.of hu2),?_⟩
   rw [if_neg (by simp)]
   refine ixT_of (SqT.of hu2) (v:=V.str y) rfl ⟨true,isi_ss,?_⟩
   rw [if_neg (by decide)]
   refine ixT_of (SqT.of hu2) (v:=V.str y) rfl ⟨rfl,?_⟩
   rw [if_neg (by simp)]
   rename_i rest hrest
   subst hrest
   walk_at "go"
   refine ixT_of (SqT.of hu2) (v:=V.bl (decide (y∈S' i))) rfl ⟨true,isi_bb,?_⟩
   rw [if_neg (by decide)]
   refine ixT_of (SqT.of hu2) (v:=V.bl (decide (y∈S' i))) rfl (in_go (SqL.of hL2) ⟨rfl,?_⟩)
   rw [if_neg (fun k=>k (by rw [show decide (y∈L)=decide (y∈S' i) from decide_eq_decide.mpr (hmem y)]))]
   refine ixT_of (SqT.of hu2) (v:=V.ref gl) rfl ⟨true,isi_lstl hgl2,?_⟩
   rw [if_neg (by decide)]
   rename_i rest hrest
   subst hrest
   walk_at "go"
   refine ixT_of (SqT.of hu2) (v:=V.ref gl) rfl ⟨gl,rfl,⟨_,SqL.of hgl2⟩,?_⟩
   refine forL_by (xs:=(G' i).map V.str) (fun j σ H'=>∃(L':List Str) (v9:Option V),σ=[some (V.ref b'),some (V.ref a),some (V.ref co),some (V.ref ro),some (V.int n),some (V.ref ly),some (V.int (P' i)),some (V.ref u),some (V.str y),v9]∧Same H H'∧H' ly=some (.lst (L'.map V.str))∧L'.Nodup∧∀z,z∈L'↔z∈S' i∧z∉(G' i).take j)
    ⟨L,v9,rfl,sm2,hL2,nL,fun z=>by rw [hmem z];simp⟩ (fun j σ H' _ h_=>by obtain ⟨_,_,_,sm,_⟩:=h_;exact SqL.of (sm _ _ hgl)) ?_ ?_
   · clear sm2 hL2 hu2 hgl2 nL hmem
     rintro j x σ H' hx ⟨L',v9',rfl,sm',hL',nL',hm'⟩
     rw [List.getElem?_map]at hx
     cases hg:(G' i)[j]? with
     | none=>rw [hg]at hx;cases hx
     | some g=>
     rw [hg]at hx;cases hx
     have hgG:=List.mem_of_getElem? hg
     have hgS:=(gm g).mp hgG
     have hgy:g≠y:=fun e=>hgS.2 (by rw [e];exact st1)
     have hgt:g∉(G' i).take j:=fun h=>by
      obtain ⟨k,hk⟩:=List.mem_iff_getElem?.mp h
      rw [List.getElem?_take]at hk
      split at hk
      · rename_i hkj
        have e1:=(List.getElem?_eq_some_iff.mp hk)
        have e2:=(List.getElem?_eq_some_iff.mp hg)
        have:=(List.getElem_inj gn).mp (e1.2.trans e2.2.symm)
        omega
      · cases hk
     have hgL:g∈L':=(hm' g).mpr ⟨hgS.1,hgt⟩
     have htk:(G' i).take (j+1)=(G' i).take j++[g]:=by rw [List.take_succ,hg];rfl
     walk_at "go"
     rw [if_neg hgy]
     refine notin_go (SqL.of hL') ⟨_,rfl,?_⟩
     rw [if_neg (by simp [hgL])]
     rename_i rest hrest
     subst hrest
     walk_at "go"
     refine ⟨.inl ⟨rfl,_,SqL.of hL'⟩,L',hL',hgL,same_upd sm' hly,L'.erase g,upd_same,nL'.erase g,fun z=>?_⟩
     rw [nL'.mem_erase_iff,hm' z,htk,List.mem_append,List.mem_singleton]
     exact ⟨fun ⟨a,b,c⟩=>⟨b,fun h=>h.elim c a⟩,fun ⟨a,b⟩=>⟨fun e=>b (.inr e),a,fun h=>b (.inl h)⟩⟩
   · rintro σ H' ⟨L',v9',rfl,sm',hL',nL',hm'⟩
     rw [List.length_map,List.take_length]at hm'
     clear sm2 hL2 hu2 hgl2 nL hmem
     have hm2:∀z,z∈L'↔z∈S' i∧z∈S' (i+1):=fun z=>by
      rw [hm' z]
      refine ⟨fun h=>⟨h.1,?_⟩,fun h=>⟨h.1,fun hg=>((gm z).mp hg).2 h.2⟩⟩
      by_cases hz:z∈S' (i+1)
      · exact hz
      · exact absurd ((gm z).mpr ⟨h.1,hz⟩) h.2
     clear hm'
     have hu3:=sm' _ _ hu
     rename_i rest hrest
     subst hrest
     walk_at "go"
     rename_i rest hrest
     have key:∀(M:List Str) (H5:Hp),Same H H5→H5 ly=some (.lst (M.map V.str))→M.Nodup→(∀z,z∈M↔z∈S' (i+1))→rest [some (V.ref b'),some (V.ref a),some (V.ref co),some (V.ref ro),some (V.int n),some (V.ref ly),some (V.int (if y∈S' i then P' i else P' i+C y)),some (V.ref u),some (V.str y),v9'] H5:=by
      intro M H5 sm5 hM nM hmM
      subst hrest
      generalize (if y∈S' i then P' i else P' i+C y)=pd
      have gR:=sm5 _ _ hro
      have hMn:∀z∈M,z∈ns:=fun z hz=>(hSS (i+1)).2.1 z ((hmM z).mp hz)
      have hMl:M.length≤9:=Nat.le_trans (nd_len nM hMn) hn9
      have hsum:smD W M≤n:=by rw [sm_perm ((List.perm_ext_iff_of_nodup nM (hSS (i+1)).1).mpr hmM)];exact st3
      walk_at "go"
      refine ⟨⟨_,SqL.of hM⟩,?_⟩
      refine compL_pure (rmV W) (SqL.of hM) (by rw [List.length_map];omega) (fun b x H6 Q' hx sm6 q'=>?_) fun D6 hD6=>?_
      · obtain ⟨z,hz,rfl⟩:=List.mem_map.mp hx
        walk_at "go"
        refine ⟨_,?_,q'⟩
        have:=DGet.k (k:=Sum.inr z) (sm6 _ _ gR)
        rw [kvN_val (hMn z hz)]at this
        exact this
      rw [rmV_list]
      refine ⟨D6,rfl,M.map W,SqL.of upd_same,?_⟩
      rw [if_neg (by have h:=hsum;unfold smD at h;omega)]
      exact ⟨sm5.trans (Same.new hD6),M,(Same.new hD6) _ _ hM,nM,hmM⟩
     clear hrest
     refine ixT_of (SqT.of hu3) (v:=V.bl (decide (y∈S' i))) rfl ⟨_,rfl,?_⟩
     by_cases hyS:y∈S' i
     · rw [if_neg (by simp [hyS])]
       rw [if_pos hyS]at key
       refine key L' H' sm' hL' nL' fun z=>?_
       rw [hm2 z]
       refine ⟨fun h=>h.2,fun h=>⟨?_,h⟩⟩
       by_cases e:z=y
       · rw [e];exact hyS
       · exact st2 z h e
     · rw [if_pos (by simp [hyS])]
       rw [if_neg hyS]at key
       walk_at "go"
       have hLl:L'.length≤9:=Nat.le_trans (nd_len nL' fun z hz=>sns z ((hm2 z).mp hz).1) hn9
       refine ⟨.inl ⟨rfl,_,SqL.of hL'⟩,ly,_,_,rfl,rfl,hL',by rw [List.length_map];omega,?_⟩
       have sm6:Same H (upd H' ly (.lst (L'.map V.str++[V.str y]))):=same_upd sm' hly
       have hL6:upd H' ly (.lst (L'.map V.str++[V.str y])) ly=some (.lst ((L'++[y]).map V.str)):=by rw [upd_same,List.map_append];rfl
       generalize upd H' ly (.lst (L'.map V.str++[V.str y]))=H6 at sm6 hL6 ⊢
       have gC:=DGet.k (k:=Sum.inr y) (sm6 _ _ hco)
       rw [kvN_val hyn]at gC
       rename_i rest3 hrest3
       subst hrest3
       walk_at "go"
       refine ⟨_,gC,C y,rfl,key (L'++[y]) H6 sm6 hL6 ?_ fun z=>?_⟩
       · refine List.nodup_append.mpr ⟨nL',List.nodup_cons.mpr ⟨List.not_mem_nil,List.nodup_nil⟩,fun a ha b hb e=>?_⟩
         rw [List.mem_singleton.mp hb]at e
         rw [e]at ha
         exact hyS ((hm2 y).mp ha).1
       · rw [List.mem_append,List.mem_singleton,hm2 z]
         refine ⟨fun h=>h.elim (fun h=>h.2) (fun e=>by rw [e];exact st1),fun h=>?_⟩
         by_cases e:z=y
         · exact .inr e
         · exact .inl ⟨st2 z h e,h⟩
 · rintro σ H' ⟨L,v7,v8,v9,rfl,sm,hL,nL,hmem⟩
   rw [List.length_map,hbl]
   walk_at "go"
   exact q _ sm
theorem Z22{f:Addr}{fd:FuncData}(F:Fun K "_law_table_good" "_law_table_good" Zx f fd)(T:Txt K mg Z0)(Z0d:Def P w K mg base CX0 2 "_law_list_good" ["_law_entries","_law_ahead","_law_own","_law_cost_here","_law_fits"] (sp46_list K)):FnOk P w K mg base CX0 3 f fd ["_law_table","_law_asks","_law_bits_here","_law_costs","_law_fits"] (sp46_table K):=by
 have sc:FnScope ["_law_table","_law_asks","_law_bits_here","_law_costs","_law_fits","_law_ahead","_law_entries","_law_name"] ["_law_table","_law_asks","_law_bits_here","_law_costs","_law_fits"] (defScope Zx):=by walk_at "sc"
 refine F.ok sc (fun vs H Q E h=>?_) (fun cdv A outer s H vs Q E hr h=>?_)
 · obtain ⟨_,_,_,_,_,_,_,_,_,_,_,_,_,rfl,_⟩:=h;rfl
 obtain ⟨l,a,b',co,f',ls,ys,D,ns,B,C,F',E',rfl,hl1,hll,hS,hyl,hb,hco,hys,hF,hF1,hF2,hE0,hEl,hEx,hG,q⟩:=h
 refine ⟨_,(@pss_cons _ _ _ _ _ (ps_if (PW.pt (pw_or (pt_not (pt_val (pe_callB call_isinst rfl T.Z1 (by first | rfl | decide+kernel) (pa_cons (pv 0) (pa_cons (pe_bltn (v:= .ty "list") rfl T.Ze (by first | rfl | decide+kernel) rfl) pa_nil))))) (pw_or1 (pt_cmpR op_ne (pe_callB call_len_seq rfl T.Z3 PySem.boot_len (pa_cons (pv 0) pa_nil)) (pe_callB call_len_seq rfl T.Z3 PySem.boot_len (pa_cons (pv 1) pa_nil)) (nomark _)))))
  (@pss_one _ _ _ (@ps_ret _ _ _ _ pe_bl))
  pss_nil)
  (@pss_cons _ _ _ _ _ (ps_set (i:=5) sc.nd rfl (Or.inl rfl) (pe_op op_cat (@pe_lst _ _ _ _ (pa_cons pe_int pa_nil)) (pe_comp1 "_law_some" [] rfl rfl (pi_list (pe_slice sl_list (pv 4) (po_some pe_int) po_none)) (fun b=>pe_non))))
  (@pss_cons _ _ _ _ _ (ps_for PassesOwn.never rfl (pi_zip rfl T.Z1l (pa_cons (pv 0) (pa_cons (pv 1) pa_nil))) (pg_tup rfl (pgs_cons (pg_name (i:=6) sc.nd rfl (Or.inl rfl)) (pgs_cons (pg_name (i:=7) sc.nd rfl (Or.inl rfl)) pgs_nil)))
   (@pss_cons _ _ _ _ _ (ps_if (pt_not (pt_val (pe_callD Z0d hr rfl pass0 (pa_cons (pv 6) (pa_cons (pv 5) (pa_cons (pe_dget (hu_of hr) (pv 2) (pv 7) (fun _ _=>rfl)) (pa_cons (pe_dget (hu_of hr) (pv 3) (pv 7) (fun _ _=>rfl)) (pa_cons (pv 4) pa_nil))))))))
    (@pss_one _ _ _ (@ps_ret _ _ _ _ pe_bl))
    pss_nil)
   (@pss_one _ _ _ (ps_set (i:=5) sc.nd rfl (Or.inl rfl) (pv 6)))))
  (@pss_one _ _ _ (@ps_ret _ _ _ _ pe_bl))))),?_⟩
 walk_at "st"
 have line:=line_val
 walk_at "go"
 refine ⟨_,.inl (SqL.of hl1),_,.inl hS,?_⟩
 rw [List.length_map,List.length_map,hll,if_neg (by simp)]
 rename_i rest hrest
 subst hrest
 walk_at "go"
 intro p hp
 have sp1:Same H (upd H p (.lst [V.int 0])):=Same.new hp
 have gp1:upd H p (.lst [V.int 0]) p=some (.lst [V.int 0]):=upd_same
 generalize upd H p (.lst [V.int 0])=H1 at sp1 gp1 ⊢
 refine ⟨_,SqL.of (sp1 _ _ hF),fun p1 hp1=>⟨⟨_,SqL.of upd_same⟩,?_⟩⟩
 rw [cut1]
 have sp2:Same H1 (upd H1 p1 (.lst ((F'.map V.bl).drop 1))):=Same.new hp1
 have gp2:upd H1 p1 (.lst ((F'.map V.bl).drop 1)) p1=some (.lst ((F'.map V.bl).drop 1)):=upd_same
 generalize upd H1 p1 (.lst ((F'.map V.bl).drop 1))=H2 at sp2 gp2 ⊢
 refine compL_pure (fun _=>V.non) (SqL.of gp2) (by rw [List.length_drop,List.length_map];omega) (fun b x H' Q' hx sm' q'=>?_) fun D' hD'=>?_
 · walk_at "go"
   exact q'
 have eD:((F'.map V.bl).drop 1).map (fun _=>V.non)=(List.replicate (F'.length - 1) (none:Option Int)).map oV:=by
  rw [List.map_const',List.map_replicate,List.length_drop,List.length_map];rfl
 rw [eD]
 have sp3:Same H2 (upd H2 D' (.lst ((List.replicate (F'.length - 1) (none:Option Int)).map oV))):=Same.new hD'
 have g31:=sp3 _ _ (sp2 _ _ gp1)
 have g32:upd H2 D' (.lst ((List.replicate (F'.length - 1) (none:Option Int)).map oV)) D'=some (.lst ((List.replicate (F'.length - 1) (none:Option Int)).map oV)):=upd_same
 have sm3:=(sp1.trans sp2).trans sp3
 generalize upd H2 D' (.lst ((List.replicate (F'.length - 1) (none:Option Int)).map oV))=H3 at sp3 g31 g32 sm3 ⊢
 refine ⟨p,D',_,_,rfl,rfl,g31,g32,by rw [List.length_map,List.length_replicate];show 1+_≤_;omega,fun ah hah=>?_⟩
 have sm4:Same H (upd H3 ah (.lst ([V.int 0]++(List.replicate (F'.length - 1) (none:Option Int)).map oV))):=sm3.trans (Same.new hah)
 have gah:upd H3 ah (.lst ([V.int 0]++(List.replicate (F'.length - 1) (none:Option Int)).map oV)) ah=some (.lst ((E' 0).map oV)):=by rw [upd_same,hE0];rfl
 generalize upd H3 ah (.lst ([V.int 0]++(List.replicate (F'.length - 1) (none:Option Int)).map oV))=H4 at sm4 gah ⊢
 clear sp1 gp1 sp2 gp2 eD sp3 g31 g32 sm3 hp hp1 hD' hah
 have hl0:(E' 0).length=F'.length:=by rw [hE0,List.length_cons,List.length_replicate];omega
 have hlen:∀i,(E' i).length=F'.length:=fun i=>by
  cases i with
  | zero=>exact hl0
  | succ i=>exact hEl i
 rename_i rest hrest
 subst hrest
 walk_at "go"
 refine ⟨⟨_,SqL.of (sm4 _ _ hl1)⟩,⟨_,sm4.seq hS⟩,?_⟩
 refine forZ_by (xs:=ls.map V.ref) (ys:=ys.map V.str) (by rw [List.length_map,List.length_map];exact hll) (fun i σ H'=>∃(ah:Addr) (v6 v7:Option V),σ=[some (V.ref l),some (V.ref a),some (V.ref b'),some (V.ref co),some (V.ref f'),some (V.ref ah),v6,v7]∧Same H H'∧H' ah=some (.lst ((E' i).map oV)))
  ⟨ah,none,none,rfl,sm4,gah⟩ (fun i σ H' _ h_=>by obtain ⟨_,_,_,_,sm,_⟩:=h_;exact ⟨SqL.of (sm _ _ hl1),sm.seq hS⟩) ?_ ?_
 · clear sm4 gah
   rintro i x y0 σ H' tt hx hy0 ⟨ah,v6,v7,rfl,sm,gah⟩ htt
   rw [List.getElem?_map]at hx hy0
   cases hr:ls[i]? with
   | none=>rw [hr]at hx;cases hx
   | some u=>
   cases hy:ys[i]? with
   | none=>rw [hy]at hy0;cases hy0
   | some y=>
   rw [hr]at hx;cases hx
   rw [hy]at hy0;cases hy0
   obtain ⟨hyD,hyn,c0,c1⟩:=hys y (List.mem_of_getElem? hy)
   have hlg:=hG i y hy
   have hux:=hEx i u hr
   walk_at "go"
   refine ⟨_,SqT.of upd_same,rfl,_,_,rfl,_,_,rfl,rfl,?_⟩
   have smt:Same H' (upd H' tt (.tup [.ref u,.str y])):=Same.new htt
   have sm2:=sm.trans smt
   have hL2:=smt _ _ gah
   generalize upd H' tt (.tup [.ref u,.str y])=H2 at sm2 hL2 ⊢
   clear sm htt smt gah
   have g1:=DGet.k (k:=Sum.inr y) (sm2 _ _ hb)
   rw [kvN_val hyD]at g1
   have g2:=DGet.k (k:=Sum.inr y) (sm2 _ _ hco)
   rw [kvN_val hyn]at g2
   walk_at "go"
   refine ⟨_,g1,_,g2,f',_,rfl,_,rfl,rfl,E' (i+1),sm2 _ _ hux,E' i,SqL.of hL2,F',SqL.of (sm2 _ _ hF),by rw [hlen];exact hF2,by rw [hlen,hlen],by rw [hlen],c0,c1,hlg,?_⟩
   rename_i rest hrest
   subst hrest
   walk_at "go"
   exact sm2 _ _ hux
 · rintro σ H' ⟨ah,v6,v7,rfl,sm,gah⟩
   walk_at "go"
   exact q _ sm
theorem Z3c{f:Addr}{fd:FuncData}(F:Fun K "law" "law" Z0f f fd)(T:Txt K mg Z0)(Za:Def P w K mg base CX0 1 "_law_cell_at" ["_law_script","_law_k"] (sp_cell K))(Z1j:Def P w K mg base CX0 1 "_law_names" ["_law_cell","_law_many"] (sp41_names))(Z1v:Def P w K mg base CX0 2 "_law_cost" ["_law_cell","_law_k"] (sp41_lcost))(Z1w:Def P w K mg base CX0 2 "_law_room" ["_law_cell","_law_k"] (sp41_lroom))(Z17:Def P w K mg base CX0 1 "_law_places" ["_law_cell","_law_widest","_law_total"] (sp41_lplaces))(Z1x:Def P w K mg base CX0 1 "_law_bits" ["_law_asks"] (sp47_worths K))(Z0p:Def P w K mg base CX0 1 "_law_rooms_of" ["_law_some","_law_bits_here","_law_rooms"] (sp46_rooms))(Z0q:DefI P w K mg base CX0 4 "Stock" Z0 ["self","rows"] (sp_initG K Z0))(Z0s:Def P w K mg base CX0 5 "ways_of" ["stock","asks","places"] (sp46_ways K Z0))(Zo:Def P w K mg base CX0 1 "_law_whole" ["_law_found"] (sp41_whole))(Zz:Def P w K mg base CX0 3 "_law_table_good" ["_law_table","_law_asks","_law_bits_here","_law_costs","_law_fits"] (sp46_table K))(Z1k:Def P w K mg base CX0 1 "_law_least" ["_law_entries"] (sp46_least K))(Z00:Def P w K mg base CX0 1 "_law_lawful_pay" ["_law_book","_law_asks","_law_costs","_law_rooms","_law_places_here"] (sp46_pay K)):FnOk P w K mg base CX0 6 f fd ["_law_script"] (sp_law K):=by
 have sc:FnScope ["_law_script","_law_many","_law_names_here","_law_rows","_law_costs","_law_rooms","_law_k","_law_most","_law_asks","_law_widest","_law_places_here","_law_bits_here","_law_fits","_law_stock","_law_handed","_law_found","_law_kept","_law_table","_law_entries"] ["_law_script"] (defScope Z0f):=by walk_at "sc"
 refine F.ok sc (fun vs H Q E h=>?_) (fun cdv A outer s H vs Q E hr h=>?_)
 · obtain ⟨_,_,rfl,_⟩:=h;rfl
 obtain ⟨a,ns,rfl,hS,hl,q⟩:=h
 refine ⟨_,(@pss_cons _ _ _ _ _ (ps_set (i:=1) sc.nd rfl (Or.inr rfl) (pe_op op_add pe_int (pe_op op_mod (pe_callD Za hr rfl pass0 (pa_cons (pv 0) (pa_cons pe_int pa_nil))) pe_int)))
  (@pss_cons _ _ _ _ _ (ps_set (i:=2) sc.nd rfl (Or.inr rfl) (pe_callD Z1j hr rfl pass0 (pa_cons (pe_callD Za hr rfl pass0 (pa_cons (pv 0) (pa_cons pe_int pa_nil))) (pa_cons (pv 1) pa_nil))))
  (@pss_cons _ _ _ _ _ (ps_set (i:=3) sc.nd rfl (Or.inl rfl) (@pe_lst _ _ _ _ pa_nil))
  (@pss_cons _ _ _ _ _ (ps_set (i:=4) sc.nd rfl (Or.inl rfl) pe_dnewK)
  (@pss_cons _ _ _ _ _ (ps_set (i:=5) sc.nd rfl (Or.inr rfl) pe_dnewK)
  (@pss_cons _ _ _ _ _ (ps_for PassesOwn.never rfl (pi_range1 rfl T.Zb (pa_cons (pv 1) pa_nil)) (pg_name (i:=6) sc.nd rfl (Or.inl rfl))
   (@pss_cons _ _ _ _ _ (ps_dput (hu_of hr) (pv 4) (@pe_ix _ _ _ _ _ _ _ ix_list (pv 2) (pv 6) (fun _ _=>rfl)) (pe_callD Z1v hr rfl pass0 (pa_cons (pe_callD Za hr rfl pass0 (pa_cons (pv 0) (pa_cons pe_int pa_nil))) (pa_cons (pv 6) pa_nil))) rfl)
   (@pss_cons _ _ _ _ _ (ps_dput (hu_of hr) (pv 5) (@pe_ix _ _ _ _ _ _ _ ix_list (pv 2) (pv 6) (fun _ _=>rfl)) (pe_callD Z1w hr rfl pass0 (pa_cons (pe_callD Za hr rfl pass0 (pa_cons (pv 0) (pa_cons pe_int pa_nil))) (pa_cons (pv 6) pa_nil))) rfl)
   (@pss_one _ _ _ (ps_expr (pe_bm PySem.F.plainAttrs_list PySem.F.slot_list_append PySem.F.type_list_append mt_append (pv 3) (pa_cons (pe_tup (pa_cons (@pe_ix _ _ _ _ _ _ _ ix_list (pv 2) (pv 6) (fun _ _=>rfl)) (pa_cons (pe_dget (hu_of hr) (pv 4) (@pe_ix _ _ _ _ _ _ _ ix_list (pv 2) (pv 6) (fun _ _=>rfl)) (fun _ _=>rfl)) (pa_cons (pe_dget (hu_of hr) (pv 5) (@pe_ix _ _ _ _ _ _ _ ix_list (pv 2) (pv 6) (fun _ _=>rfl)) (fun _ _=>rfl)) pa_nil)))) pa_nil)))))))
  (@pss_cons _ _ _ _ _ (ps_set (i:=7) sc.nd rfl (Or.inl rfl) pe_int)
  (@pss_cons _ _ _ _ _ (ps_if (pt_cmpR op_lt (pv 1) pe_int (nomark _))
   (@pss_one _ _ _ (ps_set (i:=7) sc.nd rfl (Or.inl rfl) pe_int))
   pss_nil)
  (@pss_cons _ _ _ _ _ (ps_comp1 (i:=8) "_law_cell" [2,1] sc.nd rfl rfl rfl rfl (pi_list (pe_slice sl_list (pv 0) (po_some pe_int) (po_some (pv 7)))) (fun b=>(@pe_ix _ _ _ _ _ _ _ ix_list (pv 1) (pe_op op_mod (pv 0) (pv 2)) (fun _ _=>rfl))))
  (@pss_cons _ _ _ _ _ (ps_set (i:=9) sc.nd rfl (Or.inl rfl) (pe_callB (call_maxL rfl) rfl T.Z1z (by first | rfl | decide+kernel) (pa_cons (pe_op op_cat (@pe_lst _ _ _ _ (pa_cons pe_int pa_nil)) (pe_comp1 "_law_name" [5] rfl rfl (pi_list (pv 8)) (fun b=>(pe_dget (hu_of hr) (pv 1) (pv 0) (fun _ _=>rfl))))) pa_nil)))
  (@pss_cons _ _ _ _ _ (ps_set (i:=10) sc.nd rfl (Or.inr rfl) (pe_callD Z17 hr rfl pass0 (pa_cons (pe_callD Za hr rfl pass0 (pa_cons (pv 0) (pa_cons pe_int pa_nil))) (pa_cons (pv 9) (pa_cons (pe_callB (call_sumV rfl) rfl T.Z0r (by first | rfl | decide+kernel) (pa_cons (pe_bm0 PySem.F.plainAttrs_dict PySem.F.slot_dict_values PySem.F.type_dict_values mt_values (pv 5)) pa_nil)) pa_nil)))))
  (@pss_cons _ _ _ _ _ (ps_set (i:=11) sc.nd rfl (Or.inr rfl) (pe_callD Z1x hr rfl pass0 (pa_cons (pv 8) pa_nil)))
  (@pss_cons _ _ _ _ _ (ps_comp1 (i:=12) "_law_some" [10,11,5] sc.nd rfl rfl rfl rfl (pi_range1 rfl T.Zb (pa_cons (pe_op op_add (pe_callB (call_sumV rfl) rfl T.Z0r (by first | rfl | decide+kernel) (pa_cons (pe_bm0 PySem.F.plainAttrs_dict PySem.F.slot_dict_values PySem.F.type_dict_values mt_values (pv 11)) pa_nil)) pe_int) pa_nil)) (fun b=>(pe_cmpR op_le (pe_callD Z0p hr rfl pass0 (pa_cons (pv 0) (pa_cons (pv 2) (pa_cons (pv 3) pa_nil)))) (pv 1) (nomark _))))
  (@pss_cons _ _ _ _ _ (ps_set (i:=13) sc.nd rfl (Or.inl rfl) (pe_makeS Z0q hr rfl (passS pass0) (pa_cons (pv 3) pa_nil)))
  (@pss_cons _ _ _ _ _ (ps_set (i:=14) sc.nd rfl (Or.inl rfl) (pe_callTy call_list_of rfl T.Ze (by first | rfl | decide+kernel) (pa_cons (pv 8) pa_nil)))
  (@pss_cons _ _ _ _ _ (ps_set (i:=15) sc.nd rfl (Or.inl rfl) (pe_callD Z0s hr rfl pass0 (pa_cons (pv 13) (pa_cons (pv 14) (pa_cons (pv 10) pa_nil)))))
  (@pss_cons _ _ _ _ _ (ps_if (PW.pt (pw_or (pt_not (pt_val (pe_callB call_isinst rfl T.Z1 (by first | rfl | decide+kernel) (pa_cons (pv 15) (pa_cons (pe_bltn (v:= .ty "tuple") rfl T.Z0g (by first | rfl | decide+kernel) rfl) pa_nil))))) (pw_or (pt_cmpR op_ne (pe_callB call_len_seq rfl T.Z3 PySem.boot_len (pa_cons (pv 15) pa_nil)) pe_int (nomark _)) (pw_or (pt_not (pt_val (pe_callD Zo hr rfl pass0 (pa_cons (@pe_ix _ _ _ _ _ _ _ ix_tup (pv 15) pe_int (fun _ _=>rfl)) pa_nil)))) (pw_or1 (pt_cmpR (op_neN 3 hr) (pv 14) (pv 8) (nomark _)))))))
   (@pss_one _ _ _ (@ps_ret _ _ _ _ pe_bl))
   pss_nil)
  (@pss_cons _ _ _ _ _ (ps_if (pt_not (pt_val (pe_callD Zz hr rfl pass0 (pa_cons (@pe_ix _ _ _ _ _ _ _ ix_tup (pv 15) pe_int (fun _ _=>rfl)) (pa_cons (pv 8) (pa_cons (pv 11) (pa_cons (pv 4) (pa_cons (pv 12) pa_nil))))))))
   (@pss_one _ _ _ (@ps_ret _ _ _ _ pe_bl))
   pss_nil)
  (@pss_cons _ _ _ _ _ (ps_if (pt_cmpR op_ne (@pe_ix _ _ _ _ _ _ _ ix_tup (pv 15) pe_int (fun _ _=>rfl)) (pe_callD Z1k hr rfl pass0 (pa_cons (@pe_ix _ _ _ _ _ _ _ ix_list (pe_op op_cat (@pe_lst _ _ _ _ (pa_cons (@pe_lst _ _ _ _ (pa_cons pe_int pa_nil)) pa_nil)) (@pe_ix _ _ _ _ _ _ _ ix_tup (pv 15) pe_int (fun _ _=>rfl))) (pe_un un_neg pe_int) (fun _ _=>rfl)) pa_nil)) (nomark _))
   (@pss_one _ _ _ (@ps_ret _ _ _ _ pe_bl))
   pss_nil)
  (@pss_cons _ _ _ _ _ (ps_if (pt_cmpR op_ne (pe_callD Z00 hr rfl pass0 (pa_cons (@pe_ix _ _ _ _ _ _ _ ix_tup (pv 15) pe_int (fun _ _=>rfl)) (pa_cons (pv 8) (pa_cons (pv 4) (pa_cons (pv 5) (pa_cons (pv 10) pa_nil)))))) (@pe_ix _ _ _ _ _ _ _ ix_tup (pv 15) pe_int (fun _ _=>rfl)) (nomark _))
   (@pss_one _ _ _ (@ps_ret _ _ _ _ pe_bl))
   pss_nil)
  (@pss_cons _ _ _ _ _ (ps_comp3 (i:=16) "_law_name" "_law_there" "_law_gone" [] sc.nd rfl rfl rfl rfl (pi_list (@pe_ix _ _ _ _ _ _ _ ix_tup (pv 15) pe_int (fun _ _=>rfl))) (fun b=>(pe_tup (pa_cons (pv 0) (pa_cons (pv 1) (pa_cons (pe_callTy call_list_of rfl T.Ze (by first | rfl | decide+kernel) (pa_cons (pv 2) pa_nil)) pa_nil))))))
  (@pss_cons _ _ _ _ _ (ps_comp1 (i:=17) "_law_entries" [] sc.nd rfl rfl rfl rfl (pi_list (@pe_ix _ _ _ _ _ _ _ ix_tup (pv 15) pe_int (fun _ _=>rfl))) (fun b=>(pe_callTy call_list_of rfl T.Ze (by first | rfl | decide+kernel) (pa_cons (pv 0) pa_nil))))
  (@pss_cons _ _ _ _ _ (ps_for PassesOwn.never rfl (pi_list (@pe_ix _ _ _ _ _ _ _ ix_tup (pv 15) pe_int (fun _ _=>rfl))) (pg_name (i:=18) sc.nd rfl (Or.inl rfl))
   (@pss_one _ _ _ (ps_expr (pe_bm0 PySem.F.plainAttrs_list PySem.F.slot_list_clear PySem.F.type_list_clear mt_clear (pv 18)))))
  (@pss_cons _ _ _ _ _ (ps_expr (pe_bm0 PySem.F.plainAttrs_list PySem.F.slot_list_clear PySem.F.type_list_clear mt_clear (@pe_ix _ _ _ _ _ _ _ ix_tup (pv 15) pe_int (fun _ _=>rfl))))
  (@pss_one _ _ _ (@ps_ret _ _ _ _ (pe_cmpR (op_eqN 3 hr) (pe_callD Z0s hr rfl pass0 (pa_cons (pv 13) (pa_cons (pv 14) (pa_cons (pv 10) pa_nil)))) (pe_tup (pa_cons (@pe_ix _ _ _ _ _ _ _ ix_tup (pv 15) pe_int (fun _ _=>rfl)) (pa_cons (pv 16) (pa_cons (pv 17) pa_nil)))) (nomark _)))))))))))))))))))))))))))),?_⟩
 walk_at "st"
 have line:=line_val
 walk_at "go"
 obtain ⟨m,hm⟩:∃m:Nat,(m:Int)=1+ns.getD 3 0 % 6:=⟨(1+ns.getD 3 0 % 6).toNat,by omega⟩
 have hm1:1≤m:=by omega
 have hm9:m≤6:=by omega
 rw [← hm]
 refine ⟨m,rfl,by omega,fun np ys H1 hnp sm1 hny hy1 hy2 ynd hyn=>?_⟩
 clear hm
 have hS1:=sm1.seq hS
 walk_at "go"
 intro rp hrp
 walk_at "go"
 intro co hco
 walk_at "go"
 intro ro hro
 walk_at "go"
 have hco1:=none_of (Same.new (o:= .lst []) hrp) hco
 have hro1:=none_of (Same.new (o:= .lst []) hrp) (none_of (Same.new (o:= .dK []) hco) hro)
 have n1:rp≠co:=ne_of_none (show upd H1 rp (.lst []) rp=some (.lst []) from upd_same) hco
 have n2:rp≠ro:=ne_of_none (show upd (upd H1 rp (.lst [])) co (.dK []) rp=some (.lst []) by rw [upd_ne n1];exact upd_same) hro
 have n3:co≠ro:=ne_of_none (show upd (upd H1 rp (.lst [])) co (.dK []) co=some (.dK []) from upd_same) hro
 have sm0:Same H1 (upd (upd (upd H1 rp (.lst [])) co (.dK [])) ro (.dK [])):=((Same.new hrp).trans (Same.new hco)).trans (Same.new hro)
 have g1:upd (upd (upd H1 rp (.lst [])) co (.dK [])) ro (.dK []) rp=some (.lst []):=by rw [upd_ne n2,upd_ne n1];exact upd_same
 have g2:upd (upd (upd H1 rp (.lst [])) co (.dK [])) ro (.dK []) co=some (.dK []):=by rw [upd_ne n3];exact upd_same
 have g3:upd (upd (upd H1 rp (.lst [])) co (.dK [])) ro (.dK []) ro=some (.dK []):=upd_same
 generalize upd (upd (upd H1 rp (.lst [])) co (.dK [])) ro (.dK [])=H2 at sm0 g1 g2 g3 ⊢
 refine forR_by (fun i σ H'=>∃(C R:Str→Int) (as:List Addr) (v6:Option V),σ=[some (V.ref a),some (V.int m),some (V.ref np),some (V.ref rp),some (V.ref co),some (V.ref ro),v6,none,none,none,none,none,none,none,none,none,none,none,none]∧Same H1 H'∧H' rp=some (.lst (as.map V.ref))∧as.length≤i∧i≤as.length∧H' co=some (.dK (kvN (ys.take i) C))∧H' ro=some (.dK (kvN (ys.take i) R))∧(∀y∈ys.take i,0≤C y∧C y≤10 ^ 30∧1≤R y∧R y≤1000)∧(∀(j:Nat) (c:Addr),as[j]?=some c→H' c=some (.tup [.str (ys.getD j Str.empty),.int (C (ys.getD j Str.empty)),.int (R (ys.getD j Str.empty))])))
  ⟨fun _=>0,fun _=>0,[],none,rfl,sm0,g1,Nat.le_refl _,Nat.le_refl _,g2,g3,(fun y hy=>by cases hy),fun j c h=>by simp at h⟩ ?_ ?_
 · rintro i σ H' hi ⟨C,R,as,v6,rfl,sm,e1,e2,e3,e4,e5,e6,e7⟩
   have hil:i < ys.length:=by omega
   have hny':=sm _ _ hny
   have htk:ys.take (i+1)=ys.take i++[ys.getD i Str.empty]:=by rw [List.take_succ,getD_s hil];rfl
   have hyn':ys.getD i Str.empty∉ys.take i:=fun h=>by
    have h2:(ys.take (i+1)).Nodup:=List.Nodup.sublist (List.take_sublist _ _) ynd
    rw [htk,List.nodup_append]at h2
    exact h2.2.2 _ h _ List.mem_cons_self rfl
   have hold:∀j,j < i→ys.getD j Str.empty≠ys.getD i Str.empty:=fun j hj e=>by
    have:=nd_getD ynd (by omega) hil e
    omega
   have hg:atI (ys.map V.str) (i:Int)=some (V.str (ys.getD i Str.empty)):=atI_nat (by rw [List.getElem?_map,getD_s hil];rfl)
   have hlen:(kvN (ys.take i) C).length≤9∧(kvN (ys.take i) R).length≤9:=by rw [kvN_len,kvN_len,List.length_take];omega
   rw [htk]
   have hyD:ys.getD i Str.empty=ys.getD i Str.empty:=rfl
   walk_at "go"
   refine ⟨ns,sm.seq hS1,by decide,hl,fun cv hc0 hc1=>ixL_of (SqL.of hny') hg ?_⟩
   have hputC:=DPut.k (k:=Sum.inr (ys.getD i Str.empty)) (v:=V.int cv) e4 (by omega)
   rw [kvN_snoc hyn']at hputC
   refine ⟨_,hputC,?_⟩
   have sma:Same H1 (upd H' co (.dK (kvN (ys.take i++[ys.getD i Str.empty]) (upF C (ys.getD i Str.empty) cv)))):=same_upd sm hco1
   have a1:upd H' co (.dK (kvN (ys.take i++[ys.getD i Str.empty]) (upF C (ys.getD i Str.empty) cv))) rp=some (.lst (as.map V.ref)):=by rw [upd_ne n1];exact e1
   have a4:upd H' co (.dK (kvN (ys.take i++[ys.getD i Str.empty]) (upF C (ys.getD i Str.empty) cv))) co=some (.dK (kvN (ys.take i++[ys.getD i Str.empty]) (upF C (ys.getD i Str.empty) cv))):=upd_same
   have a5:upd H' co (.dK (kvN (ys.take i++[ys.getD i Str.empty]) (upF C (ys.getD i Str.empty) cv))) ro=some (.dK (kvN (ys.take i) R)):=by rw [upd_ne n3.symm];exact e5
   have a7:∀(j:Nat) (c:Addr),as[j]?=some c→upd H' co (.dK (kvN (ys.take i++[ys.getD i Str.empty]) (upF C (ys.getD i Str.empty) cv))) c=some (.tup [.str (ys.getD j Str.empty),.int (C (ys.getD j Str.empty)),.int (R (ys.getD j Str.empty))]):=fun j c h=>by
    have h7:=e7 j c h
    rw [upd_ne (ne_of h7 e4 (by intro z;cases z))];exact h7
   generalize upd H' co (.dK (kvN (ys.take i++[ys.getD i Str.empty]) (upF C (ys.getD i Str.empty) cv)))=Ha at sma a1 a4 a5 a7 ⊢
   clear e1 e4 e5 e7 sm hny' hputC
   have hnya:=sma _ _ hny
   rename_i rest hrest
   subst hrest
   walk_at "go"
   refine ⟨ns,sma.seq hS1,by decide,hl,fun rv hr0 hr1=>ixL_of (SqL.of hnya) hg ?_⟩
   have hputR:=DPut.k (k:=Sum.inr (ys.getD i Str.empty)) (v:=V.int rv) a5 (by omega)
   rw [kvN_snoc hyn']at hputR
   refine ⟨_,hputR,?_⟩
   have smb:Same H1 (upd Ha ro (.dK (kvN (ys.take i++[ys.getD i Str.empty]) (upF R (ys.getD i Str.empty) rv)))):=same_upd sma hro1
   have b1:upd Ha ro (.dK (kvN (ys.take i++[ys.getD i Str.empty]) (upF R (ys.getD i Str.empty) rv))) rp=some (.lst (as.map V.ref)):=by rw [upd_ne n2];exact a1
   have b4:upd Ha ro (.dK (kvN (ys.take i++[ys.getD i Str.empty]) (upF R (ys.getD i Str.empty) rv))) co=some (.dK (kvN (ys.take i++[ys.getD i Str.empty]) (upF C (ys.getD i Str.empty) cv))):=by rw [upd_ne n3];exact a4
   have b5:upd Ha ro (.dK (kvN (ys.take i++[ys.getD i Str.empty]) (upF R (ys.getD i Str.empty) rv))) ro=some (.dK (kvN (ys.take i++[ys.getD i Str.empty]) (upF R (ys.getD i Str.empty) rv))):=upd_same
   have b7:∀(j:Nat) (c:Addr),as[j]?=some c→upd Ha ro (.dK (kvN (ys.take i++[ys.getD i Str.empty]) (upF R (ys.getD i Str.empty) rv))) c=some (.tup [.str (ys.getD j Str.empty),.int (C (ys.getD j Str.empty)),.int (R (ys.getD j Str.empty))]):=fun j c h=>by
    have h7:=a7 j c h
    rw [upd_ne (ne_of h7 a5 (by intro z;cases z))];exact h7
   generalize upd Ha ro (.dK (kvN (ys.take i++[ys.getD i Str.empty]) (upF R (ys.getD i Str.empty) rv)))=Hb at smb b1 b4 b5 b7 ⊢
   clear a1 a4 a5 a7 sma hnya hputR
   have hnyb:=smb _ _ hny
   have hmem:ys.getD i Str.empty∈ys.take i++[ys.getD i Str.empty]:=List.mem_append_right _ List.mem_cons_self
   have gC:DGet Hb co (.str (ys.getD i Str.empty)) (some (.int cv)):=by
    have:=DGet.k (k:=Sum.inr (ys.getD i Str.empty)) b4
    rw [kvN_val hmem,upF_same]at this
    exact this
   have gR:DGet Hb ro (.str (ys.getD i Str.empty)) (some (.int rv)):=by
    have:=DGet.k (k:=Sum.inr (ys.getD i Str.empty)) b5
    rw [kvN_val hmem,upF_same]at this
    exact this
   rename_i rest hrest
   subst hrest
   walk_at "go"
   refine ⟨.inl ⟨rfl,_,SqL.of b1⟩,ixL_of (SqL.of hnyb) hg (ixL_of (SqL.of hnyb) hg ⟨_,gC,ixL_of (SqL.of hnyb) hg ⟨_,gR,by omega,fun t ht=>?_⟩⟩)⟩
   have nrt:rp≠t:=ne_of_none b1 ht
   refine ⟨rp,_,_,rfl,rfl,by rw [upd_ne nrt];exact b1,by rw [List.length_map];omega,same_upd (smb.trans (Same.new ht)) hrp,upF C (ys.getD i Str.empty) cv,upF R (ys.getD i Str.empty) rv,as++[t],by rw [upd_same,List.map_append];rfl,by rw [List.length_append];show as.length+1≤_;omega,by rw [List.length_append];show _≤as.length+1;omega,by rw [upd_ne n1.symm,upd_ne (ne_of_none b4 ht)];exact b4,by rw [upd_ne n2.symm,upd_ne (ne_of_none b5 ht)];exact b5,fun y hy=>?_,fun j c hj=>?_⟩
   · rcases List.mem_append.mp hy with h | h
     · have ny:y≠ys.getD i Str.empty:=fun e=>hyn' (by rw [← e];exact h)
       rw [upF_ne ny,upF_ne ny];exact e6 y h
     · rw [List.mem_singleton.mp h,upF_same,upF_same];exact ⟨hc0,hc1,hr0,hr1⟩
   · by_cases hji:j < as.length
     · rw [List.getElem?_append_left hji]at hj
       have h7:=b7 j c hj
       have nj:=hold j (by omega)
       rw [upF_ne nj,upF_ne nj,upd_ne (ne_of h7 b1 (by intro z;cases z)),upd_ne (ne_of_none h7 ht)];exact h7
     · rw [List.getElem?_append_right (by omega)]at hj
       have h1:=(List.getElem?_eq_some_iff.mp hj).1
       have ej:j=i:=by simp at h1;omega
       rw [show j - as.length=0 by omega]at hj
       cases hj
       rw [ej,upF_same,upF_same,upd_ne nrt.symm];exact upd_same
 · rintro σ H3 ⟨C,R,as,v6,rfl,sm,e1,e2,e3,e4,e5,e6,e7⟩
   rw [List.take_of_length_le (by omega)]at e4 e5 e6
   have rows:=rows41 (K:=K) e1 (by omega) (by omega) ynd hyn e6 (fun j c h=>SqT.of (e7 j c h))
   have hny3:=sm _ _ hny
   have hS3:=sm.seq hS1
   clear e7 g1 g2 g3 sm0
   walk_at "go"
   rename_i rest0 hrest0
   have mkey:∀mv:Int,(mv=17∨mv=35)→rest0 [some (V.ref a),some (V.int m),some (V.ref np),some (V.ref rp),some (V.ref co),some (V.ref ro),v6,some (V.int mv),none,none,none,none,none,none,none,none,none,none,none] H3:=by
    intro mv hmv
    subst hrest0
    walk_at "go"
    refine ⟨_,hS3,fun cp hcp=>?_⟩
    obtain ⟨cs,hcs,hcl⟩:=cut_mv ns hmv
    rw [hcs]
    clear hcs
    have smc:Same H3 (upd H3 cp (.lst (cs.map V.int))):=Same.new hcp
    refine ⟨⟨_,SqL.of upd_same⟩,?_⟩
    refine compL_pure (ask1 ys m) (SqL.of upd_same) (by rw [List.length_map];omega) (fun b x H' Q' hx sm' q'=>?_) fun D hD=>?_
    · obtain ⟨c,hc,rfl⟩:=List.mem_map.mp hx
      have hk0:=Int.emod_nonneg c (show (m:Int)≠0 by omega)
      have hk1:=Int.emod_lt_of_pos c (show (0:Int) < m by omega)
      walk_at "go"
      refine ixL_of (SqL.of (sm' _ _ (smc _ _ hny3))) (v:=V.str (ys.getD (c % (m:Int)).toNat Str.empty)) ?_ q'
      rw [show c % (m:Int)=(((c % (m:Int)).toNat:Nat):Int) by omega,Int.toNat_natCast]
      exact atI_nat (by rw [List.getElem?_map,getD_s (by omega)];rfl)
    rw [ask1_list]
    have smD:=smc.trans (Same.new (o:= .lst ((cs.map (ask1S ys m)).map V.str)) hD)
    have hzin:∀y∈cs.map (ask1S ys m),y∈ys:=fun y hy=>by
     obtain ⟨c,_,rfl⟩:=List.mem_map.mp hy
     have hk0:=Int.emod_nonneg c (show (m:Int)≠0 by omega)
     have hk1:=Int.emod_lt_of_pos c (show (0:Int) < m by omega)
     exact List.mem_of_getElem? (getD_s (by omega))
    have hzl:(cs.map (ask1S ys m)).length≤30:=by rw [List.length_map];omega
    have hDD:upd (upd H3 cp (.lst (cs.map V.int))) D (.lst ((cs.map (ask1S ys m)).map V.str)) D=some (.lst ((cs.map (ask1S ys m)).map V.str)):=upd_same
    generalize upd (upd H3 cp (.lst (cs.map V.int))) D (.lst ((cs.map (ask1S ys m)).map V.str))=H4 at smD hDD ⊢
    generalize cs.map (ask1S ys m)=zs at hzin hzl hDD
    clear hD smc hcp hcl
    rename_i rest hrest
    have key:∀(ap:Addr) (zs:List Str) (H5:Hp),Same H3 H5→H5 ap=some (.lst (zs.map V.str))→(∀y∈zs,y∈ys)→zs.length≤30→rest [some (V.ref a),some (V.int m),some (V.ref np),some (V.ref rp),some (V.ref co),some (V.ref ro),v6,some (V.int mv),some (V.ref ap),none,none,none,none,none,none,none,none,none,none] H5:=by
     clear hDD hzin hzl smD
     intro ap zs H5 sm5 hap hzin hzl
     subst hrest
     have gC5:=sm5 _ _ e4
     have gR5:=sm5 _ _ e5
     have hS5:=sm5.seq hS3
     have rows5:=rowsame sm5 rows
     walk_at "go"
     intro lp hlp
     have sm6:Same H5 (upd H5 lp (.lst [V.int 1])):=Same.new hlp
     have hlp6:upd H5 lp (.lst [V.int 1]) lp=some (.lst [V.int 1]):=upd_same
     generalize upd H5 lp (.lst [V.int 1])=H6 at sm6 hlp6 ⊢
     refine ⟨⟨_,SqL.of (sm6 _ _ hap)⟩,?_⟩
     refine compL_pure (rmV R) (SqL.of (sm6 _ _ hap)) (by rw [List.length_map];omega) (fun b x H' Q' hx sm' q'=>?_) fun D6 hD6=>?_
     · obtain ⟨z,hz,rfl⟩:=List.mem_map.mp hx
       walk_at "go"
       refine ⟨_,?_,q'⟩
       have:=DGet.k (k:=Sum.inr z) (sm' _ _ (sm6 _ _ gR5))
       rw [kvN_val (hzin z hz)]at this
       exact this
     rw [rmV_list]
     have sm7:Same H6 (upd H6 D6 (.lst ((zs.map R).map V.int))):=Same.new hD6
     have hn6:lp≠D6:=ne_of_none hlp6 hD6
     refine ⟨lp,D6,_,_,rfl,rfl,sm7 _ _ hlp6,upd_same,by rw [List.length_map,List.length_map];show 1+_≤_;omega,fun c6 hc6=>⟨c6,rfl,1::zs.map R,SqL.of upd_same,by simp,fun wv hwm hwx=>?_⟩⟩
     have hw1:1≤wv:=hwx 1 List.mem_cons_self
     have hwz:∀z∈zs,R z≤wv:=fun z hz=>hwx _ (List.mem_cons_of_mem _ (List.mem_map.mpr ⟨z,hz,rfl⟩))
     have hw2:wv≤1000:=by
      rcases List.mem_cons.mp hwm with h | h
      · omega
      · obtain ⟨z,hz,rfl⟩:=List.mem_map.mp h
        exact (e6 z (hzin z hz)).2.2.2
     have sm8:=(sm6.trans sm7).trans (Same.new (o:= .lst ([V.int 1]++(zs.map R).map V.int)) hc6)
     generalize upd (upd H6 D6 (.lst ((zs.map R).map V.int))) c6 (.lst ([V.int 1]++(zs.map R).map V.int))=H8 at sm8 ⊢
     clear sm6 hlp6 sm7 hn6 hD6 hc6 hwm hwx hlp
     have gC8:=sm8 _ _ gC5
     have gR8:=sm8 _ _ gR5
     have hS8:=sm8.seq hS5
     have rows8:=rowsame sm8 rows5
     have hap8:=sm8 _ _ hap
     clear gC5 gR5 hS5 rows5 hap
     rename_i rest hrest
     subst hrest
     walk_at "go"
     have hsum:=sum_in (l:=ys.map R) (M:=1000) (by decide) (fun t ht=>by obtain ⟨y,hy,rfl⟩:=List.mem_map.mp ht;have:=e6 y hy;omega)
     rw [List.length_map]at hsum
     refine ⟨.inr (.inr (.inl ⟨rfl,.inl ⟨_,gR8⟩⟩)),_,gR8,fun vv hvv=>⟨ro,upd_same,_,(Same.new hvv) _ _ gR8,ys.map R,kvN_vals,hw1,hw2,hsum.1,by have:=hsum.2;omega,fun P hP1 hP2=>?_⟩⟩
     have sm9:Same H8 (upd H8 vv (viewO vv ro)):=Same.new hvv
     generalize upd H8 vv (viewO vv ro)=H9 at sm9 ⊢
     have gC9:=sm9 _ _ gC8
     have gR9:=sm9 _ _ gR8
     have hS9:=sm9.seq hS8
     have rows9:=rowsame sm9 rows8
     have hap9:=sm9 _ _ hap8
     clear gC8 gR8 hS8 rows8 hap8 hsum hvv sm8 sm9
     have hzR:∀z∈zs,R z≤P:=fun z hz=>Int.le_trans (hwz z hz) hP1
     have hP0:1≤P:=Int.le_trans hw1 hP1
     clear hwz hP1 hw2
     rename_i rest hrest
     subst hrest
     walk_at "go"
     refine ⟨zs,SqL.of hap9,by omega,fun bd B H10 sm10 hbd hbd10 hB=>?_⟩
     have gC10:=sm10 _ _ gC9
     have gR10:=sm10 _ _ gR9
     have hS10:=sm10.seq hS9
     have rows10:=rowsame sm10 rows9
     have hap10:=sm10 _ _ hap9
     have nbr:bd≠ro:=fun e=>by rw [e,gR9]at hbd;cases hbd
     clear gC9 gR9 hS9 rows9 hap9 sm10 hbd
     rename_i rest hrest
     subst hrest
     walk_at "go"
     have nD:(dis zs).Nodup:=dis_nodup zs
     have h6:(dis zs).length≤6:=Nat.le_trans (nd_len nD fun z hz=>hzin z (mem_dis.mp hz)) (by omega)
     have hba:=bits_all nD hB
     have h64:2 ^ (dis zs).length≤64:=Nat.le_trans (Nat.pow_le_pow_right (by decide) h6) (by decide)
     have h1N:1≤2 ^ (dis zs).length:=Nat.one_le_two_pow
     have hsn:(((dis zs).map B).sum+1).toNat=2 ^ (dis zs).length:=by
      rw [show ((dis zs).map B).sum+1=((2 ^ (dis zs).length:Nat):Int) from hba,Int.toNat_natCast]
     have hsb:((dis zs).map B).sum+1=((2 ^ (dis zs).length:Nat):Int):=hba
     refine ⟨.inr (.inr (.inl ⟨rfl,.inl ⟨_,hbd10⟩⟩)),_,hbd10,fun vv hvv=>⟨bd,upd_same,_,(Same.new hvv) _ _ hbd10,(dis zs).map B,kvN_vals,by omega,by omega,?_⟩⟩
     rw [hsn]
     have smv:Same H10 (upd H10 vv (viewO vv bd)):=Same.new hvv
     generalize upd H10 vv (viewO vv bd)=H11 at smv ⊢
     have gC11:=smv _ _ gC10
     have gR11:=smv _ _ gR10
     have hS11:=smv.seq hS10
     have rows11:=rowsame smv rows10
     have hap11:=smv _ _ hap10
     have hbd11:=smv _ _ hbd10
     clear gC10 gR10 hS10 rows10 hap10 hbd10 smv hba hsn hsb hvv
     refine compR_mk (fun i y _=>y=V.bl (decide (smD R (stL (dis zs) i)≤P))) (fun i y H H' l zs h _ _=>h) (by omega) (fun b i H' Q' hi sm' q'=>?_) (fun Df yl H12 hDf sm12 hyD hyl hall=>?_)
     · walk_at "go"
       refine ⟨i,by rfl,dis zs,ys,B,sm' _ _ hbd11,R,sm' _ _ gR11,nbr,fun z hz=>hzin z (mem_dis.mp hz),h6,fun H5 sm5=>q' _ _ sm5 ?_⟩
       have e:((dis zs).filter fun z=>decide (Builtin.bitAnd (i:Int) (B z)≠0))=stL (dis zs) i:=by
        unfold stL
        exact List.filter_congr fun z hz=>by rw [hB.wr nD hz]
       rw [e]
     obtain ⟨F',hF'⟩:∃F':List Bool,F'=(List.range (2 ^ (dis zs).length)).map fun i=>decide (smD R (stL (dis zs) i)≤P):=⟨_,rfl⟩
     have hFl:F'.length=2 ^ (dis zs).length:=by rw [hF',List.length_map,List.length_range]
     have hFg:∀h,h < 2 ^ (dis zs).length→F'.getD h false=decide (smD R (stL (dis zs) h)≤P):=fun h hh=>by
      rw [hF',List.getD_eq_getElem?_getD,List.getElem?_map,List.getElem?_range hh];rfl
     have eyl:yl=F'.map V.bl:=by
      rw [hF',List.map_map]
      refine List.ext_getElem? fun i=>?_
      rw [List.getElem?_map]
      by_cases hi:i < 2 ^ (dis zs).length
      · rw [List.getElem?_range hi,List.getElem?_eq_getElem (by omega)]
        exact congrArg some (hall i _ (List.getElem?_eq_getElem (by omega)))
      · rw [List.getElem?_eq_none (by omega),List.getElem?_eq_none (by rw [List.length_range];omega)];rfl
     rw [eyl]at hyD
     clear hF' eyl hall hyl
     have gC12:=sm12 _ _ gC11
     have gR12:=sm12 _ _ gR11
     have hS12:=sm12.seq hS11
     have rows12:=rowsame sm12 rows11
     have hap12:=sm12 _ _ hap11
     have hbd12:=sm12 _ _ hbd11
     clear gC11 gR11 hS11 rows11 hap11 hbd11 sm12 hDf
     rename_i rest hrest
     subst hrest
     walk_at "go"
     intro st dx hst hdx ne1
     obtain ⟨rw0,r1,r2,r3,r4⟩:=rows12.init
     have smx:Same H12 (upd (upd H12 dx (.own st)) st (.ins Z0 dx [])):=fun b o e=>by rw [upd_ne (ne_of_none e hst),upd_ne (ne_of_none e hdx)];exact e
     refine ⟨dx,upd_same,rw0,by rw [r1];exact smx.seq rows12.l,fun t ht=>smx.tup (r2 t ht),r3,fun H13 sb13 stk=>?_⟩
     rw [r4]at stk
     have sm13:Same H12 H13:=same_made hst hdx sb13
     clear r1 r2 r3 r4 smx sb13 rows12 hst hdx ne1
     rename_i rest hrest
     subst hrest
     walk_at "go"
     refine ⟨_,.inl (SqL.of (sm13 _ _ hap12)),fun hd hhd=>?_⟩
     have sm14:Same H13 (upd H13 hd (.lst (zs.map V.str))):=Same.new hhd
     have hhd14:upd H13 hd (.lst (zs.map V.str)) hd=some (.lst (zs.map V.str)):=upd_same
     generalize upd H13 hd (.lst (zs.map V.str))=H14 at sm14 hhd14 ⊢
     have sm124:=sm13.trans sm14
     have hap14:=sm124 _ _ hap12
     have hbd14:=sm124 _ _ hbd12
     have stk14:=StockAt.same sm14 stk
     have gC14:=sm124 _ _ gC12
     have gR14:=sm124 _ _ gR12
     have hS14:=sm124.seq hS12
     have hyD14:=sm124 _ _ hyD
     clear hap12 sm13 sm14 stk hyD gC12 gR12 hS12 hhd sm124 hbd12
     have hcc:∀y∈zs,cst (tsF C R ys) y=C y∧rm (tsF C R ys) y=R y:=fun y hy=>tsF_cst ynd (hzin y hy)
     have F1:(tsF C R ys).map (·.1)=ys:=tsF_names
     have hnds:((tsF C R ys).map (·.1)).Nodup:=by rw [F1];exact ynd
     have hins:∀y∈zs,y∈(tsF C R ys).map (·.1):=fun y hy=>by rw [F1];exact hzin y hy
     have hrms:∀y∈zs,rm (tsF C R ys) y≤P:=fun y hy=>by rw [(hcc y hy).2];exact hzR y hy
     generalize tsF C R ys=ts at stk14 hcc F1 hnds hins hrms
     rename_i rest hrest
     subst hrest
     walk_at "go"
     refine ⟨ts,stk14,hnds,zs,SqL.of hhd14,hzl,hins,hrms,hP0,hP2,h6,fun t b l rws ls pp H16 sm16 hb0 hl0 hx0 hlp told=>?_⟩
     rename_i rest hrest
     subst hrest
     have ht16:=told.tup
     have hhd16:=sm16 _ _ hhd14
     have hap16:=sm16 _ _ hap14
     walk_at "go"
     refine ⟨_,.inr (SqT.of ht16),?_⟩
     rw [if_neg (by simp)]
     refine ixT_of (SqT.of ht16) rfl ⟨_,rfl,?_⟩
     have hlk:LikeR K 3 H16 (V.ref hd) (V.ref ap):=⟨hd,ap,_,_,rfl,rfl,.inl ⟨SqL.of hhd16,SqL.of hap16⟩,rfl,fun i x y hx hy=>by
      rw [hx]at hy
      cases hy
      obtain ⟨z,_,rfl⟩:=List.mem_map.mp (List.mem_of_getElem? hx)
      exact LikeN.flat rfl⟩
     refine ⟨hlk,?_⟩
     rename_i rest hrest
     subst hrest
     walk_at "go"
     refine ixT_of (SqT.of ht16) (v:=V.ref l) rfl ?_
     refine ⟨l,rfl,ls,told.tabl,zs,told.tlen,SqL.of hap16,hzl,dis zs,ys,B,sm16 _ _ hbd14,C,sm16 _ _ gC14,fun y hy=>⟨mem_dis.mpr hy,hzin y hy,(e6 y (hzin y hy)).1,(e6 y (hzin y hy)).2.1⟩,F',sm16 _ _ hyD14,by omega,by omega,E46 ts zs P F'.length,rfl,fun i=>by rw [e46_len,hFl],told.ent,fun i z hz=>e46_LG hB hcc hFg hz,fun H17 sm17=>?_⟩
     have told17:=told.same sm17
     have smA:=sm16.trans sm17
     have hap17:=sm17 _ _ hap16
     have gC17:=smA _ _ gC14
     have gR17:=smA _ _ gR14
     have ht17:=told17.tup
     clear ht16 hhd16 hap16 hlk sm17 told hFg
     rename_i rest hrest
     subst hrest
     walk_at "go"
     refine ixT_of (SqT.of ht17) (v:=V.int pp.1) rfl ?_
     refine ⟨by omega,fun z0 hz0=>⟨by omega,fun z1 hz1=>?_⟩⟩
     have sa:Same H17 (upd H17 z0 (.lst [V.int 0])):=Same.new hz0
     have ga:upd H17 z0 (.lst [V.int 0]) z0=some (.lst [V.int 0]):=upd_same
     generalize upd H17 z0 (.lst [V.int 0])=Ha at sa ga hz1 ⊢
     have sb:Same Ha (upd Ha z1 (.lst [V.ref z0])):=Same.new hz1
     have gb:upd Ha z1 (.lst [V.ref z0]) z1=some (.lst [V.ref z0]):=upd_same
     generalize upd Ha z1 (.lst [V.ref z0])=Hb at sb gb ⊢
     have sab:=sa.trans sb
     refine ixT_of (SqT.of (sab _ _ ht17)) (v:=V.ref l) rfl ⟨z1,l,_,_,rfl,rfl,gb,sab _ _ told17.tabl,by rw [List.length_map,told17.tlen];show 1+_≤_;omega,fun z2 hz2=>?_⟩
     have sc':Same Hb (upd Hb z2 (.lst ([V.ref z0]++ls.map V.ref))):=Same.new hz2
     have gc:upd Hb z2 (.lst ([V.ref z0]++ls.map V.ref)) z2=some (.lst ([V.ref z0]++ls.map V.ref)):=upd_same
     generalize upd Hb z2 (.lst ([V.ref z0]++ls.map V.ref))=Hc at sc' gc ⊢
     have sac:=sab.trans sc'
     obtain ⟨zl,hzl1,hzl2⟩:∃zl:Addr,atI ([V.ref z0]++ls.map V.ref) (-1)=some (V.ref zl)∧Hc zl=some (.lst (((TB ts zs P zs.length).map payO).map oV)):=by
      by_cases hn:ls=[]
      · have hz0':zs.length=0:=by rw [← told17.tlen,hn];rfl
        refine ⟨z0,by rw [hn];rfl,?_⟩
        rw [hz0']
        exact (sb.trans sc') _ _ ga
      · have hlt:0 < ls.length:=by cases ls with | nil=>exact absurd rfl hn | cons=>simp
        obtain ⟨x,hx⟩:∃x,ls[ls.length - 1]?=some x:=⟨_,List.getElem?_eq_getElem (by omega)⟩
        refine ⟨x,last_at (as:=z0::ls) (i:=ls.length) rfl ?_,?_⟩
        · rw [show ls.length=(ls.length - 1)+1 by omega,List.getElem?_cons_succ];exact hx
        · have:=sac _ _ (told17.ent _ x hx)
          rw [show ls.length - 1+1=zs.length by rw [← told17.tlen];omega]at this
          exact this
     have hle:=least_ent hlp
     refine ixL_of (SqL.of gc) hzl1 ⟨zl,rfl,_,SqL.of hzl2,by rw [List.length_map];exact Nat.le_trans tb_len h64,pp.1,hle.1,hle.2,fun H18 sm18=>⟨rfl,?_⟩⟩
     rw [if_neg (by simp)]
     have smB:=sac.trans sm18
     have told18:=told17.same smB
     have ht18:=told18.tup
     have hap18:=smB _ _ hap17
     have gC18:=smB _ _ gC17
     have gR18:=smB _ _ gR17
     have sm48:=smA.trans smB
     clear sa ga sb gb sab sc' gc sac hzl1 hzl2 hle told17 ht17 hap17 gC17 gR17 hz0 hz1 hz2 smA smB sm18
     rename_i rest hrest
     subst hrest
     walk_at "go"
     refine ixT_of (SqT.of ht18) (v:=V.ref b) rfl ?_
     have hS00:stL (dis zs) (HI ts zs P pp 0)=[]:=by rw [hi_0 hlp];exact st_zero
     refine ⟨b,rfl,rws,told18.book,zs,told18.blen,SqL.of hap18,hzl,ys,by omega,C,gC18,R,gR18,hzin,fun i=>stL (dis zs) (HI ts zs P pp i),fun i=>(dis zs).filter fun y=>decide (y∈stL (dis zs) (HI ts zs P pp i)) && !decide (y∈stL (dis zs) (HI ts zs P pp (i+1))),told18.row,hS00,PD ts zs P pp,pd_0 hlp,fun i=>⟨st_nd nD,fun y hy=>hzin y (mem_dis.mp (st_sub y hy)),nD.sublist List.filter_sublist,fun y=>gone_mem st_sub⟩,fun i z hz=>book_step hcc hlp hz,fun H19 sm19=>ixT_of (SqT.of (sm19 _ _ ht18)) (v:=V.int pp.1) rfl ⟨rfl,?_⟩⟩
     rw [pd_end hlp,if_neg (by simp)]
     have told19:=told18.same sm19
     have ht19:=told19.tup
     have sm49:=sm48.trans sm19
     clear hS00 told18 ht18 hap18 gC18 gR18 sm48 sm19
     rename_i rest hrest
     subst hrest
     walk_at "go"
     refine ixT_of (SqT.of ht19) (v:=V.ref b) rfl ⟨b,rfl,⟨_,SqL.of told19.book⟩,?_⟩
     obtain ⟨gf,hgf⟩:=told19.rows
     refine N14.compL_3mk (fun i=>V.str (zR zs i)) (fun i=>V.bl (bR ts zs P pp i)) (fun i=>V.ref (gf i)) (fun D i y H=>∃u gl,y=V.ref u∧u≠D∧gl≠D∧H19 u=none∧H19 gl=none∧H u=some (.tup [.str (zR zs i),.bl (bR ts zs P pp i),.ref gl])∧H gl=some (.lst ((gR ts zs P pp i).map V.str))) (fun D i y H H' ⟨u,gl,p1,p2,p3,p4,p5,p6,p7⟩ sb=>⟨u,gl,p1,p2,p3,p4,p5,sb _ _ p6 p2,sb _ _ p7 p3⟩) (SqL.of told19.book) (by rw [told19.blen];omega) (fun i p hp=>SqT.of (hgf i p hp).1) (fun bb D i H' Q' ll hi sm' hD hDl q'=>?_) (fun Dk kl H20 hDk sm20 hkD hkl hkall=>?_)
     · obtain ⟨u0,hu0⟩:∃u,rws[i]?=some u:=⟨_,List.getElem?_eq_getElem hi⟩
       have hg':=sm' _ _ (hgf i u0 hu0).2
       walk_at "go"
       refine ⟨_,.inl (SqL.of hg'),fun gl hgl=>⟨by omega,fun u hu=>?_⟩⟩
       exact q' _ _ ((Same.new hgl).trans (Same.new hu)) ⟨u,gl,rfl,(ne_of_none ((Same.new hgl) _ _ hDl) hu).symm,(ne_of_none hDl hgl).symm,snone (sm'.trans (Same.new hgl)) hu,snone sm' hgl,upd_same,(Same.new hu) _ _ upd_same⟩
     have told20:=told19.same sm20
     have ht20:=told20.tup
     have sm40:=sm49.trans sm20
     rename_i rest hrest
     subst hrest
     walk_at "go"
     refine ixT_of (SqT.of ht20) (v:=V.ref l) rfl ⟨l,rfl,⟨_,SqL.of told20.tabl⟩,?_⟩
     refine compL_mkX (fun D i y H=>∃x,y=V.ref x∧x≠D∧H20 x=none∧H x=some (.lst (((TB ts zs P (i+1)).map payO).map oV))) (fun {D i y H H'} ⟨x,e1,e2,e4,e3⟩ sb=>⟨x,e1,e2,e4,sb _ _ e3 e2⟩) (SqL.of told20.tabl) (by rw [List.length_map,told20.tlen];omega) (fun bb D i x H' Q' hx sm' hD ⟨zz,hzz⟩ q'=>?_) (fun Dt tl H21 hDt sm21 htD htl htall=>?_)
     · rw [List.getElem?_map]at hx
       cases ha:ls[i]? with
       | none=>rw [ha]at hx;cases hx
       | some a'=>
       rw [ha]at hx
       cases hx
       walk_at "go"
       exact ⟨_,.inl (SqL.of (sm' _ _ (told20.ent i a' ha))),fun l' hl'=>q' _ _ (Same.new hl') ⟨l',rfl,(ne_of_none hzz hl').symm,snone sm' hl',upd_same⟩⟩
     have told21:=told20.same sm21
     have ht21:=told21.tup
     have sm41:=sm40.trans sm21
     rename_i rest hrest
     subst hrest
     walk_at "go"
     refine ixT_of (SqT.of ht21) (v:=V.ref l) rfl ⟨l,rfl,⟨_,SqL.of told21.tabl⟩,?_⟩
     have hlo:=told21.l_out
     refine forL_by (xs:=ls.map V.ref) (fun i σ H'=>∃(v18:Option V),σ=[some (V.ref a),some (V.int m),some (V.ref np),some (V.ref rp),some (V.ref co),some (V.ref ro),v6,some (V.int mv),some (V.ref ap),some (V.int wv),some (V.int P),some (V.ref bd),some (V.ref Df),some (V.ref st),some (V.ref hd),some (V.ref t),some (V.ref Dk),some (V.ref Dt),v18]∧HX ls H21 H')
      ⟨none,rfl,fun c o e _=>e,fun x hx=>by obtain ⟨i,hi⟩:=List.mem_iff_getElem?.mp hx;exact ⟨_,told21.ent i x hi⟩⟩ (fun i σ H' _ h_=>by obtain ⟨_,_,hx⟩:=h_;exact SqL.of (hx.1 _ _ told21.tabl hlo)) ?_ ?_
     · rintro i x σ H' hx ⟨v18,rfl,hX⟩
       rw [List.getElem?_map]at hx
       cases ha:ls[i]? with
       | none=>rw [ha]at hx;cases hx
       | some a'=>
       rw [ha]at hx
       cases hx
       have hal:=List.mem_of_getElem? ha
       obtain ⟨xs,hxs⟩:=hX.2 a' hal
       walk_at "go"
       exact ⟨.inl ⟨rfl,_,SqL.of hxs⟩,xs,hxs,hX.clear hal⟩
     · rintro σ H' ⟨v18,rfl,hX⟩
       have ht22:=hX.1 _ _ told21.tup told21.t_out
       rename_i rest hrest
       subst hrest
       walk_at "go"
       refine ixT_of (SqT.of ht22) (v:=V.ref b) rfl ?_
       obtain ⟨bx,hbx⟩:∃bx,H' b=some (.lst bx):=by
        by_cases hm:b∈ls
        · exact hX.2 b hm
        · exact ⟨_,hX.1 _ _ told21.book hm⟩
       refine ⟨.inl ⟨rfl,_,SqL.of hbx⟩,b,rfl,bx,hbx,?_⟩
       have hY:∀c o,H21 c=some o→c∉ls→c≠b→upd H' b (.lst []) c=some o:=fun c o e n1 n2=>by rw [upd_ne n2];exact hX.1 c o e n1
       generalize upd H' b (.lst [])=H22 at hY ⊢
       have sm42:Same H14 H22:=fun c o e=>hY c o (sm41 _ _ e) (fun hm=>by rw [hx0 c hm]at e;cases e) (fun k=>by rw [k,hb0]at e;cases e)
       have out19:∀c,H19 c=none→c∉ls∧c≠b:=fun c hc=>by
        constructor
        · intro hm
          obtain ⟨i,hi⟩:=List.mem_iff_getElem?.mp hm
          rw [told19.ent i c hi]at hc
          cases hc
        · intro k
          rw [k,told19.book]at hc
          cases hc
       have ht23:=hY _ _ told21.tup told21.t_out told21.t_b
       have hDk2:H22 Dk=some (.lst kl):=hY _ _ (sm21 _ _ hkD) (out19 _ hDk).1 (out19 _ hDk).2
       have hDt2:H22 Dt=some (.lst tl):=hY _ _ htD (out19 _ (snone sm20 hDt)).1 (out19 _ (snone sm20 hDt)).2
       have hk2:∀i y,kl[i]?=some y→∃u gl,y=V.ref u∧H22 u=some (.tup [.str (zR zs i),.bl (bR ts zs P pp i),.ref gl])∧H22 gl=some (.lst ((gR ts zs P pp i).map V.str)):=fun i y h=>by
        obtain ⟨u,gl,p1,p2,p3,p4,p5,p6,p7⟩:=hkall i y h
        exact ⟨u,gl,p1,hY _ _ (sm21 _ _ p6) (out19 _ p4).1 (out19 _ p4).2,hY _ _ (sm21 _ _ p7) (out19 _ p5).1 (out19 _ p5).2⟩
       have ht2:∀i y,tl[i]?=some y→∃x,y=V.ref x∧H22 x=some (.lst (((TB ts zs P (i+1)).map payO).map oV)):=fun i y h=>by
        obtain ⟨x,p1,p2,p3,p4⟩:=htall i y h
        exact ⟨x,p1,hY _ _ p4 (out19 _ (snone sm20 p3)).1 (out19 _ (snone sm20 p3)).2⟩
       have hkl':kl.length=zs.length:=by rw [hkl];exact told19.blen
       have htl':tl.length=zs.length:=by rw [htl,List.length_map];exact told19.tlen
       clear hY out19 hkall htall hX hbx ht22 hlo told21 ht21 told20 ht20 hkl htl hkD htD hgf sm41 sm40 sm49 told19 ht19
       rename_i rest hrest
       subst hrest
       walk_at "go"
       refine ⟨ts,StockAt.same sm42 stk14,hnds,zs,SqL.of (sm42 _ _ hhd14),hzl,hins,hrms,hP0,hP2,h6,fun t2 b2 l2 rws2 ls2 pp2 H23 sm23 hb2 hl2 hx2 hlp2 told2=>?_⟩
       have epp:=Option.some.inj (hlp.symm.trans hlp2)
       subst epp
       refine ixT_of (SqT.of (sm23 _ _ ht23)) (v:=V.int pp.1) rfl ⟨by omega,fun t3 ht3=>⟨?_,q _⟩⟩
       have smz:Same H23 (upd H23 t3 (.tup [V.int pp.1,V.ref Dk,V.ref Dt])):=Same.new ht3
       have gz:upd H23 t3 (.tup [V.int pp.1,V.ref Dk,V.ref Dt]) t3=some (.tup [V.int pp.1,V.ref Dk,V.ref Dt]):=upd_same
       generalize upd H23 t3 (.tup [V.int pp.1,V.ref Dk,V.ref Dt])=Hz at smz gz ⊢
       have sm2z:=sm23.trans smz
       exact told_like (told2.same smz) gz (sm2z _ _ hDk2) hkl' (fun i y h=>by obtain ⟨u,gl,p1,p2,p3⟩:=hk2 i y h;exact ⟨u,gl,p1,sm2z _ _ p2,sm2z _ _ p3⟩) (sm2z _ _ hDt2) htl' (fun i y h=>by obtain ⟨x,p1,p2⟩:=ht2 i y h;exact ⟨x,p1,sm2z _ _ p2⟩)
    clear hrest
    exact key D zs H4 smD hDD hzin hzl
   split
   · exact mkey 35 (.inr rfl)
   · exact mkey 17 (.inl rfl)
end
theorem all_mk{l:W.OpenLaw}{w:World}{K:W.Frag}{h:Heap}{mg:Str→Option Value}{fa f0 f1 f2 f3 f4 f5 f6 f7 f8 f9 f10 f11 f12 f13 f14 f15 f16 f17 f18 f19 f20 f21 f22 f23 f24 f25 f26 f27 f28 f29 f30 f31 f32 f33 f34 f35 f36 f37 f38 Z0:Addr}(X:K.In h)(G:h.Ns mainGlobals mg)(hfa:mg "law"=some (.ref fa))
 {od38 an38:Option Addr} {sl38:Array (Option Value)} {oc38 kV38 dc38 pm38 cd38 ct38:Value}
 {d0 d1 d2 d3 d4 d5 d6 d7 d8 d9 d10 d11 d12 d13 d14 d15 d16 d17 d18 d19 d20 d21 d22 d23 d24 d25 d26 d27 d28 d29 d30 d31 d32 d33 d34 d35 d36 d37:FuncData}
 (a0:W.nsIn K mainGlobals "is_whole"=some (some (.ref f0))) (F0:Fun K "is_whole" "is_whole" Z12 f0 d0)
 (a1:W.nsIn K mainGlobals "is_within"=some (some (.ref f1))) (F1:Fun K "is_within" "is_within" Z0t f1 d1)
 (a2:W.nsIn K mainGlobals "check_places"=some (some (.ref f2))) (F2:Fun K "check_places" "check_places" Zv f2 d2)
 (a3:W.nsIn K mainGlobals "made_of"=some (some (.ref f3))) (F3:Fun K "made_of" "made_of" Z18 f3 d3)
 (a4:W.nsIn K mainGlobals "is_name"=some (some (.ref f4))) (F4:Fun K "is_name" "is_name" Z19 f4 d4)
 (a5:W.nsIn K mainGlobals "check_thing"=some (some (.ref f5))) (F5:Fun K "check_thing" "check_thing" Z02 f5 d5)
 (M6:Mk K Z0 f6) (F6:Fun K "__init__" "Stock.__init__" Z0i f6 d6)
 (M7:Meth K Z0 "has" f7) (F7:Fun K "has" "Stock.has" Z0u f7 d7)
 (M8:Meth K Z0 "thing_of" f8) (F8:Fun K "thing_of" "Stock.thing_of" Zl f8 d8)
 (M9:Meth K Z0 "room_of" f9) (F9:Fun K "room_of" "Stock.room_of" Zq f9 d9)
 (M10:Meth K Z0 "cost_of" f10) (F10:Fun K "cost_of" "Stock.cost_of" Zr f10 d10)
 (a11:W.nsIn K mainGlobals "check_asks"=some (some (.ref f11))) (F11:Fun K "check_asks" "check_asks" Z0j f11 d11)
 (a12:W.nsIn K mainGlobals "worths_of"=some (some (.ref f12))) (F12:Fun K "worths_of" "worths_of" Z0v f12 d12)
 (a13:W.nsIn K mainGlobals "rooms_of_sets"=some (some (.ref f13))) (F13:Fun K "rooms_of_sets" "rooms_of_sets" Zs f13 d13)
 (a14:W.nsIn K mainGlobals "is_in"=some (some (.ref f14))) (F14:Fun K "is_in" "is_in" Z23 f14 d14)
 (a15:W.nsIn K mainGlobals "has_all"=some (some (.ref f15))) (F15:Fun K "has_all" "has_all" Z1a f15 d15)
 (a16:W.nsIn K mainGlobals "known_ways"=some (some (.ref f16))) (F16:Fun K "known_ways" "known_ways" Z0k f16 d16)
 (a17:W.nsIn K mainGlobals "served_ways"=some (some (.ref f17))) (F17:Fun K "served_ways" "served_ways" Z03 f17 d17)
 (a18:W.nsIn K mainGlobals "ways_behind"=some (some (.ref f18))) (F18:Fun K "ways_behind" "ways_behind" Z04 f18 d18)
 (a19:W.nsIn K mainGlobals "all_ways"=some (some (.ref f19))) (F19:Fun K "all_ways" "all_ways" Z13 f19 d19)
 (a20:W.nsIn K mainGlobals "row_between"=some (some (.ref f20))) (F20:Fun K "row_between" "row_between" Z05 f20 d20)
 (a21:W.nsIn K mainGlobals "book_along"=some (some (.ref f21))) (F21:Fun K "book_along" "book_along" Z0l f21 d21)
 (a22:W.nsIn K mainGlobals "payments_of"=some (some (.ref f22))) (F22:Fun K "payments_of" "payments_of" Z06 f22 d22)
 (a23:W.nsIn K mainGlobals "ways_of"=some (some (.ref f23))) (F23:Fun K "ways_of" "ways_of" Z1b f23 d23)
 (a24:W.nsIn K mainGlobals "_law_cell_at"=some (some (.ref f24))) (F24:Fun K "_law_cell_at" "_law_cell_at" Z0w f24 d24)
 (a25:W.nsIn K mainGlobals "_law_whole"=some (some (.ref f25))) (F25:Fun K "_law_whole" "_law_whole" Z1c f25 d25)
 (a26:W.nsIn K mainGlobals "_law_mixed"=some (some (.ref f26))) (F26:Fun K "_law_mixed" "_law_mixed" Z1d f26 d26)
 (a27:W.nsIn K mainGlobals "_law_names"=some (some (.ref f27))) (F27:Fun K "_law_names" "_law_names" Z1e f27 d27)
 (a28:W.nsIn K mainGlobals "_law_cost"=some (some (.ref f28))) (F28:Fun K "_law_cost" "_law_cost" Z1p f28 d28)
 (a29:W.nsIn K mainGlobals "_law_room"=some (some (.ref f29))) (F29:Fun K "_law_room" "_law_room" Z1q f29 d29)
 (a30:W.nsIn K mainGlobals "_law_places"=some (some (.ref f30))) (F30:Fun K "_law_places" "_law_places" Z14 f30 d30)
 (a31:W.nsIn K mainGlobals "_law_bits"=some (some (.ref f31))) (F31:Fun K "_law_bits" "_law_bits" Z1r f31 d31)
 (a32:W.nsIn K mainGlobals "_law_rooms_of"=some (some (.ref f32))) (F32:Fun K "_law_rooms_of" "_law_rooms_of" Z0m f32 d32)
 (a33:W.nsIn K mainGlobals "_law_due"=some (some (.ref f33))) (F33:Fun K "_law_due" "_law_due" Z24 f33 d33)
 (a34:W.nsIn K mainGlobals "_law_list_good"=some (some (.ref f34))) (F34:Fun K "_law_list_good" "_law_list_good" Z07 f34 d34)
 (a35:W.nsIn K mainGlobals "_law_least"=some (some (.ref f35))) (F35:Fun K "_law_least" "_law_least" Z1f f35 d35)
 (a36:W.nsIn K mainGlobals "_law_lawful_pay"=some (some (.ref f36))) (F36:Fun K "_law_lawful_pay" "_law_lawful_pay" Zw f36 d36)
 (a37:W.nsIn K mainGlobals "_law_table_good"=some (some (.ref f37))) (F37:Fun K "_law_table_good" "_law_table_good" Zx f37 d37)
 (a38:W.nsIn K mainGlobals "law"=some (some (.ref f38))) (l38:K.lookup f38=some ⟨oc38,od38,.func (W.fnOf "law" "law" (defArgs Z0f) (defBody Z0f) (defScope Z0f) .none kV38 dc38 pm38 an38 cd38 ct38),sl38⟩) (c38:W.codeIn K cd38 "law"=true) (k38:W.keepIn K (.ref f38)=true)
 (Z3:W.nsIn K mainGlobals "len"=some none)
 (Z1:W.nsIn K mainGlobals "isinstance"=some none)
 (Z0e:W.nsIn K mainGlobals "int"=some none)
 (Z0h:W.nsIn K mainGlobals "bool"=some none)
 (Z0z:W.nsIn K mainGlobals "str"=some none)
 (Ze:W.nsIn K mainGlobals "list"=some none)
 (Z1y:W.nsIn K mainGlobals "all"=some none)
 (Zb:W.nsIn K mainGlobals "range"=some none)
 (Z8:W.nsIn K mainGlobals "enumerate"=some none)
 (Z0r:W.nsIn K mainGlobals "sum"=some none)
 (Z2l:W.nsIn K mainGlobals "abs"=some none)
 (Z10:W.nsIn K mainGlobals "min"=some none)
 (Z1z:W.nsIn K mainGlobals "max"=some none)
 (Z0g:W.nsIn K mainGlobals "tuple"=some none)
 (Z2m:W.nsIn K mainGlobals "set"=some none)
 (Zp:W.nsIn K mainGlobals "reversed"=some none)
 (Z11:W.nsIn K mainGlobals "sorted"=some none)
 (Z1l:W.nsIn K mainGlobals "zip"=some none)
 {Z34:Tok} (Zm:W.nsIn K mainGlobals "LETTERS"=some (some (.str "abcdefghijklmnopqrstuvwxyz" Z34)))
 {Z35:Tok} (Z01:W.nsIn K mainGlobals "FIGURES"=some (some (.str "0123456789" Z35)))
 {Z2j:Tok} (Zh:W.nsIn K mainGlobals "MOST_SIGNS"=some (some (.int 8 Z2j)))
 {Z2c:Tok} (Zf:W.nsIn K mainGlobals "MOST_THINGS"=some (some (.int 60 Z2c)))
 {Z2r:Tok} (Zj:W.nsIn K mainGlobals "MOST_ROOM"=some (some (.int 1000 Z2r)))
 {Z2d:Tok} (Zg:W.nsIn K mainGlobals "MOST_PLACES"=some (some (.int 1000000 Z2d)))
 {Z2s:Tok} (Zk:W.nsIn K mainGlobals "MOST_ASKS"=some (some (.int 200 Z2s)))
 {Z2k:Tok} (Zi:W.nsIn K mainGlobals "MOST_ASKED"=some (some (.int 30 Z2k)))
 {Z1o:Tok} (Z7:W.nsIn K mainGlobals "MOST_DIFFERENT"=some (some (.int 6 Z1o)))
 (Z1m:W.nsIn K mainGlobals "Stock"=some (some (.ref Z0))) (Z3b:Cls K Z0)
 (Z2:W.findIn K (.ref Z0) "things"=some none)
 :∃fd:FuncData,(∀(s:Shared) (v:Value),BindsTo s fd ⟨[v],[]⟩ [("_law_script",v)])∧∀base:Heap,K.In base→base.Ns mainGlobals mg→FnOk l.prog w K mg base CX0 6 fa fd ["_law_script"] (sp_law K):=by
 have e:=hfa.symm.trans (W.mg_of X G a38)
 cases e
 have T:Txt K mg Z0:=⟨W.mg_of X G Z1m,Z3b,Z2,W.mg_none_of X G Z3,W.mg_none_of X G Z1,W.mg_none_of X G Z0e,W.mg_none_of X G Z0h,W.mg_none_of X G Z0z,W.mg_none_of X G Ze,W.mg_none_of X G Z1y,W.mg_none_of X G Zb,W.mg_none_of X G Z8,W.mg_none_of X G Z0r,W.mg_none_of X G Z2l,W.mg_none_of X G Z10,W.mg_none_of X G Z1z,W.mg_none_of X G Z0g,W.mg_none_of X G Z2m,W.mg_none_of X G Zp,W.mg_none_of X G Z11,W.mg_none_of X G Z1l,⟨_,W.mg_of X G Zm⟩,⟨_,W.mg_of X G Z01⟩,⟨_,W.mg_of X G Zh⟩,⟨_,W.mg_of X G Zf⟩,⟨_,W.mg_of X G Zj⟩,⟨_,W.mg_of X G Zg⟩,⟨_,W.mg_of X G Zk⟩,⟨_,W.mg_of X G Zi⟩,⟨_,W.mg_of X G Z7⟩⟩
 have F38:=fun_mk (st:=Z0f) l38 c38 k38
 refine ⟨W.fnOf "law" "law" (defArgs Z0f) (defBody Z0f) (defScope Z0f) .none kV38 dc38 pm38 an38 cd38 ct38,fun s v=> .of_eq rfl,fun base _ _=>?_⟩
 have B:Bs l.prog w K mg base:=⟨h,X,G⟩
 have Z15:=F0.d B a0 (Z2t F0 T) (F0.e1 fun _ _ _ _ _ _ _=>rfl)
 have Z9:=F1.d B a1 (Z2n F1 T Z15) (F1.e3 fun _ _ _ _ _ _ _ _ _=>rfl)
 have Zy:=F2.d B a2 (Z20 F2 T Z9) (F2.e1 fun _ _ _ _ _ _ _=>rfl)
 have Z1g:=F3.d B a3 (Z2w F3 T) (F3.e2 fun _ _ _ _ _ _ _ _=>rfl)
 have Z1h:=F4.d B a4 (Z2x F4 T Z1g) (F4.e1 fun _ _ _ _ _ _ _=>rfl)
 have Z08:=F5.d B a5 (Z25 F5 T Z1h Z9) (F5.e4 fun _ _ _ _ _ _ _ _ _ _=>rfl)
 have Z0q:=F6.i B M6 Z1m (Z2e F6 T Z08) (F6.e2 fun _ _ _ _ _ _ _ _=>rfl)
 have Z0x:=F7.m B M7 (Z2o F7 T) (F7.e2 fun _ _ _ _ _ _ _ _=>rfl)
 have Z5:=F8.m B M8 (Z1n F8 T) (F8.e2 fun _ _ _ _ _ _ _ _=>rfl)
 have Z6:=F9.m B M9 (Z1s F9 T Z5) (F9.e2 fun _ _ _ _ _ _ _ _=>rfl)
 have Zu:=F10.m B M10 (Z1t F10 T Z5) (F10.e2 fun _ _ _ _ _ _ _ _=>rfl)
 have Z0n:=F11.d B a11 (Z2f F11 T Zy Z0x Z6) (F11.e3 fun _ _ _ _ _ _ _ _ _=>rfl)
 have Z0y:=F12.d B a12 (Z2p F12 T) (F12.e1 fun _ _ _ _ _ _ _=>rfl)
 have Zt:=F13.d B a13 (Z1u F13 T Z6) (F13.e2 fun _ _ _ _ _ _ _ _=>rfl)
 have Zd:=F14.d B a14 (Z39 F14 T) (F14.e2 fun _ _ _ _ _ _ _ _=>rfl)
 have Z1i:=F15.d B a15 (Z2y F15 T) (F15.e2 fun _ _ _ _ _ _ _ _=>rfl)
 have Zc:=F16.d B a16 (Z2g F16 T) (F16.e1 fun _ _ _ _ _ _ _=>rfl)
 have Z09:=F17.d B a17 (Z26 F17 T Zc Zd) (F17.e3 fun _ _ _ _ _ _ _ _ _=>rfl)
 have Z0a:=F18.d B a18 (Z27 F18 T Z09 Zd Z1i) (F18.e5 fun _ _ _ _ _ _ _ _ _ _ _=>rfl)
 have Z16:=F19.d B a19 (Z2u F19 T Zt Z0a Zu) (F19.e4 fun _ _ _ _ _ _ _ _ _ _=>rfl)
 have Z0b:=F20.d B a20 (Z28 F20 T Zd) (F20.e4 fun _ _ _ _ _ _ _ _ _ _=>rfl)
 have Z0o:=F21.d B a21 (Z2h F21 T Z0b) (F21.e4 fun _ _ _ _ _ _ _ _ _ _=>rfl)
 have Z0c:=F22.d B a22 (Z29 F22 T) (F22.e1 fun _ _ _ _ _ _ _=>rfl)
 have Z0s:=F23.d B a23 (Z2z F23 T Z0n Z0y Z16 Zc Z0o Z0c) (F23.e3 fun _ _ _ _ _ _ _ _ _=>rfl)
 have Za:=F24.d B a24 (Z2q F24 T) (F24.e2 fun _ _ _ _ _ _ _ _=>rfl)
 have Zo:=F25.d B a25 (Z30 F25 T) (F25.e1 fun _ _ _ _ _ _ _=>rfl)
 have Zn:=F26.d B a26 (Z31 F26 T) (F26.e2 fun _ _ _ _ _ _ _ _=>rfl)
 have Z1j:=F27.d B a27 (Z32 F27 T) (F27.e2 fun _ _ _ _ _ _ _ _=>rfl)
 have Z1v:=F28.d B a28 (Z36 F28 T Zn) (F28.e2 fun _ _ _ _ _ _ _ _=>rfl)
 have Z1w:=F29.d B a29 (Z37 F29 T Zn) (F29.e2 fun _ _ _ _ _ _ _ _=>rfl)
 have Z17:=F30.d B a30 (Z2v F30 T) (F30.e3 fun _ _ _ _ _ _ _ _ _=>rfl)
 have Z1x:=F31.d B a31 (Z38 F31 T) (F31.e1 fun _ _ _ _ _ _ _=>rfl)
 have Z0p:=F32.d B a32 (Z2i F32 T) (F32.e3 fun _ _ _ _ _ _ _ _ _=>rfl)
 have Z2b:=F33.d B a33 (Z3a F33 T) (F33.e4 fun _ _ _ _ _ _ _ _ _ _=>rfl)
 have Z0d:=F34.d B a34 (Z2a F34 T Z2b Zo) (F34.e5 fun _ _ _ _ _ _ _ _ _ _ _=>rfl)
 have Z1k:=F35.d B a35 (Z33 F35 T) (F35.e1 fun _ _ _ _ _ _ _=>rfl)
 have Z00:=F36.d B a36 (Z21 F36 T) (F36.e5 fun _ _ _ _ _ _ _ _ _ _ _=>rfl)
 have Zz:=F37.d B a37 (Z22 F37 T Z0d) (F37.e5 fun _ _ _ _ _ _ _ _ _ _ _=>rfl)
 exact Z3c F38 T Za Z1j Z1v Z1w Z17 Z1x Z0p Z0q Z0s Zo Zz Z1k Z00
end K46
namespace PySem.W.Fast
theorem tw6329816910655457607:True:=⟨⟩
theorem tw3841774947676483329:True:=⟨⟩
theorem tw16946184957865220561:True:=⟨⟩
theorem tw9493457338083277217:True:=⟨⟩
theorem tw5202214042926859388:True:=⟨⟩
theorem tw832595897508784976:True:=⟨⟩
theorem tw17553834146466755512:True:=⟨⟩
theorem tw2498345435648903419:True:=⟨⟩
theorem tw16655463338220503978:True:=⟨⟩
theorem tw8737545437726008101:True:=⟨⟩
theorem tw8444012516982070747:True:=⟨⟩
theorem tw7046835506014937372:True:=⟨⟩
theorem tw18130569836383205197:True:=⟨⟩
theorem tw6854217059965551747:True:=⟨⟩
theorem tw2932049129891015165:True:=⟨⟩
theorem tw7939833796686467329:True:=⟨⟩
theorem tw13451644390802449863:True:=⟨⟩
theorem tw14063619125890170847:True:=⟨⟩
theorem tw18419454088871141506:True:=⟨⟩
theorem tw5198248198754818171:True:=⟨⟩
theorem tw14665217445383733080:True:=⟨⟩
theorem tw7622247912323775644:True:=⟨⟩
theorem tw14137489975786006419:True:=⟨⟩
theorem tw7033576048727420223:True:=⟨⟩
theorem tw4216420163799490784:True:=⟨⟩
theorem tw10877254739839546711:True:=⟨⟩
theorem tw3885856896145470456:True:=⟨⟩
theorem tw5009176717266161964:True:=⟨⟩
theorem tw7100681196465693039:True:=⟨⟩
theorem tw4172035325964119797:True:=⟨⟩
theorem tw8689766860422369536:True:=⟨⟩
theorem tw16776806403428631276:True:=⟨⟩
theorem tw9139844512550706793:True:=⟨⟩
theorem tw5832189154435974843:True:=⟨⟩
theorem tw11004144182953153992:True:=⟨⟩
theorem tw7661421204598864694:True:=⟨⟩
theorem tw17139293984818283244:True:=⟨⟩
theorem tw524883010496787386:True:=⟨⟩
theorem tw6461388705032947617:True:=⟨⟩
theorem tw2400017686555233397:True:=⟨⟩
theorem tw3200217935623238155:True:=⟨⟩
theorem tw4438340323688583297:True:=⟨⟩
theorem tw6637951916914492027:True:=⟨⟩
theorem tw14788802980622969728:True:=⟨⟩
theorem tw2570979452646250289:True:=⟨⟩
theorem tw13981360939574401405:True:=⟨⟩
theorem tw8487847848495019623:True:=⟨⟩
theorem tw15618734145367308070:True:=⟨⟩
theorem tw12499143857191718546:True:=⟨⟩
theorem tw9913837303343403506:True:=⟨⟩
theorem tw7573763862998475600:True:=⟨⟩
theorem tw7978945022354402048:True:=⟨⟩
theorem tw3856644634544468460:True:=⟨⟩
theorem tw9203395665856282546:True:=⟨⟩
theorem tw16265531224184084348:True:=⟨⟩
theorem tw8718555921959066684:True:=⟨⟩
theorem tw10451095907654663387:True:=⟨⟩
theorem tw9544250180629546860:True:=⟨⟩
theorem tw4797590206159251890:True:=⟨⟩
theorem tw10078463177513662270:True:=⟨⟩
theorem tw2978087941473764452:True:=⟨⟩
theorem tw14342629416791818471:True:=⟨⟩
theorem tw9774872051748442653:True:=⟨⟩
theorem tw11003100524462876105:True:=⟨⟩
theorem tw12739458490559238292:True:=⟨⟩
theorem tw9021288973331246866:True:=⟨⟩
theorem tw3640646781899522616:True:=⟨⟩
theorem tw15846942745559556477:True:=⟨⟩
theorem tw6743215160523924401:True:=⟨⟩
theorem tw14291345319196630657:True:=⟨⟩
theorem tw1415083531041848950:True:=⟨⟩
theorem tw8275491021263037776:True:=⟨⟩
theorem tw10754019763549615581:True:=⟨⟩
theorem tw7705734983306422719:True:=⟨⟩
theorem tw2398483253423095227:True:=⟨⟩
theorem tw4239056049682905898:True:=⟨⟩
theorem tw10091907651753788301:True:=⟨⟩
theorem tw3047816179315853946:True:=⟨⟩
theorem tw16122361390861643149:True:=⟨⟩
theorem tw629262737234377109:True:=⟨⟩
theorem tw15545601598477654117:True:=⟨⟩
theorem tw10251020534261649655:True:=⟨⟩
theorem tw11317453042269583517:True:=⟨⟩
theorem tw10227283635013187489:True:=⟨⟩
theorem tw18434297430045363921:True:=⟨⟩
theorem tw4471471144032307550:True:=⟨⟩
theorem tw2351778478867807267:True:=⟨⟩
theorem tw10266527510354490332:True:=⟨⟩
theorem tw14133555010683314427:True:=⟨⟩
theorem tw7878304949467625491:True:=⟨⟩
theorem tw12680243005721445027:True:=⟨⟩
theorem tw18107085258259794888:True:=⟨⟩
theorem tw4236597657615360610:True:=⟨⟩
theorem tw11694142577091829905:True:=⟨⟩
theorem tw2663489117658315169:True:=⟨⟩
theorem tw15972700913260712443:True:=⟨⟩
theorem tw82024173898872856:True:=⟨⟩
theorem tw2881999655309198580:True:=⟨⟩
theorem tw16243662682291488242:True:=⟨⟩
theorem tw5703584146523519009:True:=⟨⟩
theorem tw15527483863139514465:True:=⟨⟩
theorem tw15603557590596474739:True:=⟨⟩
theorem tw7588084014166303986:True:=⟨⟩
theorem tw16861303271983440445:True:=⟨⟩
theorem tw1916254261848363322:True:=⟨⟩
theorem tw9948101102000560676:True:=⟨⟩
theorem tw17543064374204352102:True:=⟨⟩
theorem tw16644823720268606230:True:=⟨⟩
theorem tw4458027514612203107:True:=⟨⟩
theorem tw15551740160216205534:True:=⟨⟩
theorem tw13541417074372914114:True:=⟨⟩
theorem tw17285237447753081912:True:=⟨⟩
theorem tw6548797006129049708:True:=⟨⟩
theorem tw4690404063779935105:True:=⟨⟩
theorem tw7980479902096917804:True:=⟨⟩
theorem tw14835962910880245699:True:=⟨⟩
theorem tw17164178912532684509:True:=⟨⟩
theorem tw14864104314651174445:True:=⟨⟩
theorem tw5496020735620448851:True:=⟨⟩
theorem tw8787622682130987532:True:=⟨⟩
theorem tw10234910415214281346:True:=⟨⟩
theorem tw17719110137244600521:True:=⟨⟩
theorem tw11654447019569748190:True:=⟨⟩
theorem tw9704540706409171479:True:=⟨⟩
theorem tw3415789647598068082:True:=⟨⟩
theorem tw15844074161620662695:True:=⟨⟩
theorem tw6392842621958268676:True:=⟨⟩
theorem tw2197520114739906124:True:=⟨⟩
theorem tw555429227342924031:True:=⟨⟩
theorem tw12536240768099142149:True:=⟨⟩
theorem tw4611111552445582137:True:=⟨⟩
theorem tw2335859306205207868:True:=⟨⟩
theorem tw17365002077219285282:True:=⟨⟩
theorem tw16248030468117085630:True:=⟨⟩
theorem tw14247204602494715500:True:=⟨⟩
theorem tw13950326025528608580:True:=⟨⟩
theorem tw3388089393124345005:True:=⟨⟩
theorem tw13559627489070999059:True:=⟨⟩
theorem tw3839217758675883925:True:=⟨⟩
theorem tw13663411733704327842:True:=⟨⟩
theorem tw15895127535924784112:True:=⟨⟩
theorem tw3625928285903754005:True:=⟨⟩
theorem tw5654870130127610596:True:=⟨⟩
theorem tw8037580245501490841:True:=⟨⟩
theorem tw13462493768799265499:True:=⟨⟩
theorem tw17370492146293169307:True:=⟨⟩
theorem tw13004387801978299947:True:=⟨⟩
theorem tw2527799790453258806:True:=⟨⟩
theorem tw2440347879173113504:True:=⟨⟩
theorem tw3010934945652268569:True:=⟨⟩
theorem tw16098396110061074648:True:=⟨⟩
theorem tw8848381903124382601:True:=⟨⟩
theorem tw16666625151466646816:True:=⟨⟩
theorem tw8350529912765125561:True:=⟨⟩
theorem tw7656027902559761012:True:=⟨⟩
theorem tw15922513745221500645:True:=⟨⟩
theorem tw7570963914562486052:True:=⟨⟩
theorem tw3052384799694689733:True:=⟨⟩
theorem tw9914802330996782151:True:=⟨⟩
theorem tw7350569253233628859:True:=⟨⟩
theorem tw3740185995835291399:True:=⟨⟩
theorem tw14786247352982298388:True:=⟨⟩
theorem tw18021036998322910359:True:=⟨⟩
theorem tw6281934281609417966:True:=⟨⟩
theorem tw17887859984049266356:True:=⟨⟩
theorem tw7863871679255890667:True:=⟨⟩
theorem tw13359717033023773528:True:=⟨⟩
theorem tw4869998632659995679:True:=⟨⟩
theorem tw12823725467206564422:True:=⟨⟩
theorem tw12544964862998788797:True:=⟨⟩
theorem tw278948336673758988:True:=⟨⟩
theorem tw4602297461365777143:True:=⟨⟩
theorem tw389156114222080636:True:=⟨⟩
theorem tw16286235398065145293:True:=⟨⟩
theorem tw1672805347322929716:True:=⟨⟩
theorem tw3645449591314900228:True:=⟨⟩
theorem tw4408255897942021606:True:=⟨⟩
theorem tw5119149263395522904:True:=⟨⟩
theorem tw17144742074954452277:True:=⟨⟩
theorem tw10757601108132947089:True:=⟨⟩
theorem tw8747459268091989860:True:=⟨⟩
theorem tw3830853182204762010:True:=⟨⟩
theorem tw1419808496918779749:True:=⟨⟩
theorem tw8895112442398273586:True:=⟨⟩
theorem tw6168038858147388704:True:=⟨⟩
theorem tw11661707515904348308:True:=⟨⟩
theorem tw15053172026447196527:True:=⟨⟩
theorem tw5642773606603988101:True:=⟨⟩
theorem tw8595474552157700120:True:=⟨⟩
theorem tw10543247738957937997:True:=⟨⟩
theorem tw13504822398442190103:True:=⟨⟩
theorem tw4920632659253389772:True:=⟨⟩
theorem tw6181914285412591116:True:=⟨⟩
theorem tw7018670920079012572:True:=⟨⟩
theorem tw7944084993901052364:True:=⟨⟩
end PySem.W.Fast
open PySem PySem.W PyProof.Rows
set_option maxRecDepth 100000 in
set_option maxHeartbeats 0 in
theorem PySem.Challenge.cw_castoff_k46_whole_all_ways_walked_holds : PySem.Challenge.rw_castoff_k46_whole_all_ways_walked.Holds := by
 w_on;o_law;k_head;(case hw=>w_witness2)
 k_fill
 refine L2.walk_ofK (l:=PySem.Challenge.rw_castoff_k46_whole_all_ways_walked) (n:=63) (k:=6) (x:="_law_script") (CX:=L2.CX0) (sp:=N1.sp_law) rfl (by decide) rfl ⟨rfl,by decide,by decide⟩ (fun w h Y=>PySem.W.kIn_of Y) ?F ?S ?C
 case F=>
  intro w mg fa h KX G hmg
  refine' K46.all_mk KX G hmg ?a0 ?FF0 ?a1 ?FF1 ?a2 ?FF2 ?a3 ?FF3 ?a4 ?FF4 ?a5 ?FF5 ?MI6 ?FF6 ?MM7 ?FF7 ?MM8 ?FF8 ?MM9 ?FF9 ?MM10 ?FF10 ?a11 ?FF11 ?a12 ?FF12 ?a13 ?FF13 ?a14 ?FF14 ?a15 ?FF15 ?a16 ?FF16 ?a17 ?FF17 ?a18 ?FF18 ?a19 ?FF19 ?a20 ?FF20 ?a21 ?FF21 ?a22 ?FF22 ?a23 ?FF23 ?a24 ?FF24 ?a25 ?FF25 ?a26 ?FF26 ?a27 ?FF27 ?a28 ?FF28 ?a29 ?FF29 ?a30 ?FF30 ?a31 ?FF31 ?a32 ?FF32 ?a33 ?FF33 ?a34 ?FF34 ?a35 ?FF35 ?a36 ?FF36 ?a37 ?FF37 ?a38 ?l38 ?c38 ?k38 ?Z3 ?Z1 ?Z0e ?Z0h ?Z0z ?Ze ?Z1y ?Zb ?Z8 ?Z0r ?Z2l ?Z10 ?Z1z ?Z0g ?Z2m ?Zp ?Z11 ?Z1l ?Zm ?Z01 ?Zh ?Zf ?Zj ?Zg ?Zk ?Zi ?Z7 ?Z1m ?EE_Stock ?Z2
  case Z1m|a0|a1|a2|a3|a4|a5|a11|a12|a13|a14|a15|a16|a17|a18|a19|a20|a21|a22|a23|a24|a25|a26|a27|a28|a29|a30|a31|a32|a33|a34|a35|a36|a37|a38|l38|c38|k38|Z3|Z1|Z0e|Z0h|Z0z|Ze|Z1y|Zb|Z8|Z0r|Z2l|Z10|Z1z|Z0g|Z2m|Zp|Z11|Z1l|Zm|Z01|Zh|Zf|Zj|Zg|Zk|Zi|Z7|Z2=>k_is
  case EE_Stock|MI6=>refine' ⟨?j1,?j2,?j3,?j4⟩;case j1|j2|j3|j4=>k_is
  case MM7|MM8|MM9|MM10=>refine' ⟨?j1,?j2,?j3⟩;case j1|j2|j3=>k_is
  case FF0|FF1|FF2|FF3|FF4|FF5|FF6|FF7|FF8|FF9|FF10|FF11|FF12|FF13|FF14|FF15|FF16|FF17|FF18|FF19|FF20|FF21|FF22|FF23|FF24|FF25|FF26|FF27|FF28|FF29|FF30|FF31|FF32|FF33|FF34|FF35|FF36|FF37=>refine' L2.fun_mk ?l ?c ?k;case l|c|k=>k_is
 case S=>exact fun K H a ns hl hO hS=>⟨a,ns,rfl,hS,hl,fun _=>rfl⟩
 case C=>exact fun H s e s' z=>z
