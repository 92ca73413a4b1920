import PyProof.Rows.All
import KE.KPairComp
import KE.KItem
import KE.KUnpack
import KE.KEqDict
import KE.KFromBytes
import KE.KIntText
import KE.KDictOf
import KE.KTryMore
import KE.KNestM
import KE.KLam
import PySem.Challenge.RW_castoff_k34_steps_told
set_option linter.all false
set_option Elab.async false
set_option maxRecDepth 100000
set_option maxHeartbeats 4000000
open PySem PySem.Spec PyProof.Rows
namespace L2
noncomputable abbrev Key:=Sum Int Str
noncomputable def keyIs:Key→Value→Bool
 | .inl k,v=>Value.isInt k v
 | .inr x,v=>Value.isStrOf x v
noncomputable def keyH(w:World):Key→Int
 | .inl k=>hashInt k
 | .inr x=>hashStr w x
theorem keyIs_shape:∀{k:Key} {v:Value},keyIs k v=true→(∃i t,k=Sum.inl i∧v=Value.int i t)∨(∃x t,k=Sum.inr x∧v=Value.str x t)
 | .inl i,v,h=>by
  obtain ⟨t,e⟩:=Value.isInt_shape (k:=i) (v:=v) h
  exact .inl ⟨i,t,rfl,e⟩
 | .inr x,v,h=>by
  obtain ⟨t,e⟩:=Value.isStrOf_shape (x:=x) (v:=v) h
  exact .inr ⟨x,t,rfl,e⟩
theorem keyIs_int(i:Int)(t:Tok):keyIs (.inl i) (.int i t)=true:=by simp [keyIs,Value.isInt]
theorem keyIs_str(x:Str)(t:Tok):keyIs (.inr x) (.str x t)=true:=by simp [keyIs,Value.isStrOf]
theorem key_ll(a b:Int):decide ((Sum.inl a:Key)=Sum.inl b)=(a==b):=by
 by_cases e:a=b
 · subst e;simp
 · have h:¬(Sum.inl a:Key)=Sum.inl b:=fun q=>e (Sum.inl.inj q)
   rw [decide_eq_false h]
   exact (beq_eq_false_iff_ne.mpr e).symm
theorem key_rr(a b:Str):decide ((Sum.inr a:Key)=Sum.inr b)=decide (a=b):=by
 by_cases e:a=b
 · subst e;simp
 · have h:¬(Sum.inr a:Key)=Sum.inr b:=fun q=>e (Sum.inr.inj q)
   rw [decide_eq_false h,decide_eq_false e]
theorem key_lr(a:Int)(b:Str):decide ((Sum.inl a:Key)=Sum.inr b)=false:=decide_eq_false (fun q=>nomatch q)
theorem key_rl(a:Str)(b:Int):decide ((Sum.inr a:Key)=Sum.inl b)=false:=decide_eq_false (fun q=>nomatch q)
noncomputable def mixKind(prog:Program)(w:World):PySem.KeyKind prog w Key where
 is:=keyIs
 hash:=keyH w
 inj:=fun v a b ha hb=>by
  rcases keyIs_shape ha with ⟨i,t,rfl,rfl⟩ | ⟨x,t,rfl,rfl⟩
  · rcases keyIs_shape hb with ⟨j,u,rfl,e⟩ | ⟨y,u,rfl,e⟩
    · injection e with e1 _;rw [e1]
    · exact nomatch e
  · rcases keyIs_shape hb with ⟨j,u,rfl,e⟩ | ⟨y,u,rfl,e⟩
    · exact nomatch e
    · injection e with e1 _;rw [e1]
 byValue:=fun k v h=>by
   rcases keyIs_shape h with ⟨i,t,rfl,rfl⟩ | ⟨x,t,rfl,rfl⟩ <;> rfl
 pyHash:=fun hv h=>by
  rcases keyIs_shape hv with ⟨i,t,rfl,rfl⟩ | ⟨x,t,rfl,rfl⟩
  · exact wpAny_pyHash_int h
  · exact wpAny_pyHash_str h
 eqBool:=fun hu hv h=>by
  rcases keyIs_shape hu with ⟨i,t,rfl,rfl⟩ | ⟨x,t,rfl,rfl⟩
  · rcases keyIs_shape hv with ⟨j,u,rfl,rfl⟩ | ⟨y,u,rfl,rfl⟩
    · rw [key_ll]at h;exact wpAny_eqBool_int h
    · rw [key_lr]at h;exact SeqAt.EqAt.int_str i t y u _ _ _ _ h
  · rcases keyIs_shape hv with ⟨j,u,rfl,rfl⟩ | ⟨y,u,rfl,rfl⟩
    · rw [key_rl]at h;exact SeqAt.EqAt.str_int x t j u _ _ _ _ h
    · rw [key_rr]at h;exact wpAny_eqBool_str h
 «strs»:=fun k x t v h=>by
  rcases keyIs_shape h with ⟨i,u,rfl,e⟩ | ⟨y,u,rfl,e⟩
  · exact nomatch e
  · injection e with e1 _
    subst e1
    cases v <;> rfl
theorem mixKind_int(prog:Program)(w:World)(i:Int)(t:Tok):(mixKind prog w).is (.inl i) (.int i t)=true:=keyIs_int i t
theorem mixKind_str(prog:Program)(w:World)(x:Str)(t:Tok):(mixKind prog w).is (.inr x) (.str x t)=true:=keyIs_str x t
end L2
namespace L2
inductive V where
 | non | bl (b:Bool) | int (i:Int) | str (x:Str) | byt (b:Array UInt8) | flt (b:UInt64) | ref (a:Addr) | ty (n:String)
 deriving DecidableEq
noncomputable def RelV:V→Value→Prop
 | .non,u=>u=Value.none
 | .bl b,u=>u=Value.bool b
 | .int i,u=>∃t,u=Value.int i t
 | .str x,u=>∃t,u=Value.str x t
 | .byt b,u=>∃t,u=Value.bytes b t
 | .flt b,u=>∃t,u=Value.float b t
 | .ref a,u=>u=Value.ref a
 | .ty n,u=>u=Value.type n
noncomputable abbrev Vals:List V→List Value→Prop:=Paired RelV
theorem Vals.length{xs:List V}{us:List Value}(r:Vals xs us):xs.length=us.length:=Paired.length r
theorem Vals.get:∀{xs:List V} {us:List Value} {i:Nat} {x:V},Vals xs us→xs[i]?=some x→∃u,us[i]?=some u∧RelV x u
 | _,_,_,_,.nil,e=>by simp at e
 | _,_,0,_,.cons r _,e=>by simp at e;subst e;exact ⟨_,rfl,r⟩
 | _,_,i+1,x,.cons _ t,e=>by
  obtain ⟨u,h1,h2⟩:=Vals.get (i:=i) (x:=x) t (by simpa using e)
  exact ⟨u,by simpa using h1,h2⟩
theorem Vals.set{x:V}{u:Value}(r:RelV x u):∀{xs:List V} {us:List Value} (i:Nat),Vals xs us→Vals (xs.set i x) (us.set i u)
 | _,_,_,.nil=> .nil
 | _,_,0,.cons _ t=> .cons r t
 | _,_,i+1,.cons q t=> .cons q (Vals.set r i t)
theorem Vals.append:∀{xs ys:List V} {us ws:List Value},Vals xs us→Vals ys ws→Vals (xs++ys) (us++ws)
 | _,_,_,_,.nil,s=>s
 | _,_,_,_,.cons r t,s=> .cons r (Vals.append t s)
theorem Vals.take:∀{xs:List V} {us:List Value} (n:Nat),Vals xs us→Vals (xs.take n) (us.take n)
 | _,_,0,_=> .nil
 | _,_,_+1,.nil=> .nil
 | _,_,n+1,.cons r t=> .cons r (Vals.take n t)
theorem Vals.drop:∀{xs:List V} {us:List Value} (n:Nat),Vals xs us→Vals (xs.drop n) (us.drop n)
 | _,_,0,r=>r
 | _,_,_+1,.nil=> .nil
 | _,_,n+1,.cons _ t=>Vals.drop n t
noncomputable def RelO:Option V→Option Value→Prop
 | some v,some u=>RelV v u
 | none,none=>True
 | _,_=>False
noncomputable def KV{κ:Type}:List (κ×V)→List (κ×Value)→Prop:=Paired fun (p:κ×V) (q:κ×Value)=>p.1=q.1∧RelV p.2 q.2
noncomputable def kV:Key→V
 | .inl i=> .int i
 | .inr x=> .str x
inductive HO where
 | lst (xs:List V)
 | tup (xs:List V)
 | dK (kvs:List (Key×V)) | dT (kvs:List (List Key×V))
 | set (S:Int→Bool) (n:Nat)
 | ins (C dx:Addr) (fs:List (Str×V))
 | own (x:Addr)
 | xd (fs:List (Str×V))
 | met (f x:Addr)
 | rng (lo hi:Int)
 | frz (o:Obj) (u:HO)
 | tbl (ps:Array Value)
 | ext (φ:Heap→Prop)
noncomputable abbrev Hp:=Addr→Option HO
noncomputable def upd(H:Hp)(a:Addr)(o:HO):Hp:=fun b=>if b=a then some o else H b
theorem upd_same{H:Hp}{a:Addr}{o:HO}:upd H a o a=some o:=by unfold upd;rw [if_pos rfl]
theorem upd_ne{H:Hp}{a b:Addr}{o:HO}(h:b≠a):upd H a o b=H b:=by unfold upd;rw [if_neg h]
theorem upd_upd{H:Hp}{a:Addr}{o u:HO}:upd (upd H a o) a u=upd H a u:=by
 funext b;unfold upd;split <;> rfl
theorem ne_of{H:Hp}{a b:Addr}{o u:HO}(h:H a=some o)(h':H b=some u)(d:o≠u):a≠b:=by
 intro e;subst e;rw [h]at h';exact d (Option.some.inj h')
theorem ne_of_none{H:Hp}{a b:Addr}{o:HO}(h:H a=some o)(h':H b=none):a≠b:=by
 intro e;subst e;rw [h]at h';cases h'
section
variable (P:Program) (w:World)
noncomputable def ObjOk(H:Hp)(h:Heap)(a:Addr):HO→Prop
 | .lst xs=>xs.length≤sizeLine∧∃(its:List Value) (n:Nat),Vals xs its∧h.get? a=some {cls:= .type "list",data:= .seq its.toArray n}
 | .tup xs=>xs.length≤sizeLine∧∃its:List Value,Vals xs its∧IsTup h a its.toArray
 | .dK kvs=>kvs.length≤sizeLine∧(a==sysModules)=false∧∃vs,KV kvs vs∧h.DictOf (mixKind P w) a vs
 | .dT kvs=>kvs.length≤sizeLine∧(a==sysModules)=false∧∃xs:List (List Key×Addr×Value),
  Paired (fun (p:List Key×V) (q:List Key×Addr×Value)=>p.1=q.1∧H q.2.1=some (.tup (p.1.map kV))∧RelV p.2 q.2.2) kvs xs∧
  ∃o es ep,h.get? a=some o∧o.ExactDict∧o.data= .dict es ep∧es.toList=xs.map (entryOfKey (tupleKind (mixKind P w)))∧(xs.map (·.1)).Nodup
 | .set S n=>h.SetOf (intKind P w) a S n
 | .ins C dx fs=>H dx=some (.own a)∧fs.length≤1000∧dx≠a∧h.get? a=some (PySem.W.instObj C dx)∧
  ∃mA,h.Ns1 dx mA∧(∀f,RelO (fs.lookup f) (mA f))∧PySem.Within mA (fs.map (·.1))
 | .own _=>∃o,h.get? a=some o
 | .xd fs=>∃mA,h.Ns1 a mA∧∀f,RelO (fs.lookup f) (mA f)
 | .rng lo hi=>∃t u v,h.get? a=some {cls:= .type "range",data:= .fields #[.int lo t,.int hi u,.int 1 v]}
 | .frz o u=>h.get? a=some o∧ObjOk H h a u
 | .tbl ps=>h.get? a=some {cls:= .none,data:= .fields ps}
 | .met f x=>h.get? a=some (PySem.W.methodObj (.ref f) (.ref x))
 | .ext φ=>φ h∧(∃o,h.get? a=some o)∧∀h1 h2:Heap,φ h1→(∀o,h1.get? a=some o→h2.get? a=some o)→φ h2
noncomputable def HOk(H:Hp)(h:Heap):Prop:=∀a o,H a=some o→ObjOk P w H h a o
end
section
variable {P:Program} {w:World} {H H':Hp} {h h':Heap} {a:Addr} {o:HO}
theorem ObjOk.lt(x:ObjOk P w H h a o):a < h.objs.size:=by
 cases o with
 | lst xs=>obtain ⟨_,_,_,_,e⟩:=x;exact Heap.lt_size e
 | tup xs=>obtain ⟨_,_,_,p⟩:=x;exact p.lt
 | dK kvs=>obtain ⟨_,_,_,_,o,_,_,e,_⟩:=x;exact Heap.lt_size e
 | dT kvs=>obtain ⟨_,_,_,_,o,_,_,e,_⟩:=x;exact Heap.lt_size e
 | set S n=>obtain ⟨o,_,_,_,e,_⟩:=x;exact Heap.lt_size e
 | ins C dx fs=>obtain ⟨_,_,_,e,_⟩:=x;exact Heap.lt_size e
 | own y=>obtain ⟨_,e⟩:=x;exact Heap.lt_size e
 | xd fs=>obtain ⟨_,⟨_,_,_,e,_⟩,_⟩:=x;exact Heap.lt_size e
 | rng lo hi=>obtain ⟨_,_,_,e⟩:=x;exact Heap.lt_size e
 | frz ob u=>obtain ⟨e,_⟩:=x;exact Heap.lt_size e
 | tbl ps=>exact Heap.lt_size (show h.get? a=some _ from x)
 | met f y=>exact Heap.lt_size (show h.get? a=some _ from x)
 | ext φ=>obtain ⟨_,⟨_,e⟩,_⟩:=x;exact Heap.lt_size e
theorem Paired.mapP{α β:Type}{F G:α→β→Prop}:∀{l₁:List α} {l₂:List β},Paired F l₁ l₂→(∀a b,F a b→G a b)→Paired G l₁ l₂
 | _,_,.nil,_=> .nil
 | _,_,.cons r t,f=> .cons (f _ _ r) (Paired.mapP t f)
theorem ObjOk.stay(x:ObjOk P w H h a o)(k:∀b u,(b=a∨H b=some (.own a))→h.get? b=some u→h'.get? b=some u)
 (ho:∀b,H b=some (.own a)→H' b=some (.own a)) (ht:∀b xs,H b=some (.tup xs)→H' b=some (.tup xs)):ObjOk P w H' h' a o:=by
 induction o with
 | lst xs=>obtain ⟨z,its,n,r,e⟩:=x;exact ⟨z,its,n,r,k _ _ (.inl rfl) e⟩
 | tup xs=>obtain ⟨z,its,r,ob,e,c⟩:=x;exact ⟨z,its,r,ob,k _ _ (.inl rfl) e,c⟩
 | dK kvs=>obtain ⟨z,y,vs,r,ob,es,ep,e,c⟩:=x;exact ⟨z,y,vs,r,ob,es,ep,k _ _ (.inl rfl) e,c⟩
 | dT kvs=>
  obtain ⟨z,y,xs,r,ob,es,ep,e,c⟩:=x
  exact ⟨z,y,xs,Paired.mapP r fun p q z=>⟨z.1,ht _ _ z.2.1,z.2.2⟩,ob,es,ep,k _ _ (.inl rfl) e,c⟩
 | set S n=>obtain ⟨ob,es,ep,t,e,c⟩:=x;exact ⟨ob,es,ep,t,k _ _ (.inl rfl) e,c⟩
 | ins C dx fs=>
  obtain ⟨d,z,ne,e,mA,⟨od,es,ep,e2,c⟩,r⟩:=x
  exact ⟨ho _ d,z,ne,k _ _ (.inl rfl) e,mA,⟨od,es,ep,k _ _ (.inr d) e2,c⟩,r⟩
 | own y=>obtain ⟨ob,e⟩:=x;exact ⟨ob,k _ _ (.inl rfl) e⟩
 | xd fs=>obtain ⟨mA,⟨od,es,ep,e,c⟩,r⟩:=x;exact ⟨mA,⟨od,es,ep,k _ _ (.inl rfl) e,c⟩,r⟩
 | rng lo hi=>obtain ⟨t,u,v,e⟩:=x;exact ⟨t,u,v,k _ _ (.inl rfl) e⟩
 | frz ob u ih=>obtain ⟨e,q⟩:=x;exact ⟨k _ _ (.inl rfl) e,ih q⟩
 | tbl ps=>
  have e:h.get? a=some {cls:= .none,data:= .fields ps}:=x
  show h'.get? a=some {cls:= .none,data:= .fields ps}
  exact k a _ (.inl rfl) e
 | met f y=>
  have e:h.get? a=some (PySem.W.methodObj (.ref f) (.ref y)):=x
  show h'.get? a=some (PySem.W.methodObj (.ref f) (.ref y))
  exact k a _ (.inl rfl) e
 | ext φ=>obtain ⟨p,⟨o,e⟩,st⟩:=x;exact ⟨st _ _ p fun o q=>k _ _ (.inl rfl) q,⟨o,k _ _ (.inl rfl) e⟩,st⟩
theorem HOk.lt(x:HOk P w H h)(e:H a=some o):a < h.objs.size:=(x a o e).lt
theorem HOk.fresh(x:HOk P w H h)(e:h.objs.size≤a):H a=none:=by
 cases q:H a with
 | none=>rfl
 | some u=>exact absurd (Nat.lt_of_lt_of_le (x.lt q) e) (Nat.lt_irrefl _)
theorem HOk.kept(x:HOk P w H h)(k:∀b u,h.get? b=some u→h'.get? b=some u):HOk P w H h':=fun a o e=>
 (x a o e).stay (fun b u _ q=>k b u q) (fun _ q=>q) fun _ _ q=>q
theorem HOk.laid(x:HOk P w H h)(k:∀b u,h.get? b=some u→h'.get? b=some u)(hp:h.objs.size≤a)(new:ObjOk P w (upd H a o) h' a o):HOk P w (upd H a o) h':=fun b u e=>by
 have hn:=x.fresh hp
 by_cases hb:b=a
 · subst hb;rw [upd_same]at e;cases e;exact new
 · rw [upd_ne hb]at e
   exact (x b u e).stay (fun c v _ q=>k c v q) (fun c q=>by rw [upd_ne (ne_of_none q hn)];exact q) fun c xs q=>by rw [upd_ne (ne_of_none q hn)];exact q
end
noncomputable def Rd(H:Hp)(a:Addr)(u:HO):Prop:=H a=some u∨∃o,H a=some (.frz o u)
theorem Rd.ok{P:Program}{w:World}{H:Hp}{h:Heap}{a:Addr}{u:HO}(r:Rd H a u)(x:HOk P w H h):ObjOk P w H h a u:=by
 rcases r with r | ⟨o,r⟩
 · exact x a u r
 · obtain ⟨_,q⟩:=x a _ r
   exact q
noncomputable def Mut:Option HO→Prop
 | some (.lst _)=>True
 | some (.dK _)=>True
 | some (.dT _)=>True
 | some (.set _ _)=>True
 | some (.ins _ _ _)=>True
 | some (.ext _)=>True
 | _=>False
section
variable {P:Program} {w:World} {H:Hp} {h h':Heap} {x e:Addr} {o':HO}
theorem HOk.write(ok:HOk P w H h)(mu:Mut (H x))(he:e=x∨H e=some (.own x))(k:∀b u,b≠e→h.get? b=some u→h'.get? b=some u)(heo:∃u,h'.get? e=some u)
 (new:ObjOk P w (upd H x o') h' x o'):HOk P w (upd H x o') h':=fun b u q=>by
 have nown:∀c y,H c=some (.own y)→c≠x:=fun c y r z=>by subst z;rw [r]at mu;exact mu
 have ntup:∀c xs,H c=some (.tup xs)→c≠x:=fun c xs r z=>by subst z;rw [r]at mu;exact mu
 by_cases hb:b=x
 · subst hb;rw [upd_same]at q;cases q;exact new
 · rw [upd_ne hb]at q
   by_cases hbe:b=e
   · have q':H b=some (.own x):=by
      rcases he with z | z
      · exact absurd (hbe.trans z) hb
      · rw [hbe];exact z
     rw [q]at q';cases q'
     obtain ⟨v,hv⟩:=heo
     exact ⟨v,by rw [hbe];exact hv⟩
   · refine (ok b u q).stay (fun c v hc r=>k c v ?_ r) (fun c r=>by rw [upd_ne (nown c b r)];exact r) fun c xs r=>by rw [upd_ne (ntup c xs r)];exact r
     rcases hc with rfl | hc
     · exact hbe
     · rintro rfl
       rcases he with z | z
       · exact nown c b hc z
       · rw [hc]at z;cases z;exact hb rfl
end
structure Un(fs ex:List Addr)(H H':Hp)(h h':Heap):Prop where
 keep:∀b o,h.get? b=some o→H b=none→b∉fs→b∉ex→h'.get? b=some o
 slot:∀b o,h.get? b=some o→H b=none→b∈fs→b∉ex→∃sl,h'.get? b=some {o with slots:=sl}
 free:∀b o,h.get? b=some o→H b=none→b∉ex→H' b=none
 there:∀b o,h.get? b=some o→b∉ex→∃o',h'.get? b=some o'
 tups:∀b xs,H b=some (.tup xs)→H' b=some (.tup xs)
 frzs:∀b o u,H b=some (.frz o u)→H' b=some (.frz o u)
 tbls:∀b ps,H b=some (.tbl ps)→∃more,H' b=some (.tbl (ps++more))
section
variable {fs fs' ex ex':List Addr} {H H1 H2:Hp} {h h1 h2 h':Heap} {a x e:Addr} {o:HO}
theorem Un.any(u:Un fs ex H H1 h h1){b:Addr}{ob:Obj}(q:h.get? b=some ob)(n:H b=none)(hx:b∉ex):∃sl,h1.get? b=some {ob with slots:=sl}:=by
 by_cases hb:b∈fs
 · exact u.slot b ob q n hb hx
 · exact ⟨ob.slots,u.keep b ob q n hb hx⟩
theorem Un.kept(k:∀b u,h.get? b=some u→h'.get? b=some u):Un fs ex H H h h':=
 ⟨fun b ob q _ _ _=>k b ob q,fun b ob q _ _ _=>⟨ob.slots,k b ob q⟩,fun _ _ _ n _=>n,fun b ob q _=>⟨ob,k b ob q⟩,fun _ _ q=>q,fun _ _ _ q=>q,fun _ ps q=>⟨#[],by rw [q];simp⟩⟩
theorem Un.refl:Un fs ex H H h h:=Un.kept fun _ _ q=>q
theorem Un.laid(k:∀b u,h.get? b=some u→h'.get? b=some u)(hp:h.objs.size≤a)(hn:H a=none):Un fs ex H (upd H a o) h h' where
 keep:=fun b u q _ _ _=>k b u q
 slot:=fun b u q _ _ _=>⟨u.slots,k b u q⟩
 free:=fun b u q n _=>by rw [upd_ne (Nat.ne_of_lt (Nat.lt_of_lt_of_le (Heap.lt_size q) hp))];exact n
 there:=fun b u q _=>⟨u,k b u q⟩
 tups:=fun b xs q=>by rw [upd_ne (ne_of_none q hn)];exact q
 frzs:=fun b u xs q=>by rw [upd_ne (ne_of_none q hn)];exact q
 tbls:=fun b ps q=>⟨#[],by rw [upd_ne (ne_of_none q hn),q];simp⟩
theorem Un.write(mu:Mut (H x))(he:e=x∨H e=some (.own x))(k:∀b u,b≠e→h.get? b=some u→h'.get? b=some u)(heo:∃u,h'.get? e=some u):Un fs ex H (upd H x o) h h':=by
 have hx:∀b,H b=none→b≠x:=fun b n z=>by subst z;rw [n]at mu;exact mu
 have hb:∀b,H b=none→b≠e:=fun b n z=>by
  subst z
  rcases he with r | r
  · exact hx b n r
  · rw [n]at r;cases r
 have hm:∀b u,H b=some u→¬Mut (some u)→b≠x:=fun b u q nm z=>by subst z;rw [q]at mu;exact nm mu
 refine ⟨fun b u q n _ _=>k b u (hb b n) q,fun b u q n _ _=>⟨u.slots,k b u (hb b n) q⟩,fun b u q n _=>by rw [upd_ne (hx b n)];exact n,fun b u q _=>?_,
  fun b xs q=>by rw [upd_ne (hm b _ q fun z=>z)];exact q,fun b u xs q=>by rw [upd_ne (hm b _ q fun z=>z)];exact q,fun b ps q=>⟨#[],by rw [upd_ne (hm b _ q fun z=>z),q];simp⟩⟩
 by_cases hbe:b=e
 · subst hbe;exact heo
 · exact ⟨u,k b u hbe q⟩
end
noncomputable def trk(h:Heap)(H:Hp):List Addr:=(List.range h.objs.size).filter fun a=>(H a).isSome
noncomputable def hidT(h:Heap)(H:Hp):Heap:=PySem.W.hideAll h (trk h H)
theorem hidT_size(h:Heap)(H:Hp):(hidT h H).objs.size=h.objs.size:=PySem.W.hideAll_size _ _
theorem hidT_get{h:Heap}{H:Hp}{b:Addr}{o:Obj}(e:h.get? b=some o)(n:H b=none):(hidT h H).get? b=some o:=
 PySem.W.hideAll_get _ e fun hm=>by
  have q:(H b).isSome=true:=(List.mem_filter.mp hm).2
  rw [n]at q;simp at q
theorem of_hidT{h:Heap}{H:Hp}{b:Addr}{o:Obj}(e:(hidT h H).get? b=some o):h.get? b=some o∧H b=none:=by
 have e':h.get? b=some o:=PySem.W.of_hideAll (trk h H) e
 refine ⟨e',?_⟩
 cases q:H b with
 | none=>rfl
 | some x=>
  have hm:b∈trk h H:=List.mem_filter.mpr ⟨List.mem_range.mpr (Heap.lt_size e'),by simp [q]⟩
  have z:(hidT h H).get? b=none:=PySem.W.hideAll_none (trk h H) hm
  rw [z]at e;cases e
noncomputable def allNews(g h:Heap)(L:Addr):List (Addr×Obj):=(List.range h.objs.size).filterMap fun a=>if a=L∨(g.get? a).isSome=true then none else (h.get? a).map fun o=>(a,o)
noncomputable def rest(g h:Heap)(L d:Addr):List (Addr×Obj):=(allNews g h L).filter fun p=>decide (p.1≠d)
end L2
namespace L2
structure Mod(K:PySem.W.Frag)(mg:Str→Option Value)(base:Heap):Prop where
 kin:K.In base
 glob:base.Ns mainGlobals mg
 blt:∃mb,base.Ns builtinsNs mb∧∀x:Str,x≠"__name__"→mb x=bootBuiltins x
 nolimit:base.NoLimit
structure Cx where
 prog:Program
 w:World
 K:PySem.W.Frag
 mg:Str→Option Value
 base:Heap
 A:Around
 N:List Str
 s₀:Shared
 H₀:Hp
 env:Env
 outer:List Env
 stack:List Env
 ex:List Addr
 fn:Str→Bool
 calm:Bool
 pn:List (Addr×Obj)
 xe:Value→Shared→Prop
noncomputable def frs(l:List Env):List Addr:=l.filterMap (·.frame)
noncomputable abbrev Cx.fs(X:Cx):List Addr:=frs X.outer
noncomputable def Vis(sc:Scope)(x:Str):Prop:=sc.names.lookup x=some .local∨sc.names.lookup x=some .cell∨sc.names.lookup x=some .free
noncomputable def Loc(sc:Scope)(x:Str):Prop:=sc.names.lookup x=some .local∨sc.names.lookup x=some .cell
noncomputable def Look(env:Env)(h:Heap)(m:Str→Option Value)(x:Str)(u:Value):Prop:=
 (env.kindOf x=some .local∧m x=some u)∨((env.kindOf x=some .cell∨env.kindOf x=some .free)∧∃c,env.cells.lookup x=some c∧h.IsCell c (some u))
structure Cx.Ok(X:Cx):Prop where
 mod:Mod X.K X.mg X.base
 kind:X.env.scope.kind= .function
 glob:X.env.globals=mainGlobals
 blt:X.env.builtins=builtinsNs
 above:X.s₀.heap.objs.size≤X.env.locals
 inj:∀x y c,X.env.cells.lookup x=some c→X.env.cells.lookup y=some c→x=y
 has:∀x,(X.env.kindOf x=some .cell∨X.env.kindOf x=some .free)→∃c,X.env.cells.lookup x=some c
 cab:∀x c,X.fn x=true→X.env.cells.lookup x=some c→X.s₀.heap.objs.size≤c
 hd:X.calm=true→X.A.handled=none
 frames:X.A.frames=some X.stack
 stk:X.stack=X.outer∨(X.stack=X.env::X.outer∧X.env.frame=some X.env.locals)
 exf:∀b∈X.ex,b≠X.env.locals∧∀x c,X.env.cells.lookup x=some c→c≠b
 bs:∀b o,X.base.get? b=some o→X.s₀.heap.get? b=some o∧X.H₀ b=none
 bsz:X.base.objs.size≤X.s₀.heap.objs.size
 noex:∀b o,X.base.get? b=some o→b∉X.ex
 exfs:∀b∈X.ex,b∉X.fs
 funs:X.s₀.heap.FunFrames X.base X.outer
 frf:∀b∈X.fs,X.H₀ b=none
structure Inv(X:Cx)(pins:List (Addr×Obj))(σ:List (Option V))(H:Hp)(s:Shared):Prop where
 ok:X.Ok
 os:s.os=X.s₀.os
 bare:AllBare s.gens
 base:Un X.fs X.ex X.H₀ H X.s₀.heap s.heap
 loc:∃m,s.heap.Ns X.env.locals m∧∀(i:Nat) (x:Str) (v:V),X.N[i]?=some x→σ[i]?=some (some v)→Vis X.env.scope x→∃u,RelV v u∧Look X.env s.heap m x u
 cell:∀x c,X.env.cells.lookup x=some c→∃v,s.heap.IsCell c v
 free:H X.env.locals=none
 freeC:∀x c,X.env.cells.lookup x=some c→H c=none
 pin:∀p∈X.pn++pins,s.heap.get? p.1=some p.2∧H p.1=none∧p.1≠X.env.locals∧p.1∉X.fs∧∀v,p.2.data≠ .cell v
 hok:HOk X.prog X.w H s.heap
 len:σ.length=X.N.length
section
variable {X:Cx} {pins:List (Addr×Obj)} {σ:List (Option V)} {H H':Hp} {s:Shared} {h':Heap}
theorem Cx.Ok.nofr(ok:X.Ok){b:Addr}{o:Obj}(e:X.base.get? b=some o):b∉X.fs:=fun hb=>by
 have:=(ok.funs.mem hb).1
 rw [e]at this;cases this
theorem Inv.bs(I:Inv X pins σ H s):∀b o,X.base.get? b=some o→s.heap.get? b=some o∧H b=none:=fun b o e=>
 ⟨I.base.keep b o (I.ok.bs b o e).1 (I.ok.bs b o e).2 (I.ok.nofr e) (I.ok.noex b o e),I.base.free b o (I.ok.bs b o e).1 (I.ok.bs b o e).2 (I.ok.noex b o e)⟩
theorem Inv.bk(I:Inv X pins σ H s):∀b o,X.base.get? b=some o→s.heap.get? b=some o:=fun b o e=>(I.bs b o e).1
theorem Inv.mod(I:Inv X pins σ H s):Mod X.K X.mg X.base:=I.ok.mod
theorem Inv.kIn(I:Inv X pins σ H s):X.K.In s.heap:=I.ok.mod.kin.keeps I.bk
theorem Inv.lt(I:Inv X pins σ H s):X.env.locals < s.heap.objs.size:=let ⟨_,hn,_⟩:=I.loc;hn.lt
theorem Inv.sz(I:Inv X pins σ H s):X.s₀.heap.objs.size≤s.heap.objs.size:=Nat.le_trans I.ok.above (Nat.le_of_lt I.lt)
theorem Inv.nofs(I:Inv X pins σ H s){a:Addr}(h:s.heap.objs.size≤a):a∉X.fs:=fun hb=>by
 obtain ⟨_,o,ho,_⟩:=I.ok.funs.mem hb
 exact absurd (Nat.lt_of_lt_of_le (Heap.lt_size ho) (Nat.le_trans I.sz h)) (Nat.lt_irrefl _)
theorem Inv.cne(I:Inv X pins σ H s):∀x c,X.env.cells.lookup x=some c→c≠X.env.locals:=fun x c e z=>by
 obtain ⟨v,o,ho,hd⟩:=I.cell x c e
 obtain ⟨m,⟨o',es,ep,ho',hd',_⟩,_⟩:=I.loc
 rw [z,ho']at ho;cases ho;rw [hd']at hd;cases hd
theorem Inv.funs(I:Inv X pins σ H s):s.heap.FunFrames X.base X.outer:=by
 have all:∀(l:List Env),(∀b∈frs l,b∈X.fs)→X.s₀.heap.FunFrames X.base l→s.heap.FunFrames X.base l:=by
  intro l
  induction l with
  | nil=>intro _ _;trivial
  | cons env r ih=>
   intro hs hl
   obtain ⟨hk,⟨L,o,hf,hn,ho,hd⟩,hr⟩:=hl
   have hL:L∈X.fs:=hs L (by unfold frs;rw [List.filterMap_cons,hf];exact List.mem_cons_self)
   obtain ⟨sl,e⟩:=I.base.slot L o ho (I.ok.frf L hL) hL fun z=>I.ok.exfs L z hL
   exact ⟨hk,⟨L,_,hf,hn,e,hd⟩,ih (fun b hb=>hs b (by unfold frs;rw [List.filterMap_cons,hf];exact List.mem_cons_of_mem _ hb)) hr⟩
 exact all X.outer (fun _ hb=>hb) I.ok.funs
theorem Inv.stack(I:Inv X pins σ H s):s.heap.FunFrames X.base X.stack:=by
 rcases I.ok.stk with e | ⟨e,hf⟩
 · rw [e];exact I.funs
 · rw [e]
   obtain ⟨m,hn,_⟩:=I.loc
   refine .cons (by rw [I.ok.kind];decide) hf hn ?_ I.funs
   exact Heap.get?_none_of_le (Nat.le_trans I.ok.bsz I.ok.above)
theorem Inv.stkSub(I:Inv X pins σ H s):∀b∈frs X.stack,b∈X.env.locals::X.fs:=fun b hb=>by
 rcases I.ok.stk with e | ⟨e,hf⟩
 · rw [e]at hb;exact List.mem_cons_of_mem _ hb
 · rw [e]at hb
   unfold frs at hb
   rw [List.filterMap_cons,hf]at hb
   exact hb
theorem Inv.stkFree(I:Inv X pins σ H s):∀b∈frs X.stack,H b=none:=fun b hb=>by
 rcases List.mem_cons.mp (I.stkSub b hb) with e | hb
 · rw [e];exact I.free
 · obtain ⟨_,o,ho,_⟩:=I.ok.funs.mem hb
   exact I.base.free b o ho (I.ok.frf b hb) fun z=>I.ok.exfs b z hb
theorem Inv.step{g':Array GenState}{t':Nat}{d':Drawn}{ch:List Addr}(I:Inv X pins σ H s)
 (hch:∀b∈ch,(b∈X.ex∨X.s₀.heap.objs.size≤b)∧b≠X.env.locals∧(∀x c,X.env.cells.lookup x=some c→c≠b)∧∀p∈X.pn++pins,p.1≠b)
 (keep:∀b o,b≠X.env.locals→b∉X.fs→b∉ch→s.heap.get? b=some o→H b=none→h'.get? b=some o)
 (slot:∀b o,b≠X.env.locals→b∈X.fs→b∉ch→s.heap.get? b=some o→H b=none→∃sl,h'.get? b=some {o with slots:=sl}) (free:∀b o,b∉ch→s.heap.get? b=some o→H b=none→H' b=none)
 (there:∀b o,b∉ch→s.heap.get? b=some o→∃o',h'.get? b=some o')
 (tups:∀b xs,H b=some (.tup xs)→H' b=some (.tup xs)) (frzs:∀b o u,H b=some (.frz o u)→H' b=some (.frz o u)) (tbls:∀b ps,H b=some (.tbl ps)→∃more,H' b=some (.tbl (ps++more)))
 (ns:∀m,s.heap.Ns X.env.locals m→h'.Ns X.env.locals m) (hok:HOk X.prog X.w H' h') (hg:AllBare g'):
 Inv X pins σ H' {s with heap:=h',gens:=g',drawn:=d',toks:=t'}:=by
 have neL:∀b o,X.s₀.heap.get? b=some o→b≠X.env.locals:=fun b o e=>Nat.ne_of_lt (Nat.lt_of_lt_of_le (Heap.lt_size e) I.ok.above)
 have neC:∀b o,X.s₀.heap.get? b=some o→b∉X.ex→b∉ch:=fun b o e hx hb=>by
  rcases (hch b hb).1 with z | z
  · exact hx z
  · exact absurd (Nat.lt_of_lt_of_le (Heap.lt_size e) z) (Nat.lt_irrefl _)
 have cellK:∀x c,X.env.cells.lookup x=some c→∀v,s.heap.IsCell c v→h'.IsCell c v:=fun x c e v ⟨o,ho,hd⟩=>by
  have nch:c∉ch:=fun z=>(hch c z).2.2.1 x c e rfl
  by_cases hc:c∈X.fs
  · obtain ⟨sl,q⟩:=slot c o (I.cne x c e) hc nch ho (I.freeC x c e)
    exact ⟨_,q,hd⟩
  · exact ⟨o,keep c o (I.cne x c e) hc nch ho (I.freeC x c e),hd⟩
 refine ⟨I.ok,I.os,hg,⟨fun b o e n hb hx=>?_,fun b o e n hb hx=>?_,fun b o e n hx=>?_,fun b o e hx=>?_,fun b xs e=>tups b xs (I.base.tups b xs e),fun b o xs e=>frzs b o xs (I.base.frzs b o xs e),fun b ps e=>?_⟩,?_,fun x c e=>?_,?_,fun x c e=>?_,fun p hp=>?_,hok,I.len⟩
 · exact keep b o (neL b o e) hb (neC b o e hx) (I.base.keep b o e n hb hx) (I.base.free b o e n hx)
 · obtain ⟨sl,e1⟩:=I.base.slot b o e n hb hx
   obtain ⟨sl',e2⟩:=slot b _ (neL b o e) hb (neC b o e hx) e1 (I.base.free b o e n hx)
   exact ⟨sl',e2⟩
 · obtain ⟨o',e1⟩:=I.base.there b o e hx
   exact free b o' (neC b o e hx) e1 (I.base.free b o e n hx)
 · obtain ⟨o',e1⟩:=I.base.there b o e hx
   exact there b o' (neC b o e hx) e1
 · obtain ⟨m1,e1⟩:=I.base.tbls b ps e
   obtain ⟨m2,e2⟩:=tbls b _ e1
   exact ⟨m1++m2,by rw [e2,Array.append_assoc]⟩
 · obtain ⟨m,hn,hl⟩:=I.loc
   refine ⟨m,ns m hn,fun i x v e1 e2 e3=>?_⟩
   obtain ⟨u,r,l⟩:=hl i x v e1 e2 e3
   refine ⟨u,r,?_⟩
   rcases l with l | ⟨k,c,e,z⟩
   · exact .inl l
   · exact .inr ⟨k,c,e,cellK x c e _ z⟩
 · obtain ⟨v,z⟩:=I.cell x c e
   exact ⟨v,cellK x c e v z⟩
 · obtain ⟨m,⟨o,_,_,ho,_⟩,_⟩:=I.loc
   exact free _ o (fun z=>(hch _ z).2.1 rfl) ho I.free
 · obtain ⟨v,o,ho,hd⟩:=I.cell x c e
   exact free c o (fun z=>(hch c z).2.2.1 x c e rfl) ho (I.freeC x c e)
 · obtain ⟨e,n,ne,nf,d⟩:=I.pin p hp
   have nch:p.1∉ch:=fun z=>(hch p.1 z).2.2.2 p hp rfl
   exact ⟨keep p.1 p.2 ne nf nch e n,free p.1 p.2 nch e n,ne,nf,d⟩
theorem Inv.un{t':Nat}(I:Inv X pins σ H s)(u:Un X.fs [] H H' s.heap h')(hok:HOk X.prog X.w H' h'):Inv X pins σ H' {s with heap:=h',toks:=t'}:=by
 obtain ⟨m,⟨o,es,ep,ho,r⟩,_⟩:=id I.loc
 obtain ⟨sl,hL⟩:=u.any ho I.free (by simp)
 exact I.step (g':=s.gens) (d':=s.drawn) (ch:=[]) (fun _ z=>nomatch z) (fun b o _ hb _ e n=>u.keep b o e n hb (by simp)) (fun b o _ hb _ e n=>u.slot b o e n hb (by simp)) (fun b o _ e n=>u.free b o e n (by simp)) (fun b o _ e=>u.there b o e (by simp)) u.tups u.frzs u.tbls (fun m' hm=>by
  obtain ⟨o',es',ep',ho',r'⟩:=hm
  rw [ho]at ho';cases ho'
  exact ⟨_,es',ep',hL,r'⟩) hok I.bare
theorem Inv.call{g':Array GenState}{t':Nat}{d':Drawn}{ch:List Addr}(I:Inv X pins σ H s)(u:Un (frs X.stack) ch H H' s.heap h')(hok:HOk X.prog X.w H' h')(hg:AllBare g')
 (hch:∀b∈ch,(b∈X.ex∨X.s₀.heap.objs.size≤b)∧b≠X.env.locals∧(∀x c,X.env.cells.lookup x=some c→c≠b)∧∀p∈X.pn++pins,p.1≠b):
 Inv X pins σ H' {s with heap:=h',gens:=g',drawn:=d',toks:=t'}:=by
 obtain ⟨m,⟨o,es,ep,ho,r⟩,_⟩:=id I.loc
 obtain ⟨sl,hL⟩:=u.any ho I.free fun z=>(hch _ z).2.1 rfl
 exact I.step (ch:=ch) hch (fun b o hL hb hc e n=>u.keep b o e n (fun z=>(List.mem_cons.mp (I.stkSub b z)).elim hL hb) hc) (fun b o _ _ hc e n=>u.any e n hc) (fun b o hc e n=>u.free b o e n hc) (fun b o hc e=>u.there b o e hc) u.tups u.frzs u.tbls (fun m' hm=>by
  obtain ⟨o',es',ep',ho',r'⟩:=hm
  rw [ho]at ho';cases ho'
  exact ⟨_,es',ep',hL,r'⟩) hok hg
theorem Inv.turned{t':Nat}{it:Addr}(I:Inv X pins σ H s)(k:∀b o,b≠it→s.heap.get? b=some o→h'.get? b=some o)(hn:H it=none)(hL:it≠X.env.locals)
 (h1:it∈X.ex∨X.s₀.heap.objs.size≤it) (h2:∀x c,X.env.cells.lookup x=some c→c≠it) (h3:∀p∈X.pn++pins,p.1≠it):Inv X pins σ H {s with heap:=h',toks:=t'}:=by
 have nit:∀b u,H b=some u→b≠it:=fun b u e z=>by rw [z,hn]at e;cases e
 refine I.step (g':=s.gens) (d':=s.drawn) (ch:=[it]) (fun b hb=>?_) (fun b o _ _ hc e _=>k b o (fun z=>hc (by simp [z])) e) (fun b o _ _ hc e _=>⟨o.slots,k b o (fun z=>hc (by simp [z])) e⟩) (fun _ _ _ _ n=>n)
  (fun b o hc e=>⟨o,k b o (fun z=>hc (by simp [z])) e⟩) (fun _ _ e=>e) (fun _ _ _ e=>e) (fun b ps e=>⟨#[],by rw [e];simp⟩) (fun m hm=>?_) (fun b u e=>?_) I.bare
 · have e:b=it:=by simpa using hb
   subst e
   exact ⟨h1,hL,h2,h3⟩
 · obtain ⟨o,es,ep,ho,r⟩:=hm
   exact ⟨o,es,ep,k _ o (Ne.symm hL) ho,r⟩
 · refine (I.hok b u e).stay (fun c v hc q=>k c v ?_ q) (fun _ q=>q) fun _ _ q=>q
   rcases hc with z | z
   · rw [z];exact nit b u e
   · exact nit c _ z
theorem Inv.tok(I:Inv X pins σ H s)(t:Nat):Inv X pins σ H {s with toks:=t}:=I.un (h':=s.heap) (t':=t) Un.refl I.hok
theorem Inv.kept{t':Nat}(I:Inv X pins σ H s)(k:∀b u,s.heap.get? b=some u→h'.get? b=some u):Inv X pins σ H {s with heap:=h',toks:=t'}:=I.un (Un.kept k) (I.hok.kept k)
theorem Inv.laid{a:Addr}{o:HO}{t':Nat}(I:Inv X pins σ H s)(k:∀b u,s.heap.get? b=some u→h'.get? b=some u)(hp:s.heap.objs.size≤a)(new:ObjOk X.prog X.w (upd H a o) h' a o):
 Inv X pins σ (upd H a o) {s with heap:=h',toks:=t'}:=I.un (Un.laid k hp (I.hok.fresh hp)) (I.hok.laid k hp new)
theorem Inv.write{x e:Addr}{o:HO}{t':Nat}(I:Inv X pins σ H s)(mu:Mut (H x))(he:e=x∨H e=some (.own x))(k:∀b u,b≠e→s.heap.get? b=some u→h'.get? b=some u)(heo:∃u,h'.get? e=some u)
 (new:ObjOk X.prog X.w (upd H x o) h' x o):Inv X pins σ (upd H x o) {s with heap:=h',toks:=t'}:=I.un (Un.write mu he k heo) (I.hok.write mu he k heo new)
theorem Inv.weak{σ':List (Option V)}(I:Inv X pins σ H s)(hl:σ'.length=σ.length)(w:∀(i:Nat) v,σ'[i]?=some (some v)→σ[i]?=some (some v)):Inv X pins σ' H s:=
 ⟨I.ok,I.os,I.bare,I.base,let ⟨m,hn,hl'⟩:=I.loc;⟨m,hn,fun i x v e1 e2 e3=>hl' i x v e1 (w i v e2) e3⟩,I.cell,I.free,I.freeC,I.pin,I.hok,hl.trans I.len⟩
theorem Inv.pins_of{pins':List (Addr×Obj)}(I:Inv X pins σ H s)(h:∀p∈pins',s.heap.get? p.1=some p.2∧H p.1=none∧p.1≠X.env.locals∧p.1∉X.fs∧∀v,p.2.data≠ .cell v):Inv X pins' σ H s:=
 ⟨I.ok,I.os,I.bare,I.base,I.loc,I.cell,I.free,I.freeC,fun p hp=>(List.mem_append.mp hp).elim (fun z=>I.pin p (List.mem_append_left _ z)) (h p),I.hok,I.len⟩
theorem nodup_ix{N:List Str}(hN:N.Nodup){i j:Nat}{x:Str}(a:N[i]?=some x)(b:N[j]?=some x):i=j:=by
 obtain ⟨h1,e1⟩:=List.getElem?_eq_some_iff.mp a
 obtain ⟨h2,e2⟩:=List.getElem?_eq_some_iff.mp b
 exact (List.getElem_inj hN).mp (e1.trans e2.symm)
theorem store_ok2{M:Model}{A:Around}{E:Value→Shared→Prop}{i:Nat}{x:Str}{v:V}{u:Value}{Q:Unit→Shared→Prop}(I:Inv X pins σ H s)(hN:X.N.Nodup)(hi:X.N[i]?=some x)(hx:Loc X.env.scope x)(r:RelV v u)
 (h:∀s',Inv X pins (σ.set i (some v)) H s'→(∃a,Heap.SameBut a s.heap s'.heap∧(a=X.env.locals∨X.env.cells.lookup x=some a))→Q () s') (hf:X.fn x=true∨X.env.scope.names.lookup x=some .local:=by first | exact .inl rfl | exact .inr rfl | assumption):wpAny M A (storeName X.env x u) Q E s:=by
 obtain ⟨m,hn,hl⟩:=id I.loc
 have hcls:(X.env.scope.kind== .class || (X.env.scope.kind== .module && X.env.locals !=X.env.globals))=false:=by rw [I.ok.kind];rfl
 have hiσ:i < σ.length:=by rw [I.len];exact (List.getElem?_eq_some_iff.mp hi).1
 have cne:=I.cne
 have tracked:∀{a:Addr} {h':Heap},(∃o,s.heap.get? a=some o∧H a=none)→Heap.SameBut a s.heap h'→HOk X.prog X.w H h':=fun {a h'} ha hs b ob e=>by
  obtain ⟨_,_,hfree⟩:=ha
  refine (I.hok b ob e).stay (fun c w' hc q=>(hs.2 c ?_).trans q) (fun _ q=>q) fun _ _ q=>q
  rintro rfl
  rcases hc with rfl | hc
  · rw [hfree]at e;cases e
  · rw [hfree]at hc;cases hc
 rcases hx with hk | hk
 · refine wpAny_storeName_local hk hn (fun h' hn' hs=>?_) hcls
   obtain ⟨oL,_,_,hoL,_⟩:=id hn
   refine h _ ⟨I.ok,I.os,I.bare,⟨fun b o e n hb hx=>?_,fun b o e n hb hx=>?_,I.base.free,fun b o e hx=>?_,I.base.tups,I.base.frzs,I.base.tbls⟩,⟨_,hn',fun j y v' e1 e2 e3=>?_⟩,fun y c e=>?_,I.free,I.freeC,fun p hp=>?_,tracked ⟨oL,hoL,I.free⟩ hs,by simpa using I.len⟩ ⟨_,hs,.inl rfl⟩
   · exact (hs.2 b (Nat.ne_of_lt (Nat.lt_of_lt_of_le (Heap.lt_size e) I.ok.above))).trans (I.base.keep b o e n hb hx)
   · obtain ⟨sl,e1⟩:=I.base.slot b o e n hb hx
     exact ⟨sl,(hs.2 b (Nat.ne_of_lt (Nat.lt_of_lt_of_le (Heap.lt_size e) I.ok.above))).trans e1⟩
   · obtain ⟨o',e1⟩:=I.base.there b o e hx
     exact ⟨o',(hs.2 b (Nat.ne_of_lt (Nat.lt_of_lt_of_le (Heap.lt_size e) I.ok.above))).trans e1⟩
   · by_cases hj:j=i
     · subst hj
       rw [hi]at e1;cases e1
       rw [List.getElem?_set_self hiσ]at e2
       cases e2
       exact ⟨u,r,.inl ⟨hk,by simp⟩⟩
     · rw [List.getElem?_set_ne (Ne.symm hj)]at e2
       obtain ⟨u',r',q⟩:=hl j y v' e1 e2 e3
       refine ⟨u',r',?_⟩
       rcases q with ⟨k,e⟩ | ⟨k,c,e,z⟩
       · refine .inl ⟨k,?_⟩
         have:y≠x:=fun e=>hj (nodup_ix hN e1 (e▸hi))
         simp [this,e]
       · exact .inr ⟨k,c,e,z.sameBut hs (cne y c e)⟩
   · obtain ⟨w',z⟩:=I.cell y c e
     exact ⟨w',z.sameBut hs (cne y c e)⟩
   · obtain ⟨e,n,ne,nf,d⟩:=I.pin p hp
     exact ⟨(hs.2 p.1 ne).trans e,n,ne,nf,d⟩
 · have hfn:X.fn x=true:=by
    rcases hf with z | z
    · exact z
    · rw [z]at hk;cases hk
   obtain ⟨c,hc⟩:=I.ok.has x (.inl hk)
   obtain ⟨w',z⟩:=I.cell x c hc
   refine wpAny_storeName_cell I.ok.kind hk hc z (fun h' hc' hs=>?_)
   obtain ⟨oc,hoc,hocd⟩:=id z
   refine h {s with heap:=h'} ⟨I.ok,I.os,I.bare,⟨fun b o e n hb hx=>?_,fun b o e n hb hx=>?_,I.base.free,fun b o e hx=>?_,I.base.tups,I.base.frzs,I.base.tbls⟩,⟨m,hn.sameBut hs (Ne.symm (cne x c hc)),fun j y v' e1 e2 e3=>?_⟩,fun y c' e=>?_,I.free,I.freeC,fun p hp=>?_,tracked ⟨oc,hoc,I.freeC x c hc⟩ hs,by simpa using I.len⟩ ⟨c,hs,.inr hc⟩
   · exact (hs.2 b (Nat.ne_of_lt (Nat.lt_of_lt_of_le (Heap.lt_size e) (I.ok.cab x c hfn hc)))).trans (I.base.keep b o e n hb hx)
   · obtain ⟨sl,e1⟩:=I.base.slot b o e n hb hx
     exact ⟨sl,(hs.2 b (Nat.ne_of_lt (Nat.lt_of_lt_of_le (Heap.lt_size e) (I.ok.cab x c hfn hc)))).trans e1⟩
   · obtain ⟨o',e1⟩:=I.base.there b o e hx
     exact ⟨o',(hs.2 b (Nat.ne_of_lt (Nat.lt_of_lt_of_le (Heap.lt_size e) (I.ok.cab x c hfn hc)))).trans e1⟩
   · by_cases hj:j=i
     · subst hj
       rw [hi]at e1;cases e1
       rw [List.getElem?_set_self hiσ]at e2
       cases e2
       exact ⟨u,r,.inr ⟨.inl hk,c,hc,hc'⟩⟩
     · rw [List.getElem?_set_ne (Ne.symm hj)]at e2
       obtain ⟨u',r',q⟩:=hl j y v' e1 e2 e3
       refine ⟨u',r',?_⟩
       rcases q with q | ⟨k,c',e,z'⟩
       · exact .inl q
       · refine .inr ⟨k,c',e,z'.sameBut hs ?_⟩
         rintro rfl
         exact hj (nodup_ix hN e1 (I.ok.inj _ _ _ e hc▸hi))
   · by_cases hcc:c'=c
     · subst hcc;exact ⟨_,hc'⟩
     · obtain ⟨w2,z2⟩:=I.cell y c' e
       exact ⟨w2,z2.sameBut hs hcc⟩
   · obtain ⟨e,n,ne,nf,d⟩:=I.pin p hp
     refine ⟨(hs.2 p.1 ?_).trans e,n,ne,nf,d⟩
     intro q
     rw [q,hoc]at e
     have q':oc=p.2:=Option.some.inj e
     exact d w' (by rw [← q'];exact hocd)
theorem store_ok{M:Model}{A:Around}{E:Value→Shared→Prop}{i:Nat}{x:Str}{v:V}{u:Value}{Q:Unit→Shared→Prop}(I:Inv X pins σ H s)(hN:X.N.Nodup)(hi:X.N[i]?=some x)(hx:Loc X.env.scope x)(r:RelV v u)
 (h:∀s',Inv X pins (σ.set i (some v)) H s'→Q () s') (hf:X.fn x=true∨X.env.scope.names.lookup x=some .local:=by first | exact .inl rfl | exact .inr rfl | assumption):wpAny M A (storeName X.env x u) Q E s:=
 store_ok2 I hN hi hx r (fun s' I' _=>h s' I') hf
theorem Inv.call'{s':Shared}{ch:List Addr}(I:Inv X pins σ H s)(ho:s'.os=s.os)(u:Un (frs X.stack) ch H H' s.heap s'.heap)(hok:HOk X.prog X.w H' s'.heap)(hg:AllBare s'.gens)
 (hch:∀b∈ch,(b∈X.ex∨X.s₀.heap.objs.size≤b)∧b≠X.env.locals∧(∀x c,X.env.cells.lookup x=some c→c≠b)∧∀p∈X.pn++pins,p.1≠b):Inv X pins σ H' s':=by
 obtain ⟨h',g',d',t',o'⟩:=s'
 have e:o'=s.os:=ho
 subst e
 exact I.call (g':=g') (t':=t') (d':=d') u hok hg hch
end
noncomputable abbrev XK:=Value→Option Addr→Hp→Prop
noncomputable abbrev St:=List (Option V)
noncomputable abbrev VK:=V→Hp→Prop
noncomputable abbrev TE:=St→Hp→VK→Prop
noncomputable abbrev TT:=St→Hp→(Bool→Hp→Prop)→Prop
noncomputable abbrev TA:=St→Hp→(List V→Hp→Prop)→Prop
structure Ends where
 nx:St→Hp→Prop
 rt:VK
 bk:St→Hp→Prop:=fun _ _=>False
 ct:St→Hp→Prop:=fun _ _=>False
noncomputable abbrev TS:=Ends→St→Hp→Prop
noncomputable def EP(X:Cx)(pins:List (Addr×Obj))(σ:St)(Q:VK)(u:Value)(s':Shared):Prop:=∃v H',Inv X pins σ H' s'∧RelV v u∧Q v H'
noncomputable def TP(X:Cx)(pins:List (Addr×Obj))(σ:St)(Q:Bool→Hp→Prop)(b:Bool)(s':Shared):Prop:=∃H',Inv X pins σ H' s'∧Q b H'
noncomputable def AP(X:Cx)(pins:List (Addr×Obj))(σ:St)(Q:List V→Hp→Prop)(us:List Value)(s':Shared):Prop:=∃vs H',Inv X pins σ H' s'∧Vals vs us∧Q vs H'
noncomputable def SP(X:Cx)(pins:List (Addr×Obj))(D:Ends)(f:Flow)(s':Shared):Prop:=
 match f with
 | .next=>∃σ' H',Inv X pins σ' H' s'∧D.nx σ' H'
 | .brk=>∃σ' H',Inv X pins σ' H' s'∧D.bk σ' H'
 | .cont=>∃σ' H',Inv X pins σ' H' s'∧D.ct σ' H'
 | .ret u=>∃v σ' H',Inv X pins σ' H' s'∧RelV v u∧D.rt v H'
noncomputable def PE(X:Cx)(e:Expr)(t:TE):Prop:=
 ∀(pins:List (Addr×Obj)) (s:Shared) (σ:St) (H:Hp) (Q:VK),Inv X pins σ H s→t σ H Q→wpAny (model X.prog X.w) X.A (eval e X.env) (EP X pins σ Q) X.xe s
noncomputable def PT(X:Cx)(e:Expr)(t:TT):Prop:=
 ∀(pins:List (Addr×Obj)) (s:Shared) (σ:St) (H:Hp) (Q:Bool→Hp→Prop),Inv X pins σ H s→t σ H Q→wpAny (model X.prog X.w) X.A (isTrue e X.env (eval e X.env)) (TP X pins σ Q) X.xe s
noncomputable def PW(X:Cx)(e:Expr)(t:TT):Prop:=
 ∀(whole:Sem Value) (pins:List (Addr×Obj)) (s:Shared) (σ:St) (H:Hp) (Q:Bool→Hp→Prop),Inv X pins σ H s→t σ H Q→wpAny (model X.prog X.w) X.A (isTrue e X.env whole) (TP X pins σ Q) X.xe s
theorem PW.pt{X:Cx}{e:Expr}{t:TT}(h:PW X e t):PT X e t:=h _
noncomputable def PA(X:Cx)(es:List Expr)(t:TA):Prop:=
 ∀(pos:Pos) (pins:List (Addr×Obj)) (s:Shared) (σ:St) (H:Hp) (Q:List V→Hp→Prop),Inv X pins σ H s→t σ H Q→wpAny (model X.prog X.w) X.A (spliced (backTo pos (starEach es X.env))) (AP X pins σ Q) X.xe s
noncomputable def PS(X:Cx)(st:Stmt)(t:TS):Prop:=
 ∀(pins:List (Addr×Obj)) (s:Shared) (σ:St) (H:Hp) (D:Ends),Inv X pins σ H s→t D σ H→wpAny (model X.prog X.w) X.A (exec st X.env) (SP X pins D) X.xe s
noncomputable def PSs(X:Cx)(st:List Stmt)(t:TS):Prop:=
 ∀(pins:List (Addr×Obj)) (s:Shared) (σ:St) (H:Hp) (D:Ends),Inv X pins σ H s→t D σ H→wpAny (model X.prog X.w) X.A (execs st X.env) (SP X pins D) X.xe s
theorem thn{α:Type}{t:Sem α}{Q Q':α→Shared→Prop}{M:Model}{A:Around}{E:Value→Shared→Prop}{s:Shared}(h:wpAny M A t Q E s)(hQ:∀a s,Q a s→Q' a s):wpAny M A t Q' E s:=wpAny_mono h hQ fun _ _ x=>x
end L2
namespace L2
section
variable {X:Cx}
noncomputable def tVar(i:Nat):TE:=fun σ H Q=>∃v,σ[i]?=some (some v)∧Q v H
noncomputable def tC(v:V):TE:=fun _ H Q=>Q v H
theorem pe_var{i:Nat}{x:Str}{pos:Pos}(hN:X.N[i]?=some x)(hv:Vis X.env.scope x)(hd:(x==("__debug__":Str))=false:=by decide)(hcd:(x==("__classdict__":Str))=false:=by decide):PE X (.Name x pos) (tVar i):=by
 intro pins s σ H Q I h
 obtain ⟨v,e,h⟩:=h
 obtain ⟨m,hn,hl⟩:=I.loc
 obtain ⟨u,r,l⟩:=hl i x v hN e hv
 have fin:EP X pins σ Q u s:=⟨v,H,I,r,h⟩
 rcases l with ⟨hk,hm⟩ | ⟨hk,c,hc,hcell⟩
 · exact wpAny_Name (wpAny_loadName_local I.ok.kind hk hn hm fin) hd
 · rcases hk with hk | hk
   · exact wpAny_Name (wpAny_loadName_cell I.ok.kind hk hc hcell fin) hd
   · exact wpAny_Name (wpAny_loadName_free I.ok.kind hk hc hcell fin hcd) hd
theorem pe_int{i j pos}:PE X (.Constant (.int i) j pos) (tC (.int i)):=fun _ _ _ H _ I h=>wpAny_Constant_int ⟨.int i,H,I.tok _,⟨_,rfl⟩,h⟩
theorem pe_bl{b j pos}:PE X (.Constant (.bool b) j pos) (tC (.bl b)):=fun _ _ _ H _ I h=>Constant_bool ⟨.bl b,H,I,rfl,h⟩
theorem pe_non{j pos}:PE X (.Constant .none j pos) (tC .non):=fun _ _ _ H _ I h=>Constant_none ⟨.non,H,I,rfl,h⟩
theorem pe_str{x j pos}:PE X (.Constant (.str x) j pos) (tC (.str x)):=fun _ _ _ H _ I h=>Calls.Constant_str ⟨.str x,H,I.tok _,⟨_,rfl⟩,h⟩
noncomputable def Gl(X:Cx)(x:Str):Prop:=X.env.kindOf x=some .globalImplicit
theorem ld_glob{E:Value→Shared→Prop}{pins:List (Addr×Obj)}{s:Shared}{σ:St}{H:Hp}{x:Str}{u:Value}{pos:Pos}{Q:Value→Shared→Prop}(I:Inv X pins σ H s)(hg:Gl X x)(hm:X.mg x=some u)(h:Q u s)
 (hd:(x==("__debug__":Str))=false:=by decide):wpAny (model X.prog X.w) X.A (eval (.Name x pos) X.env) Q E s:=
 Calls.Name_function_global I.ok.kind hg (Calls.loadGlobal_global (by rw [I.ok.glob];exact I.mod.glob.keeps I.bk) hm h) hd
theorem ld_blt{E:Value→Shared→Prop}{pins:List (Addr×Obj)}{s:Shared}{σ:St}{H:Hp}{x:Str}{u:Value}{pos:Pos}{Q:Value→Shared→Prop}(I:Inv X pins σ H s)(hg:Gl X x)(hm:X.mg x=none)(hv:bootBuiltins x=some u)(h:Q u s)
 (hn:x≠"__name__":=by decide) (hd:(x==("__debug__":Str))=false:=by decide):wpAny (model X.prog X.w) X.A (eval (.Name x pos) X.env) Q E s:=by
 obtain ⟨mb,h1,h2⟩:=I.mod.blt
 exact Calls.Name_function_global I.ok.kind hg (Calls.loadGlobal_builtin (by rw [I.ok.glob];exact I.mod.glob.keeps I.bk) hm (by rw [I.ok.blt];exact h1.keeps I.bk) ((h2 x hn).trans hv) h) hd
theorem pe_glob{x:Str}{v:V}{u:Value}{pos:Pos}(hg:Gl X x)(hm:X.mg x=some u)(r:RelV v u)(hd:(x==("__debug__":Str))=false:=by decide):PE X (.Name x pos) (tC v):=
 fun _ _ _ H _ I h=>ld_glob I hg hm ⟨v,H,I,r,h⟩ hd
theorem pe_bltn{x:Str}{v:V}{u:Value}{pos:Pos}(hg:Gl X x)(hm:X.mg x=none)(hv:bootBuiltins x=some u)(r:RelV v u)(hn:x≠"__name__":=by decide)(hd:(x==("__debug__":Str))=false:=by decide):PE X (.Name x pos) (tC v):=
 fun _ _ _ H _ I h=>ld_blt I hg hm hv ⟨v,H,I,r,h⟩ hn hd
variable {a b:Expr} {ta tb:TE} {pos:Pos}
noncomputable def PC(X:Cx)(op:CmpOp)(a b:Expr)(t:TE):Prop:=
 ∀(pins:List (Addr×Obj)) (s:Shared) (σ:St) (H:Hp) (Q:VK),Inv X pins σ H s→t σ H Q→
   wpAny (model X.prog X.w) X.A (eval a X.env) (fun v s₁=>wpAny (model X.prog X.w) X.A (eval b X.env) (fun u s₂=>wpAny (model X.prog X.w) X.A (compareOp op v u) (EP X pins σ Q) X.xe s₂) X.xe s₁) X.xe s
theorem nobehind(b:Expr){op:CmpOp}(h:op≠ .In)(h2:op≠ .NotIn):behindInMarks op b=false:=by
 have e1:(op==CmpOp.In)=false:=by cases op <;> first | rfl | exact absurd rfl h
 have e2:(op==CmpOp.NotIn)=false:=by cases op <;> first | rfl | exact absurd rfl h2
 cases b <;> simp [behindInMarks,e1,e2]
noncomputable def tB(t:TE):TT:=fun σ H Q=>t σ H fun x H1=>∃c,x= .bl c∧Q c H1
theorem pe_cmp{op:CmpOp}{t:TE}(h:PC X op a b t)(h1:behindInMarks op b=false:=by first | exact nobehind _ (by decide) (by decide) | rfl):PE X (.Compare a [op] [b] pos) t:=fun pins s σ H Q I hw=>wpAny_Compare1 (h pins s σ H Q I hw) h1
theorem pt_cmp{op:CmpOp}{t:TE}(h:PC X op a b t)(h1:behindInMarks op b=false:=by first | exact nobehind _ (by decide) (by decide) | rfl):PT X (.Compare a [op] [b] pos) (tB t):=by
 intro pins s σ H Q I hw
 refine wpAny_isTrue_Compare1 (thn (h pins s σ H _ I hw) fun v s1 h1=>thn h1 fun u s2 h2=>thn h2 fun c s3 hq_=>?_) h1
 obtain ⟨x,H1,I1,r1,q1⟩:=hq_
 obtain ⟨d,rfl,q⟩:=q1
 cases r1
 exact wpAny_truthy_bool ⟨H1,I1,q⟩
theorem pt_val{e:Expr}{t:TE}(h:PE X e t)(he:∀whole,isTrue e X.env whole=(do let v ← whole;standAt e.pos;holding [v] (truthy v)):=by intro _;rfl):PT X e (tB t):=by
 intro pins s σ H Q I hw
 refine isTrue_plain (thn (h pins s σ H _ I hw) fun v s1 hq_=>?_) (he _)
 obtain ⟨x,H1,I1,r1,q1⟩:=hq_
 obtain ⟨d,rfl,q⟩:=q1
 cases r1
 exact wpAny_truthy_bool ⟨H1,I1,q⟩
variable {tA tB':TT} {rest:List Expr}
noncomputable def tAnd(t u:TT):TT:=fun σ H Q=>t σ H fun c H1=>if c=true then u σ H1 Q else Q false H1
noncomputable def tOr(t u:TT):TT:=fun σ H Q=>t σ H fun c H1=>if c=true then Q true H1 else u σ H1 Q
noncomputable def tNot(t:TT):TT:=fun σ H Q=>t σ H fun c H1=>Q (!c) H1
theorem pw_and1(ha:PT X a tA):PW X (.BoolOp .And [a] pos) tA:=by
 intro wh pins s σ H Q I h
 refine isTrue_and (thn (ha pins s σ H Q I h) fun c s1 e=>?_)
 cases c with
 | true=>exact isTrue_and_nil e
 | false=>exact e
theorem pw_or1(ha:PT X a tA):PW X (.BoolOp .Or [a] pos) tA:=by
 intro wh pins s σ H Q I h
 refine isTrue_or (thn (ha pins s σ H Q I h) fun c s1 e=>?_)
 cases c with
 | false=>exact isTrue_or_nil e
 | true=>exact e
theorem pw_and(ha:PT X a tA)(hb:PW X (.BoolOp .And (b::rest) pos) tB'):PW X (.BoolOp .And (a::b::rest) pos) (tAnd tA tB'):=by
 intro wh pins s σ H Q I h
 refine isTrue_and (thn (ha pins s σ H _ I h) fun c s1 ⟨H1,I1,q1⟩=>?_)
 cases c with
 | true=>exact hb wh pins s1 σ H1 Q I1 q1
 | false=>exact ⟨H1,I1,q1⟩
theorem pw_or(ha:PT X a tA)(hb:PW X (.BoolOp .Or (b::rest) pos) tB'):PW X (.BoolOp .Or (a::b::rest) pos) (tOr tA tB'):=by
 intro wh pins s σ H Q I h
 refine isTrue_or (thn (ha pins s σ H _ I h) fun c s1 ⟨H1,I1,q1⟩=>?_)
 cases c with
 | true=>exact ⟨H1,I1,q1⟩
 | false=>exact hb wh pins s1 σ H1 Q I1 q1
theorem pt_not(ha:PT X a tA):PT X (.UnaryOp .Not a pos) (tNot tA):=by
 intro pins s σ H Q I h
 exact isTrue_not (ha pins s σ H (fun c H1=>Q (!c) H1) I h)
noncomputable def tAndV(ta tb:TE):TE:=fun σ H Q=>ta σ H fun x H1=>∃c,x= .bl c∧if c=true then tb σ H1 Q else Q (.bl false) H1
noncomputable def tOrV(ta tb:TE):TE:=fun σ H Q=>ta σ H fun x H1=>∃c,x= .bl c∧if c=true then Q (.bl true) H1 else tb σ H1 Q
noncomputable def tNotV(ta:TE):TE:=fun σ H Q=>ta σ H fun x H1=>∃c,x= .bl c∧Q (.bl (!c)) H1
theorem pe_one{op}{t:TE}(h:PE X a t):PE X (.BoolOp op [a] pos) t:=fun pins s σ H Q I hw=>BoolOp_one (h pins s σ H Q I hw)
theorem pe_and(ha:PE X a ta)(hb:PE X (.BoolOp .And (b::rest) pos) tb):PE X (.BoolOp .And (a::b::rest) pos) (tAndV ta tb):=by
 intro pins s σ H Q I h
 refine BoolOp_and (thn (ha pins s σ H _ I h) fun v s1 hq_=>?_)
 obtain ⟨x,H1,I1,r1,q1⟩:=hq_
 obtain ⟨c,rfl,q1⟩:=q1
 cases r1
 refine wpAny_truthy_bool ?_
 cases c with
 | true=>exact hb pins s1 σ H1 Q I1 q1
 | false=>exact ⟨.bl false,H1,I1,rfl,q1⟩
theorem pe_or(ha:PE X a ta)(hb:PE X (.BoolOp .Or (b::rest) pos) tb):PE X (.BoolOp .Or (a::b::rest) pos) (tOrV ta tb):=by
 intro pins s σ H Q I h
 refine BoolOp_or (thn (ha pins s σ H _ I h) fun v s1 hq_=>?_)
 obtain ⟨x,H1,I1,r1,q1⟩:=hq_
 obtain ⟨c,rfl,q1⟩:=q1
 cases r1
 refine wpAny_truthy_bool ?_
 cases c with
 | false=>exact hb pins s1 σ H1 Q I1 q1
 | true=>exact ⟨.bl true,H1,I1,rfl,q1⟩
theorem pe_not(ha:PE X a ta):PE X (.UnaryOp .Not a pos) (tNotV ta):=by
 intro pins s σ H Q I h
 refine UnaryOp_ (thn (ha pins s σ H _ I h) fun v s1 hq_=>?_)
 obtain ⟨x,H1,I1,r1,q1⟩:=hq_
 obtain ⟨c,rfl,q1⟩:=q1
 cases r1
 exact not_of (wpAny_truthy_bool ⟨.bl (!c),H1,I1,rfl,q1⟩)
noncomputable def tIf(t:TT)(ta tb:TE):TE:=fun σ H Q=>t σ H fun c H1=>if c=true then ta σ H1 Q else tb σ H1 Q
end
end L2
namespace L2
noncomputable def SqL(K:PySem.W.Frag)(H:Hp)(a:Addr)(xs:List V):Prop:=
 Rd H a (.lst xs)∨
  ∃(o:Obj) (its:Array Value) (n:Nat),K.lookup a=some o∧o.cls= .type "list"∧o.dict=none∧o.data= .seq its n∧its.size≤sizeLine∧Vals xs its.toList
noncomputable def SqT(K:PySem.W.Frag)(H:Hp)(a:Addr)(xs:List V):Prop:=
 Rd H a (.tup xs)∨
  ∃(o:Obj) (its:Array Value) (n:Nat),K.lookup a=some o∧o.cls= .type "tuple"∧o.data= .seq its n∧its.size≤sizeLine∧Vals xs its.toList
noncomputable def absV:Value→Option V
 | .none=>some .non
 | .bool b=>some (.bl b)
 | .int i _=>some (.int i)
 | .str x _=>some (.str x)
 | .bytes b _=>some (.byt b)
 | .float b _=>some (.flt b)
 | .ref a=>some (.ref a)
 | .type n=>some (.ty n)
 | _=>none
theorem RelV.abs{x:V}{u:Value}(r:RelV x u):absV u=some x:=by
 cases x with
 | non=>cases r;rfl
 | bl _=>cases r;rfl
 | int _=>obtain ⟨t,rfl⟩:=r;rfl
 | str _=>obtain ⟨t,rfl⟩:=r;rfl
 | byt _=>obtain ⟨t,rfl⟩:=r;rfl
 | flt _=>obtain ⟨t,rfl⟩:=r;rfl
 | ref _=>cases r;rfl
 | ty _=>cases r;rfl
theorem RelV.inj{x y:V}{u:Value}(r:RelV x u)(q:RelV y u):x=y:=Option.some.inj (r.abs.symm.trans q.abs)
theorem Vals.inj:∀{xs ys:List V} {us:List Value},Vals xs us→Vals ys us→xs=ys
 | _,_,_,.nil,.nil=>rfl
 | _,_,_,.cons r t,.cons r' t'=>by rw [r.inj r',Vals.inj t t']
section
variable {X:Cx} {pins:List (Addr×Obj)} {σ:St} {H:Hp} {s:Shared} {a:Addr} {xs ys:List V}
theorem SqL.of{K:PySem.W.Frag}(h:H a=some (.lst xs)):SqL K H a xs:= .inl (.inl h)
theorem SqT.of{K:PySem.W.Frag}(h:H a=some (.tup xs)):SqT K H a xs:= .inl (.inl h)
theorem Inv.list(I:Inv X pins σ H s)(h:SqL X.K H a xs):∃its:List Value,Vals xs its∧PlainL s.heap a its.toArray∧xs.length≤sizeLine:=by
 rcases h with h | ⟨o,its,n,hk,hc,hd,hs,hz,r⟩
 · obtain ⟨z,its,n,r,e⟩:=h.ok I.hok
   exact ⟨its,r,⟨_,n,e,rfl,rfl,rfl⟩,z⟩
 · refine ⟨its.toList,r,⟨o,n,I.kIn a o hk,hc,hd,by simpa using hs⟩,?_⟩
   have e:=r.length
   simp only [Array.length_toList]at e
   omega
theorem Inv.tuple(I:Inv X pins σ H s)(h:SqT X.K H a xs):∃its:List Value,Vals xs its∧IsTup s.heap a its.toArray∧xs.length≤sizeLine:=by
 rcases h with h | ⟨o,its,n,hk,hc,hs,hz,r⟩
 · obtain ⟨z,its,r,p⟩:=h.ok I.hok
   exact ⟨its,r,p,z⟩
 · refine ⟨its.toList,r,⟨o,I.kIn a o hk,hc,n,by simpa using hs⟩,?_⟩
   have e:=r.length
   simp only [Array.length_toList]at e
   omega
theorem Inv.list_inj(I:Inv X pins σ H s)(h:SqL X.K H a xs)(h':SqL X.K H a ys):xs=ys:=by
 obtain ⟨its,r,⟨o,n,e,_,_,d⟩,_⟩:=I.list h
 obtain ⟨its',r',⟨o',n',e',_,_,d'⟩,_⟩:=I.list h'
 rw [e]at e';cases e'
 rw [d]at d'
 injection d' with d1 _
 have:its=its':=by simpa using congrArg Array.toList d1
 subst this
 exact r.inj r'
end
section
variable {X:Cx} {st:Stmt} {rest:List Stmt} {t u:TS} {e:Expr} {te:TE} {pos:Pos}
noncomputable def tNext:TS:=fun D σ H=>D.nx σ H
noncomputable def tSeq(t u:TS):TS:=fun D σ H=>t {D with nx:=u D} σ H
theorem pss_nil:PSs X [] tNext:=fun _ _ σ H _ I h=>wpAny_execs_nil ⟨σ,H,I,h⟩
theorem pss_cons(h1:PS X st t)(h2:PSs X rest u):PSs X (st::rest) (tSeq t u):=by
 intro pins s σ H D I h
 refine wpAny_execs_cons (thn (h1 pins s σ H {D with nx:=u D} I h) fun f s1 q=>?_)
 cases f with
 | next=>
  obtain ⟨σ',H',I',q⟩:=q
  exact h2 pins s1 σ' H' D I' q
 | ret v=>exact q
 | brk=>exact q
 | cont=>exact q
theorem pss_one(h1:PS X st t):PSs X [st] t:=by
 intro pins s σ H D I h
 refine wpAny_execs_cons (thn (h1 pins s σ H D I h) fun f s1 q=>?_)
 cases f with
 | next=>exact wpAny_execs_nil q
 | ret v=>exact q
 | brk=>exact q
 | cont=>exact q
noncomputable def tBreak:TS:=fun D σ H=>D.bk σ H
noncomputable def tCont:TS:=fun D σ H=>D.ct σ H
theorem Inv.quiet{pins:List (Addr×Obj)}{σ:St}{H:Hp}{s:Shared}(I:Inv X pins σ H s):interactive X.env=false:=by simp [interactive,I.ok.kind]
noncomputable def tDrop(te:TE):TS:=fun D σ H=>te σ H fun _ H1=>D.nx σ H1
theorem ps_expr(he:PE X e te)(hs:swapsWith e none pos.line X.env=pure false:=by rfl):PS X (.Expr e pos) (tDrop te):=by
 intro pins s σ H D I h
 exact wpAny_Expr_any (thn (he pins s σ H _ I h) fun v s1 ⟨x,H1,I1,r1,q1⟩=>⟨σ,H1,I1,q1⟩) I.quiet hs
noncomputable def tRet(te:TE):TS:=fun D σ H=>te σ H D.rt
theorem ps_ret(he:PE X e te):PS X (.Return (some e) pos) (tRet te):=by
 intro pins s σ H D I h
 exact wpAny_Return_some (thn (he pins s σ H _ I h) fun v s1 ⟨x,H1,I1,r1,q1⟩=>⟨x,σ,H1,I1,r1,q1⟩)
noncomputable def tRetN:TS:=fun D _ H=>D.rt .non H
noncomputable def tIfS(c:TT)(t u:TS):TS:=fun D σ H=>c σ H fun b H1=>if b=true then t D σ H1 else u D σ H1
theorem ps_if{c:Expr}{a b:List Stmt}{tc:TT}(hc:PT X c tc)(ha:PSs X a t)(hb:PSs X b u):PS X (.If c a b pos) (tIfS tc t u):=by
 intro pins s σ H D I h
 refine wpAny_If (thn (hc pins s σ H _ I h) fun d s1 ⟨H1,I1,q1⟩=>?_)
 cases d with
 | true=>exact ha pins s1 σ H1 D I1 q1
 | false=>exact hb pins s1 σ H1 D I1 q1
noncomputable def tNever:TS:=fun _ _ _=>False
theorem ps_never:PS X st tNever:=fun _ _ _ _ _ _ h=>h.elim
end
noncomputable abbrev TG:=V→St→Hp→(St→Hp→Prop)→Prop
noncomputable abbrev TGs:=List V→St→Hp→(St→Hp→Prop)→Prop
noncomputable def PG(X:Cx)(target:Expr)(t:TG):Prop:=
 ∀(pins:List (Addr×Obj)) (s:Shared) (σ:St) (H:Hp) (v:V) (u:Value) (Q:St→Hp→Prop),Inv X pins σ H s→RelV v u→t v σ H Q→
   wpAny (model X.prog X.w) X.A (assign target X.env u) (fun _ s'=>∃σ' H',Inv X pins σ' H' s'∧Q σ' H') X.xe s
noncomputable def PGs(X:Cx)(ts:List Expr)(t:TGs):Prop:=
 ∀(pins:List (Addr×Obj)) (s:Shared) (σ:St) (H:Hp) (vs:List V) (us:List Value) (Q:St→Hp→Prop),Inv X pins σ H s→Vals vs us→t vs σ H Q→
   wpAny (model X.prog X.w) X.A (assignInOrder ((assignEach ts X.env).map (·.2)) us) (fun _ s'=>∃σ' H',Inv X pins σ' H' s'∧Q σ' H') X.xe s
noncomputable abbrev TSet:=V→V→V→Hp→(Hp→Prop)→Prop
noncomputable def PSet(X:Cx)(t:TSet):Prop:=
 ∀(pins:List (Addr×Obj)) (s:Shared) (σ:St) (H:Hp) (o i v:V) (ov iv u:Value) (Q:Hp→Prop),Inv X pins σ H s→RelV o ov→RelV i iv→RelV v u→t o i v H Q→
   wpAny (model X.prog X.w) X.A (setItem ov iv u) (fun _ s'=>∃H',Inv X pins σ H' s'∧Q H') X.xe s
noncomputable abbrev TIp:=V→V→Hp→VK→Prop
noncomputable def PIp(X:Cx)(op:Operator)(t:TIp):Prop:=
 ∀(pins:List (Addr×Obj)) (s:Shared) (σ:St) (H:Hp) (x y:V) (v u:Value) (Q:VK),Inv X pins σ H s→RelV x v→RelV y u→t x y H Q→
   wpAny (model X.prog X.w) X.A (inplaceOp op v u) (EP X pins σ Q) X.xe s
section
variable {X:Cx} {pos:Pos}
noncomputable def gName(i:Nat):TG:=fun v σ H Q=>Q (σ.set i (some v)) H
theorem pg_name{i:Nat}{x:Str}(hN:X.N.Nodup)(hi:X.N[i]?=some x)(hx:Loc X.env.scope x)(hf:X.fn x=true∨X.env.scope.names.lookup x=some .local:=by first | exact .inl rfl | exact .inr rfl | assumption):PG X (.Name x pos) (gName i):=by
 intro pins s σ H v u Q I r h
 exact wpAny_assign_Name (store_ok I hN hi hx r (fun s' I'=>⟨_,H,I',h⟩) hf)
noncomputable def gNil:TGs:=fun vs σ H Q=>vs=[]∧Q σ H
noncomputable def gCons(t:TG)(u:TGs):TGs:=fun vs σ H Q=>∃v r,vs=v::r∧t v σ H fun σ' H'=>u r σ' H' Q
theorem pgs_nil:PGs X [] gNil:=by
 intro pins s σ H vs us Q I r h
 obtain ⟨e,h⟩:=h
 subst e
 cases r
 exact assignInOrder_nil ⟨σ,H,I,h⟩
theorem pgs_cons{e:Expr}{es:List Expr}{t:TG}{u:TGs}(h1:PG X e t)(h2:PGs X es u)
 (hs:(assignEach (e::es) X.env).map (·.2)=assign e X.env::(assignEach es X.env).map (·.2):=by rfl):PGs X (e::es) (gCons t u):=by
 intro pins s σ H vs us Q I r h
 obtain ⟨v,vr,e1,h⟩:=h
 subst e1
 cases r with
 | cons r rr=>
  rw [hs]
  refine assignInOrder_cons (thn (h1 pins s σ H _ _ _ I r h) fun _ s1 hq_=>?_)
  obtain ⟨σ1,H1,I1,q1⟩:=hq_
  exact h2 pins s1 σ1 H1 _ _ Q I1 rr q1
noncomputable def gTup(K:PySem.W.Frag)(n:Nat)(t:TGs):TG:=fun v σ H Q=>∃a xs,v= .ref a∧SqT K H a xs∧xs.length=n∧t xs σ H Q
theorem pg_tup{es:List Expr}{k:Nat}{t:TGs}{n:Nat}(hc:X.calm=true)(h:PGs X es t)
 (hn:(assignEach es X.env).length=n:=by rfl) (hst:(assignEach es X.env).findIdx? (·.1)=none:=by rfl):PG X (.Tuple es k pos) (gTup X.K n t):=by
 intro pins s σ H v u Q I r hw
 obtain ⟨a,xs,e1,hq,hl,hw⟩:=hw
 subst e1
 cases r
 obtain ⟨its,rv,ht,hz⟩:=I.tuple hq
 refine assign_Tuple_tuple (I.ok.hd hc) ht (by simp [hn,← hl,rv.length]) hst fun h' hx=>?_
 have I1:Inv X pins σ H {s with heap:=h'}:=I.kept (t':=s.toks) fun b o e=>hx b o (Nat.ne_of_lt (Heap.lt_size e)) e
 exact h pins _ σ H xs _ Q I1 (by simpa using rv) hw
noncomputable def gSub(to ti:TE)(t:TSet):TG:=fun v σ H Q=>to σ H fun o H1=>ti σ H1 fun i H2=>t o i v H2 fun H3=>Q σ H3
noncomputable def tAsg(te:TE)(g:TG):TS:=fun D σ H=>te σ H fun x H1=>g x σ H1 D.nx
theorem ps_asg{tg e:Expr}{te:TE}{g:TG}(he:PE X e te)(hg:PG X tg g)(hs:swapsWithSole [tg] e pos.line X.env=pure false:=by rfl)(hw:swappedStores [tg] e X.env=pure none:=by rfl)
 (h1:(assignEach [tg] X.env).map (·.2)=[assign tg X.env]:=by rfl):PS X (.Assign [tg] e pos) (tAsg te g):=by
 intro pins s σ H D I h
 refine wpAny_Assign_stores (thn (he pins s σ H _ I h) fun v s1 hq_=>?_) hs hw
 obtain ⟨x,H1,I1,r1,q1⟩:=hq_
 rw [h1]
 exact thn (hg pins s1 σ H1 x v _ I1 r1 q1) fun _ s2 q=>q
theorem ps_set{i:Nat}{x:Str}{e:Expr}{te:TE}{pos':Pos}(hN:X.N.Nodup)(hi:X.N[i]?=some x)(hx:Loc X.env.scope x)(he:PE X e te)(hs:swapsWith e (some (.Name x pos')) pos.line X.env=pure false:=by rfl)(hf:X.fn x=true∨X.env.scope.names.lookup x=some .local:=by first | exact .inl rfl | exact .inr rfl | assumption):
 PS X (.Assign [.Name x pos'] e pos) (tAsg te (gName i)):=by
 intro pins s σ H D I h
 refine wpAny_Assign_Name (thn (he pins s σ H _ I h) fun v s1 hq_=>?_) hs
 obtain ⟨y,H1,I1,r1,q1⟩:=hq_
 exact store_ok I1 hN hi hx r1 (fun s2 I2=>⟨_,H1,I2,q1⟩) hf
noncomputable def tPar(i j:Nat)(ta:TA):TS:=fun D σ H=>ta σ H fun vs H1=>∃v w,vs=[v,w]∧D.nx ((σ.set i (some v)).set j (some w)) H1
noncomputable def tAugS(to ti te:TE)(tget:V→V→Hp→VK→Prop)(tip:TIp)(tset:TSet):TS:=fun D σ H=>to σ H fun o H1=>ti σ H1 fun i H2=>tget o i H2 fun x H3=>te σ H3 fun y H4=>tip x y H4 fun z H5=>tset o i z H5 fun H6=>D.nx σ H6
noncomputable def PGet(X:Cx)(t:V→V→Hp→VK→Prop):Prop:=
 ∀(pins:List (Addr×Obj)) (s:Shared) (σ:St) (H:Hp) (o i:V) (ov iv:Value) (Q:VK),Inv X pins σ H s→RelV o ov→RelV i iv→t o i H Q→
   wpAny (model X.prog X.w) X.A (getItem ov iv) (EP X pins σ Q) X.xe s
theorem ps_augS{o i e:Expr}{to ti te:TE}{tget:V→V→Hp→VK→Prop}{tip:TIp}{tset:TSet}{op:Operator}{tpos:Pos}(ho:PE X o to)(hi:PE X i ti)(hg:PGet X tget)(he:PE X e te)(hp:PIp X op tip)(hs:PSet X tset)
 (ha:∀ov iv new,augStore i ov iv new=(do holding [new,ov,iv] (setItem ov iv new);release [new,ov,iv] [];pure .next):=by intros;rfl):PS X (.AugAssign (.Subscript o i tpos) op e pos) (tAugS to ti te tget tip tset):=by
 intro pins s σ H D I h
 refine wpAny_AugAssign_SubscriptAny (thn (ho pins s σ H _ I h) fun ov s1 hq_=>?_) ha
 obtain ⟨x1,H1,I1,r1,q1⟩:=hq_
 refine thn (hi pins s1 σ H1 _ I1 q1) fun iv s2 hq_=>?_
 obtain ⟨x2,H2,I2,r2,q2⟩:=hq_
 refine thn (hg pins s2 σ H2 x1 x2 ov iv _ I2 r1 r2 q2) fun old s3 hq_=>?_
 obtain ⟨x3,H3,I3,r3,q3⟩:=hq_
 refine thn (he pins s3 σ H3 _ I3 q3) fun v s4 hq_=>?_
 obtain ⟨x4,H4,I4,r4,q4⟩:=hq_
 refine thn (hp pins s4 σ H4 x3 x4 old v _ I4 r3 r4 q4) fun new s5 hq_=>?_
 obtain ⟨x5,H5,I5,r5,q5⟩:=hq_
 exact thn (hs pins s5 σ H5 x1 x2 x5 ov iv new _ I5 r1 r2 r5 q5) fun _ s6 ⟨H6,I6,q6⟩=>⟨σ,H6,I6,q6⟩
noncomputable def ipI(f:Int→Int→Int):TIp:=fun x y H Q=>∃i j,x= .int i∧y= .int j∧Q (.int (f i j)) H
theorem ip_add:PIp X .Add (ipI fun i j=>i+j):=by
 intro pins s σ H x y v u Q I r1 r2 h
 obtain ⟨i,j,e1,e2,q⟩:=h
 subst e1;subst e2
 obtain ⟨t,rfl⟩:=r1
 obtain ⟨t',rfl⟩:=r2
 exact iadd_int ⟨.int _,H,I.tok _,⟨_,rfl⟩,q⟩
end
section
variable {X:Cx} {pos:Pos}
noncomputable def tWhile(c:TT)(tb:TS):TS:=fun D σ H=>∃W:Nat→St→Hp→Prop,(∃m,W m σ H)∧∀m σ H,W m σ H→
 c σ H fun b H1=>if b=true then ∃N:St→Hp→Prop,(∀σ' H',N σ' H'→∃m',m' < m∧W m' σ' H')∧tb {D with nx:=N,ct:=N,bk:=D.nx} σ H1 else D.nx σ H1
theorem ps_while{c:Expr}{body:List Stmt}{tc:TT}{tb:TS}(hp:PassesOwn (model X.prog X.w) X.A X.env X.xe)(hc:PT X c tc)(hb:PSs X body tb):PS X (.While c body [] pos) (tWhile tc tb):=by
 intro pins s σ H D I h
 obtain ⟨W,⟨m0,w0⟩,turn⟩:=h
 refine wpAny_While (codeAny_whileLoop (fun n s'=>∃σ' H',Inv X pins σ' H' s'∧W n σ' H') ?_ m0 ⟨σ,H,I,w0⟩)
 rintro n s1 ⟨σ1,H1,I1,w1⟩
 refine wpAny_passesOwn hp (thn (hc pins s1 σ1 H1 _ I1 (turn n σ1 H1 w1)) fun b s2 ⟨H2,I2,q2⟩=>?_)
 cases b with
 | true=>
  obtain ⟨N,hN,q2⟩:=q2
  rw [if_pos rfl]
  refine wpAny_passesOwn hp (thn (hb pins s2 σ1 H2 _ I2 q2) fun f s3 q3=>?_)
  cases f with
  | next=>
   obtain ⟨σ3,H3,I3,n3⟩:=q3
   obtain ⟨m',hm,w3⟩:=hN σ3 H3 n3
   exact ⟨m',hm,σ3,H3,I3,w3⟩
  | cont=>
   obtain ⟨σ3,H3,I3,n3⟩:=q3
   obtain ⟨m',hm,w3⟩:=hN σ3 H3 n3
   exact ⟨m',hm,σ3,H3,I3,w3⟩
  | brk=>exact q3
  | ret v=>exact q3
 | false=>
  rw [if_neg Bool.false_ne_true]
  exact wpAny_execs_nil ⟨σ1,H2,I2,q2⟩
end
structure It where
 go:Nat→Hp→Prop
 yld:Nat→Hp→V→Hp→Prop
 stop:Nat→Hp→Prop
noncomputable def FpOk(X:Cx)(pins:List (Addr×Obj))(H:Hp)(b:Addr):Prop:=
 H b=none∧b≠X.env.locals∧b∉X.fs∧(b∈X.ex∨X.s₀.heap.objs.size≤b)∧(∀x c,X.env.cells.lookup x=some c→c≠b)∧∀p∈X.pn++pins,p.1≠b
theorem Inv.fpOk{X:Cx}{pins:List (Addr×Obj)}{σ:St}{H H':Hp}{s:Shared}{b:Addr}(I:Inv X pins σ H s)(hb:s.heap.objs.size≤b)(hn:H' b=none):FpOk X pins H' b:=by
 refine ⟨hn,Nat.ne_of_gt (Nat.lt_of_lt_of_le I.lt hb),I.nofs hb,.inr (Nat.le_trans I.sz hb),fun x c e z=>?_,fun p hp z=>?_⟩
 · obtain ⟨v,q⟩:=I.cell x c e
   exact absurd (Nat.lt_of_lt_of_le q.lt (by rw [z];exact hb)) (Nat.lt_irrefl _)
 · exact absurd (Nat.lt_of_lt_of_le (Heap.lt_size (I.pin p hp).1) (by rw [z];exact hb)) (Nat.lt_irrefl _)
structure Turn(P:Program)(w:World)(K:PySem.W.Frag)(tg:Expr)(J:It)(fp:List Addr)(it:Addr)(tn:Nat→Heap→Prop):Prop where
 mem:it∈fp
 obj:∀i h,tn i h→∀b∈fp,∃o,h.get? b=some o∧∀v,o.data≠ .cell v
 keep:∀i h h',tn i h→(∀b∈fp,∀o,h.get? b=some o→h'.get? b=some o)→tn i h'
 item:∀(X:Cx),X.prog=P→X.w=w→X.K=K→X.calm=true→∀(i:Nat) (pins:List (Addr×Obj)) (s:Shared) (σ:St) (H:Hp) (E:Value→Shared→Prop),Inv X pins σ H s→(∀b∈fp,FpOk X pins H b)→tn i s.heap→J.go i H→
  wpAny (model P w) X.A (pyNext (.ref it)) (fun r s1=>∃u,r=some u∧
   wpAny (model P w) X.A (letOwnedTupleGo tg (.ref it) u) (fun _ s2=>∃x H',Inv X pins σ H' s2∧RelV x u∧J.yld i H x H'∧tn (i+1) s2.heap∧∀b∈fp,H' b=none) E s1) E s
 done:∀(X:Cx),X.prog=P→X.w=w→X.K=K→X.calm=true→∀(i:Nat) (pins:List (Addr×Obj)) (s:Shared) (σ:St) (H:Hp) (E:Value→Shared→Prop),Inv X pins σ H s→(∀b∈fp,FpOk X pins H b)→tn i s.heap→J.stop i H→
   wpAny (model P w) X.A (pyNext (.ref it)) (fun r s1=>r=none∧Inv X pins σ H s1) E s
 self:∀(A:Around) (i:Nat) (s:Shared) (Q:Value→Shared→Prop) (E:Value→Shared→Prop),tn i s.heap→Q (.ref it) s→wpAny (model P w) A (pyIter (.ref it)) Q E s
noncomputable abbrev TI:=St→Hp→(It→Hp→Prop)→Prop
noncomputable def PIE(X:Cx)(pins:List (Addr×Obj))(σ:St)(tg:Expr)(R:It→Hp→Prop)(itv:Value)(s2:Shared):Prop:=
 ∃(it:Addr) (fp:List Addr) (tn:Nat→Heap→Prop) (J:It) (H':Hp),itv= .ref it∧Inv X pins σ H' s2∧Turn X.prog X.w X.K tg J fp it tn∧tn 0 s2.heap∧(∀b∈fp,FpOk X pins H' b)∧R J H'
noncomputable def PI(X:Cx)(tg iter:Expr)(wi:TI):Prop:=
 ∀(pins:List (Addr×Obj)) (s:Shared) (σ:St) (H:Hp) (R:It→Hp→Prop),Inv X pins σ H s→wi σ H R→
   wpAny (model X.prog X.w) X.A (eval iter X.env) (fun v s1=>wpAny (model X.prog X.w) X.A (pyIter v) (PIE X pins σ tg R) X.xe s1) X.xe s
theorem go_of{M:Model}{A:Around}{E:Value→Shared→Prop}{s:Shared}{tg:Expr}{it:Addr}{u:Value}{o:Obj}{n:String}{vs:Array Value}{Q:Unit→Shared→Prop}(ho:s.heap.get? it=some o)(hc:o.cls= .type n)(hd:o.data= .fields vs)
 (hn:["enumerate","zip","dict_itemiterator","dict_reverseitemiterator","odict_iterator","itertools.zip_longest","itertools.pairwise"].contains n=false) (hQ:Q () s):wpAny M A (letOwnedTupleGo tg (.ref it) u) Q E s:=by
 unfold letOwnedTupleGo
 cases tg <;> first
  | exact wpAny_pure hQ
  | (cases u <;> first
   | exact wpAny_pure hQ
   | (refine wpAny_bind (wpAny_load ho ?_)
      rw [hc,hd]
      show wpAny M A (if (["enumerate","zip","dict_itemiterator","dict_reverseitemiterator","odict_iterator","itertools.zip_longest","itertools.pairwise"].contains n && vs[0]?==some (rawInt _))=true then _ else _) Q E s
      rw [if_neg (by intro h;rw [hn,Bool.false_and]at h;cases h)]
      exact wpAny_pure hQ))
noncomputable def Itl(K:PySem.W.Frag)(a:Addr):It:=
 ⟨fun i H=>∃xs x,SqL K H a xs∧xs[i]?=some x,fun i H x H'=>H'=H∧∀xs,SqL K H a xs→xs[i]?=some x,fun i H=>∃xs,SqL K H a xs∧xs.length≤i⟩
noncomputable def Itt(K:PySem.W.Frag)(a:Addr):It:=
 ⟨fun i H=>∃xs x,SqT K H a xs∧xs[i]?=some x,fun i H x H'=>H'=H∧∀xs,SqT K H a xs→xs[i]?=some x,fun i H=>∃xs,SqT K H a xs∧xs.length≤i⟩
noncomputable def Itr(lo:Int)(n:Nat):It:=⟨fun i _=>i < n,fun i H x H'=>H'=H∧x= .int (lo+i),fun i _=>n≤i⟩
theorem turn_list{P:Program}{w:World}{K:PySem.W.Frag}{tg:Expr}(a it:Addr):Turn P w K tg (Itl K a) [it] it (fun i h=>h.IsListIter it a i) where
 mem:=by simp
 obj:=fun i h st b hb=>by
  have e:b=it:=by simpa using hb
  subst e
  obtain ⟨o,e,c,d⟩:=st
  exact ⟨o,e,fun v z=>by rw [d]at z;cases z⟩
 keep:=fun i h h' st k=>st.at fun o e=>k it (by simp) o e
 item:=by
  intro X hP hw hK hc i pins s σ H E I hf st hg
  subst hP hw hK
  obtain ⟨xs,x,hq,hx⟩:=hg
  obtain ⟨its,rv,p,hz⟩:=I.list hq
  obtain ⟨u,hu,ru⟩:=rv.get hx
  obtain ⟨f0,f1,f2,f3,f4,f5⟩:=hf it (by simp)
  refine wpAny_pyNext_list_item st p.isList (x:=u) (by simpa using hu) fun h' st' sb=>?_
  have I1:Inv X pins σ H {s with heap:=h'}:=I.turned (t':=s.toks) (fun b o hb e=>(sb.2 b hb).trans e) f0 f1 f3 f4 f5
  obtain ⟨o,e,c,d⟩:=id st'
  exact ⟨u,rfl,go_of (s:={s with heap:=h'}) e c d (by decide) ⟨x,H,I1,ru,⟨rfl,fun ys hy=>by rw [I.list_inj hy hq];exact hx⟩,st',fun b hb=>(hf b hb).1⟩⟩
 done:=by
   intro X hP hw hK hc i pins s σ H E I hf st hg
   subst hP hw hK
   obtain ⟨xs,hq,hx⟩:=hg
   obtain ⟨its,rv,p,hz⟩:=I.list hq
   obtain ⟨f0,f1,f2,f3,f4,f5⟩:=hf it (by simp)
   have hl:=rv.length
   exact wpAny_pyNext_list_end (I.ok.hd hc) st p.isList (by simp;omega) fun h' eb=>⟨rfl,I.turned (t':=s.toks) (fun b o hb e=>eb b o hb e) f0 f1 f3 f4 f5⟩
 self:=fun _ _ _ _ _ st h=>wpAny_pyIter_listiter st h
theorem turn_range{P:Program}{w:World}{K:PySem.W.Frag}{tg:Expr}(it:Addr)(lo:Int)(n:Nat):Turn P w K tg (Itr lo n) [it] it (fun i h=>IsRangeIter h it (lo+(i:Nat) * 1) ((n:Int) - (i:Nat)) 1) where
 mem:=by simp
 obj:=fun i h st b hb=>by
  have e:b=it:=by simpa using hb
  subst e
  exact ⟨_,st,fun v z=>by
   have z':Data.fields _=Data.cell v:=z
   cases z'⟩
 keep:=fun i h h' st k=>k it (by simp) _ st
 item:=by
  intro X hP hw hK hc i pins s σ H E I hf st hg
  subst hP hw hK
  obtain ⟨f0,f1,f2,f3,f4,f5⟩:=hf it (by simp)
  have W:=Walks.range (prog:=X.prog) (w:=X.w) (I.ok.hd hc) it lo 1 n
  refine W.item i s _ _ hg st fun v h' tk hv st' kk=>?_
  obtain ⟨t,rfl⟩:=hv
  have I1:Inv X pins σ H {s with heap:=h',toks:=tk}:=I.turned (fun b o hb e=>kk b o (by simpa using hb) e) f0 f1 f3 f4 f5
  refine ⟨_,rfl,go_of (s:={s with heap:=h',toks:=tk}) (n:="range_iterator") st' rfl rfl (by decide) ⟨.int (lo+i),H,I1,⟨t,?_⟩,⟨rfl,rfl⟩,st',fun b hb=>(hf b hb).1⟩⟩
  rw [Int.mul_one]
 done:=by
   intro X hP hw hK hc i pins s σ H E I hf st hg
   subst hP hw hK
   obtain ⟨f0,f1,f2,f3,f4,f5⟩:=hf it (by simp)
   exact wpAny_pyNext_range_end (I.ok.hd hc) st (by have:n≤i:=hg;omega) fun h' eb=>⟨rfl,I.turned (t':=s.toks) (fun b o hb e=>eb b o hb e) f0 f1 f3 f4 f5⟩
 self:=fun _ _ _ _ _ st h=>wpAny_pyIter_rangeiter st h
end L2
namespace L2
section
variable {X:Cx} {tg:Expr}
noncomputable def iList(K:PySem.W.Frag)(tl:TE):TI:=fun σ H R=>tl σ H fun x H1=>∃a,x= .ref a∧(∃xs,SqL K H1 a xs)∧R (Itl K a) H1
noncomputable def iTup(K:PySem.W.Frag)(tl:TE):TI:=fun σ H R=>tl σ H fun x H1=>∃a,x= .ref a∧(∃xs,SqT K H1 a xs)∧R (Itt K a) H1
theorem pi_list{l:Expr}{tl:TE}(hl:PE X l tl):PI X tg l (iList X.K tl):=by
 intro pins s σ H R I h
 refine thn (hl pins s σ H _ I h) fun v s1 hq_=>?_
 obtain ⟨x,H1,I1,r1,q1⟩:=hq_
 obtain ⟨a,e,⟨xs,hq⟩,q⟩:=q1
 subst e
 cases r1
 obtain ⟨its,rv,p,hz⟩:=I1.list hq
 refine wpAny_pyIter_list p.isList ?_
 refine ⟨s1.heap.objs.size,[s1.heap.objs.size],_,_,H1,rfl,I1.kept (t':=s1.toks) fun b o e=>Heap.get?_push_of_some _ e,turn_list a _,⟨_,Heap.get?_push_size _ rfl,rfl,rfl⟩,fun b hb=>?_,q⟩
 have e:b=s1.heap.objs.size:=by simpa using hb
 subst e
 exact I1.fpOk (Nat.le_refl _) (I1.hok.fresh (Nat.le_refl _))
theorem range_it{pins:List (Addr×Obj)}{σ:St}{H:Hp}{s:Shared}{R:It→Hp→Prop}{E:Value→Shared→Prop}{lo hi:Int}{t u v:Tok}{tk:Nat}(I:Inv X pins σ H s)(h1:-(2 ^ 62)≤lo)(h2:lo < 2 ^ 62)(h3:-(2 ^ 62)≤hi)(h4:hi < 2 ^ 62)
 (q:R (Itr lo (hi - lo).toNat) H):wpAny (model X.prog X.w) X.A (pyIter (.ref s.heap.objs.size)) (PIE X pins σ tg R) E {s with heap:=s.heap.push {cls:= .type "range",data:= .fields #[.int lo t,.int hi u,.int 1 v]},toks:=tk}:=by
 refine wpAny_pyIter_range (IsRange.new ..) (small_one h1 h2 h3 h4) ?_
 have I1:Inv X pins σ H {s with heap:=s.heap.push {cls:= .type "range",data:= .fields #[.int lo t,.int hi u,.int 1 v]},toks:=tk}:=I.kept fun b o e=>Heap.get?_push_of_some _ e
 refine ⟨(s.heap.push {cls:= .type "range",data:= .fields #[.int lo t,.int hi u,.int 1 v]}).objs.size,[(s.heap.push {cls:= .type "range",data:= .fields #[.int lo t,.int hi u,.int 1 v]}).objs.size],_,_,H,rfl,
  I1.kept (t':=tk) fun b o e=>Heap.get?_push_of_some _ e,turn_range _ lo (hi - lo).toNat,?_,fun b hb=>?_,q⟩
 · have e1:lo+((0:Nat):Int) * 1=lo:=by simp
   have e2:(((hi - lo).toNat:Nat):Int) - ((0:Nat):Int)=Builtin.Range.rangeSize lo hi 1:=by rw [rangeSize_one];split <;> omega
   show IsRangeIter _ _ (lo+((0:Nat):Int) * 1) ((((hi - lo).toNat:Nat):Int) - ((0:Nat):Int)) 1
   rw [e1,e2]
   exact Heap.get?_push_size _ rfl
 · have e:b=(s.heap.push {cls:= .type "range",data:= .fields #[.int lo t,.int hi u,.int 1 v]}).objs.size:=by simpa using hb
   subst e
   exact I1.fpOk (Nat.le_refl _) (I1.hok.fresh (Nat.le_refl _))
noncomputable def iRng1(ta:TA):TI:=fun σ H R=>ta σ H fun vs H1=>∃j:Int,vs=[.int j]∧-(2 ^ 62)≤j∧j < 2 ^ 62∧R (Itr 0 j.toNat) H1
noncomputable def iRng2(ta:TA):TI:=fun σ H R=>ta σ H fun vs H1=>∃i j:Int,vs=[.int i,.int j]∧(-(2 ^ 62)≤i∧i < 2 ^ 62∧-(2 ^ 62)≤j∧j < 2 ^ 62)∧R (Itr i (j - i).toNat) H1
theorem pi_range1{a:Expr}{ta:TA}{p pos:Pos}(hg:Gl X "range")(hm:X.mg "range"=none)(ha:PA X [a] ta)(hs:starEach [a] X.env=[(false,eval a X.env)]:=by rfl):PI X tg (.Call (.Name "range" p) [a] [] pos) (iRng1 ta):=by
 intro pins s σ H R I h
 refine Call_ (ld_blt I hg hm boot_range (PyProof.Rows.callWith_type1 (thn (ha pos pins s σ H _ I h) fun us s1 hq_=>?_) hs rfl))
 obtain ⟨vs,H1,I1,r1,q1⟩:=hq_
 obtain ⟨j,e,q1,q2,q⟩:=q1
 subst e
 cases r1 with
 | cons r rr=>
  cases rr
  obtain ⟨t,rfl⟩:=r
  exact call_range_1 (range_it I1 (by omega) (by omega) q1 q2 (by simpa using q))
noncomputable def tFor(wi:TI)(g:TG)(tb:TS):TS:=fun D σ H=>wi σ H fun J H1=>∃W:Nat→Nat→St→Hp→Prop,(∃m,W 0 m σ H1)∧∀i m σ H,W i m σ H→
 (J.stop i H∧D.nx σ H)∨(J.go i H∧∃N:St→Hp→Prop,(∀σ' H',N σ' H'→∃m',m' < m∧W (i+1) m' σ' H')∧∀x H',J.yld i H x H'→g x σ H' fun σ2 H2=>tb {D with nx:=N,ct:=N,bk:=D.nx} σ2 H2)
noncomputable def pinsAt(fp:List Addr)(h:Heap):List (Addr×Obj):=fp.filterMap fun b=>(h.get? b).map fun o=>(b,o)
theorem mem_pinsAt{fp:List Addr}{h:Heap}{b:Addr}{o:Obj}(hb:b∈fp)(e:h.get? b=some o):(b,o)∈pinsAt fp h:=List.mem_filterMap.mpr ⟨b,hb,by rw [e];rfl⟩
theorem of_pinsAt{fp:List Addr}{h:Heap}{p:Addr×Obj}(hp:p∈pinsAt fp h):p.1∈fp∧h.get? p.1=some p.2:=by
 obtain ⟨b,hb,e⟩:=List.mem_filterMap.mp hp
 cases q:h.get? b with
 | none=>rw [q]at e;cases e
 | some o=>
  rw [q]at e
  have e':(b,o)=p:=Option.some.inj e
  subst e'
  exact ⟨hb,q⟩
theorem Inv.pinned{pins:List (Addr×Obj)}{σ:St}{H:Hp}{s:Shared}{fp:List Addr}(I:Inv X pins σ H s)(hf:∀b∈fp,FpOk X pins H b)(ho:∀b∈fp,∃o,s.heap.get? b=some o∧∀v,o.data≠ .cell v):Inv X (pins++pinsAt fp s.heap) σ H s:=
 I.pins_of fun p hp=>(List.mem_append.mp hp).elim (fun z=>I.pin p (List.mem_append_right _ z)) fun z=>by
  obtain ⟨hb,e⟩:=of_pinsAt z
  obtain ⟨f0,f1,f2,_⟩:=hf p.1 hb
  obtain ⟨o,e',d⟩:=ho p.1 hb
  rw [e]at e';cases e'
  exact ⟨e,f0,f1,f2,d⟩
theorem Inv.unpinned{pins pl:List (Addr×Obj)}{σ:St}{H:Hp}{s:Shared}(I:Inv X (pins++pl) σ H s):Inv X pins σ H s:=I.pins_of fun p hp=>I.pin p (List.mem_append_right _ (List.mem_append_left _ hp))
theorem ps_for{iter:Expr}{body:List Stmt}{wi:TI}{g:TG}{tb:TS}{pos:Pos}(hp:PassesOwn (model X.prog X.w) X.A X.env X.xe)(hc:X.calm=true)(hi:PI X tg iter wi)(hg:PG X tg g)(hb:PSs X body tb)
 (hs:∀x,foldedSetIterable iter X.env x=pure x:=by intro _;rfl):PS X (.For tg iter body [] pos) (tFor wi g tb):=by
 intro pins s σ H D I h
 refine wpAny_For (thn (hi pins s σ H _ I h) fun v s1 h1=>thn h1 fun itv s2 h2=>?_) hs
 obtain ⟨it,fp,tn,J,H2,e,I2,T,st2,f2,W,⟨m0,w0⟩,turn⟩:=h2
 subst e
 have stat:∀{H':Hp},(∀b∈fp,H' b=none)→∀b∈fp,FpOk X pins H' b:=fun hn b hb=>⟨hn b hb,(f2 b hb).2⟩
 refine codeAny_forLoop_any (fun n s'=>∃i σ' H',Inv X pins σ' H' s'∧tn i s'.heap∧(∀b∈fp,H' b=none)∧W i n σ' H') ?_ m0 ⟨0,σ,H2,I2,st2,fun b hb=>(f2 b hb).1,w0⟩
 rintro n s3 ⟨i,σ3,H3,I3,st3,fr3,w3⟩
 rcases turn i n σ3 H3 w3 with ⟨stop,qn⟩ | ⟨go,N,hN,step⟩
 · refine wpAny_passesOwn hp (thn (T.done X rfl rfl rfl hc i pins s3 σ3 H3 X.xe I3 (stat fr3) st3 stop) fun r s4 ⟨hr,I4⟩=>?_)
   subst hr
   exact wpAny_execs_nil ⟨σ3,H3,I4,qn⟩
 · refine wpAny_passesOwn hp (thn (T.item X rfl rfl rfl hc i pins s3 σ3 H3 X.xe I3 (stat fr3) st3 go) fun r s4 ⟨u,hr,h4⟩=>?_)
   subst hr
   refine wpAny_passesOwn hp (thn h4 fun _ s5 hq_=>?_)
   obtain ⟨x,H5,I5,r5,y5,st5,fr5⟩:=hq_
   have I5':=I5.pinned (stat fr5) (T.obj _ _ st5)
   refine wpAny_passesOwn hp (thn (hg _ s5 σ3 H5 x u _ I5' r5 (step x H5 y5)) fun _ s6 hq_=>?_)
   obtain ⟨σ6,H6,I6,q6⟩:=hq_
   refine wpAny_passesOwn hp (thn (hb _ s6 σ6 H6 _ I6 q6) fun f s7 q7=>?_)
   have again:∀{σ7:St} {H7:Hp},Inv X (pins++pinsAt fp s5.heap) σ7 H7 s7→N σ7 H7→∃m,m < n∧∃i σ' H',Inv X pins σ' H' s7∧tn i s7.heap∧(∀b∈fp,H' b=none)∧W i m σ' H':=fun {σ7 H7} I7 n7=>by
    obtain ⟨m',hm,w7⟩:=hN σ7 H7 n7
    refine ⟨m',hm,i+1,σ7,H7,I7.unpinned,T.keep _ _ _ st5 fun b hb o e=>(I7.pin (b,o) (List.mem_append_right _ (List.mem_append_right _ (mem_pinsAt hb e)))).1,fun b hb=>?_,w7⟩
    obtain ⟨o,e,d⟩:=T.obj _ _ st5 b hb
    exact (I7.pin (b,o) (List.mem_append_right _ (List.mem_append_right _ (mem_pinsAt hb e)))).2.1
   cases f with
   | next=>obtain ⟨σ7,H7,I7,n7⟩:=q7;exact again I7 n7
   | cont=>obtain ⟨σ7,H7,I7,n7⟩:=q7;exact again I7 n7
   | brk=>obtain ⟨σ7,H7,I7,q7⟩:=q7;exact ⟨σ7,H7,I7.unpinned,q7⟩
   | ret v=>obtain ⟨x7,σ7,H7,I7,r7,q7⟩:=q7;exact ⟨x7,σ7,H7,I7.unpinned,r7,q7⟩
end
theorem for_list{K:PySem.W.Frag}{a:Addr}{xs:List V}{g:TG}{tb:TS}{D:Ends}{σ:St}{H:Hp}(Pv:Nat→St→Hp→Prop)(h0:Pv 0 σ H)(hl:∀i σ H,i≤xs.length→Pv i σ H→SqL K H a xs)
 (hs:∀i x σ H,xs[i]?=some x→Pv i σ H→g x σ H fun σ2 H2=>tb {D with nx:=Pv (i+1),ct:=Pv (i+1),bk:=D.nx} σ2 H2) (hd:∀σ H,Pv xs.length σ H→D.nx σ H):
 ∃W:Nat→Nat→St→Hp→Prop,(∃m,W 0 m σ H)∧∀i m σ H,W i m σ H→
  ((Itl K a).stop i H∧D.nx σ H)∨((Itl K a).go i H∧∃N:St→Hp→Prop,(∀σ' H',N σ' H'→∃m',m' < m∧W (i+1) m' σ' H')∧∀x H',(Itl K a).yld i H x H'→g x σ H' fun σ2 H2=>tb {D with nx:=N,ct:=N,bk:=D.nx} σ2 H2):=by
 refine ⟨fun i m σ H=>m=xs.length - i∧i≤xs.length∧Pv i σ H,⟨xs.length,by simp,Nat.zero_le _,h0⟩,?_⟩
 rintro i m σ H ⟨rfl,hi,p⟩
 have q:=hl i σ H hi p
 by_cases hlt:i < xs.length
 · refine .inr ⟨⟨xs,xs[i],q,by simp [hlt]⟩,Pv (i+1),fun σ' H' p'=>⟨xs.length - (i+1),by omega,rfl,hlt,p'⟩,fun x H' y=>?_⟩
   obtain ⟨e,y⟩:=y
   subst e
   exact hs i x σ _ (y xs q) p
 · have e:i=xs.length:=by omega
   subst e
   exact .inl ⟨⟨xs,q,Nat.le_refl _⟩,hd σ H p⟩
theorem for_range{lo:Int}{n:Nat}{g:TG}{tb:TS}{D:Ends}{σ:St}{H:Hp}(Pv:Nat→St→Hp→Prop)(h0:Pv 0 σ H)
 (hs:∀i σ H,i < n→Pv i σ H→g (.int (lo+i)) σ H fun σ2 H2=>tb {D with nx:=Pv (i+1),ct:=Pv (i+1),bk:=D.nx} σ2 H2) (hd:∀σ H,Pv n σ H→D.nx σ H):
 ∃W:Nat→Nat→St→Hp→Prop,(∃m,W 0 m σ H)∧∀i m σ H,W i m σ H→
  ((Itr lo n).stop i H∧D.nx σ H)∨((Itr lo n).go i H∧∃N:St→Hp→Prop,(∀σ' H',N σ' H'→∃m',m' < m∧W (i+1) m' σ' H')∧∀x H',(Itr lo n).yld i H x H'→g x σ H' fun σ2 H2=>tb {D with nx:=N,ct:=N,bk:=D.nx} σ2 H2):=by
 refine ⟨fun i m σ H=>m=n - i∧i≤n∧Pv i σ H,⟨n,by simp,Nat.zero_le _,h0⟩,?_⟩
 rintro i m σ H ⟨rfl,hi,p⟩
 by_cases hlt:i < n
 · refine .inr ⟨hlt,Pv (i+1),fun σ' H' p'=>⟨n - (i+1),by omega,rfl,hlt,p'⟩,fun x H' y=>?_⟩
   obtain ⟨e,y⟩:=y
   subst e y
   exact hs i σ _ hlt p
 · have e:i=n:=by omega
   subst e
   exact .inl ⟨Nat.le_refl _,hd σ H p⟩
end L2
namespace L2
noncomputable abbrev R2:=V→V→Hp→VK→Prop
noncomputable def OpR(X:Cx)(f:Value→Value→Sem Value)(r:R2):Prop:=
 ∀(pins:List (Addr×Obj)) (s:Shared) (σ:St) (H:Hp) (x y:V) (v u:Value) (Q:VK),Inv X pins σ H s→RelV x v→RelV y u→r x y H Q→
   wpAny (model X.prog X.w) X.A (f v u) (EP X pins σ Q) X.xe s
noncomputable def UnR(X:Cx)(f:Value→Sem Value)(r:V→Hp→VK→Prop):Prop:=
 ∀(pins:List (Addr×Obj)) (s:Shared) (σ:St) (H:Hp) (x:V) (v:Value) (Q:VK),Inv X pins σ H s→RelV x v→r x H Q→
   wpAny (model X.prog X.w) X.A (f v) (EP X pins σ Q) X.xe s
noncomputable def CallR(X:Cx)(f:Value)(r:List V→Hp→VK→Prop):Prop:=
 ∀(pins:List (Addr×Obj)) (s:Shared) (σ:St) (H:Hp) (xs:List V) (us:List Value) (Q:VK),Inv X pins σ H s→Vals xs us→r xs H Q→
   wpAny (model X.prog X.w) X.A (call f us) (EP X pins σ Q) X.xe s
noncomputable def tOp(r:R2)(ta tb:TE):TE:=fun σ H Q=>ta σ H fun x H1=>tb σ H1 fun y H2=>r x y H2 Q
noncomputable def tUn(r:V→Hp→VK→Prop)(ta:TE):TE:=fun σ H Q=>ta σ H fun x H1=>r x H1 Q
noncomputable def rI(C:Int→Int→Prop)(g:Int→Int→V):R2:=fun x y H Q=>∃i j,x= .int i∧y= .int j∧C i j∧Q (g i j) H
noncomputable def rI0(g:Int→Int→V):R2:=fun x y H Q=>∃i j,x= .int i∧y= .int j∧Q (g i j) H
noncomputable def rU(g:Int→V):V→Hp→VK→Prop:=fun x H Q=>∃i,x= .int i∧Q (g i) H
section
variable {X:Cx} {a b c:Expr} {ta tb tc:TE} {pos:Pos}
theorem binT(ha:PE X a ta)(hb:PE X b tb){pins:List (Addr×Obj)}{s:Shared}{σ:St}{H:Hp}{R:V→V→Hp→Prop}(I:Inv X pins σ H s)
 (h:ta σ H fun x H1=>tb σ H1 fun y H2=>R x y H2) {Q:Value→Shared→Prop} {f:Value→Value→Sem Value}
 (hf:∀v u s2 x y H2,Inv X pins σ H2 s2→RelV x v→RelV y u→R x y H2→wpAny (model X.prog X.w) X.A (f v u) Q X.xe s2):
 wpAny (model X.prog X.w) X.A (eval a X.env) (fun v s₁=>wpAny (model X.prog X.w) X.A (eval b X.env) (fun u s₂=>wpAny (model X.prog X.w) X.A (f v u) Q X.xe s₂) X.xe s₁) X.xe s:=by
 refine thn (ha pins s σ H _ I h) fun v s1 hq_=>?_
 obtain ⟨x,H1,I1,r1,q1⟩:=hq_
 refine thn (hb pins s1 σ H1 _ I1 q1) fun u s2 hq_=>?_
 obtain ⟨y,H2,I2,r2,q2⟩:=hq_
 exact hf v u s2 x y H2 I2 r1 r2 q2
theorem pe_op{op:Operator}{r:R2}(ho:OpR X (binaryOp op) r)(ha:PE X a ta)(hb:PE X b tb):PE X (.BinOp a op b pos) (tOp r ta tb):=by
 intro pins s σ H Q I h
 exact wpAny_BinOp (binT ha hb I h fun v u s2 x y H2 I2 rx ry q=>ho pins s2 σ H2 x y v u Q I2 rx ry q)
theorem pe_un{op:UnaryOp}{r:V→Hp→VK→Prop}(ho:UnR X (unaryOp op) r)(ha:PE X a ta):PE X (.UnaryOp op a pos) (tUn r ta):=by
 intro pins s σ H Q I h
 exact UnaryOp_ (thn (ha pins s σ H _ I h) fun v s1 ⟨x,H1,I1,r1,q1⟩=>ho pins s1 σ H1 x v Q I1 r1 q1)
theorem opI{f:Value→Value→Sem Value}{C:Int→Int→Prop}{g:Int→Int→Int}
 (rule:∀(i j:Int) (t u:Tok) (s:Shared) (Q:Value→Shared→Prop) (E:Value→Shared→Prop),C i j→Q (.int (g i j) s.toks) {s with toks:=s.toks+1}→wpAny (model X.prog X.w) X.A (f (.int i t) (.int j u)) Q E s):
 OpR X f (rI C fun i j=> .int (g i j)):=by
 intro pins s σ H x y v u Q I rx ry h
 obtain ⟨i,j,rfl,rfl,hc,q⟩:=h
 obtain ⟨t,rfl⟩:=rx
 obtain ⟨t',rfl⟩:=ry
 exact rule i j t t' s _ _ hc ⟨.int (g i j),H,I.tok _,⟨_,rfl⟩,q⟩
theorem opI0{f:Value→Value→Sem Value}{g:Int→Int→Int}
 (rule:∀(i j:Int) (t u:Tok) (s:Shared) (Q:Value→Shared→Prop) (E:Value→Shared→Prop),Q (.int (g i j) s.toks) {s with toks:=s.toks+1}→wpAny (model X.prog X.w) X.A (f (.int i t) (.int j u)) Q E s):
 OpR X f (rI0 fun i j=> .int (g i j)):=by
 intro pins s σ H x y v u Q I rx ry h
 obtain ⟨i,j,rfl,rfl,q⟩:=h
 obtain ⟨t,rfl⟩:=rx
 obtain ⟨t',rfl⟩:=ry
 exact rule i j t t' s _ _ ⟨.int (g i j),H,I.tok _,⟨_,rfl⟩,q⟩
theorem opB0{f:Value→Value→Sem Value}{g:Int→Int→Bool}
 (rule:∀(i j:Int) (t u:Tok) (s:Shared) (Q:Value→Shared→Prop) (E:Value→Shared→Prop),Q (.bool (g i j)) s→wpAny (model X.prog X.w) X.A (f (.int i t) (.int j u)) Q E s):
 OpR X f (rI0 fun i j=> .bl (g i j)):=by
 intro pins s σ H x y v u Q I rx ry h
 obtain ⟨i,j,rfl,rfl,q⟩:=h
 obtain ⟨t,rfl⟩:=rx
 obtain ⟨t',rfl⟩:=ry
 exact rule i j t t' s _ _ ⟨.bl (g i j),H,I,rfl,q⟩
noncomputable def CDiv(i j:Int):Prop:=0 < j∧j < 1073741824
noncomputable def CPow(i j:Int):Prop:=0≤j∧j≤1000000∧i.natAbs < 2 ^ 64
noncomputable def CMul(i j:Int):Prop:=(-(2 ^ 64) < i∧i < 2 ^ 64)∨(-(2 ^ 64) < j∧j < 2 ^ 64)
theorem CMul.ok{i j:Int}(h:CMul i j):IntMulOk i j:=by
 rcases h with ⟨h1,h2⟩ | ⟨h1,h2⟩
 · exact .of_left (intBits_le_64 h1 h2)
 · exact .of_right (intBits_le_64 h1 h2)
theorem op_add:OpR X (binaryOp .Add) (rI0 fun i j=> .int (i+j)):=opI0 fun _ _ _ _ _ _ _ q=>add_int q
theorem op_sub:OpR X (binaryOp .Sub) (rI0 fun i j=> .int (i - j)):=opI0 fun _ _ _ _ _ _ _ q=>sub_int q
theorem op_mul:OpR X (binaryOp .Mult) (rI CMul fun i j=> .int (i * j)):=opI fun _ _ _ _ _ _ _ hc q=>mul_int q hc.ok
theorem op_fdiv:OpR X (binaryOp .FloorDiv) (rI CDiv fun i j=> .int (i / j)):=opI fun i j _ _ _ _ _ hc q=>by
 have h1:(0:Int) < j:=hc.1
 have h2:j < 1073741824:=hc.2
 exact floordiv_int (by omega) (by rw [Int.fdiv_eq_ediv_of_nonneg i (by omega)];exact q) (.inl (PyProof.noPylong_small (by omega)))
theorem op_mod:OpR X (binaryOp .Mod) (rI (fun _ j=>0 < j) fun i j=> .int (i % j)):=opI fun i j _ _ _ _ _ hc q=>by
 have h1:(0:Int) < j:=hc
 exact mod_int' (by omega) (by rw [Int.fmod_eq_emod_of_nonneg i (by omega)];exact q)
theorem op_pow:OpR X (binaryOp .Pow) (rI CPow fun i j=> .int (i ^ j.toNat)):=opI fun _ _ _ _ _ _ _ hc q=>pow_int_small hc.1 hc.2.1 hc.2.2 q
theorem unI{f:Value→Sem Value}{g:Int→Int}
 (rule:∀(i:Int) (t:Tok) (s:Shared) (Q:Value→Shared→Prop) (E:Value→Shared→Prop),Q (.int (g i) s.toks) {s with toks:=s.toks+1}→wpAny (model X.prog X.w) X.A (f (.int i t)) Q E s):
 UnR X f (rU fun i=> .int (g i)):=by
 intro pins s σ H x v Q I rx h
 obtain ⟨i,rfl,q⟩:=h
 obtain ⟨t,rfl⟩:=rx
 exact rule i t s _ _ ⟨.int (g i),H,I.tok _,⟨_,rfl⟩,q⟩
theorem un_neg:UnR X (unaryOp .USub) (rU fun i=> .int (-i)):=unI fun _ _ _ _ _ q=>neg_int q
end
noncomputable def scal:V→V→Bool
 | .non,.non=>true | .non,.int _=>true | .int _,.non=>true | .non,.bl _=>true | .bl _,.non=>true | .non,.str _=>true | .str _,.non=>true
 | .int _,.int _=>true | .bl _,.bl _=>true | .str _,.str _=>true | .byt _,.byt _=>true
 | .int _,.str _=>true | .str _,.int _=>true | .bl _,.str _=>true | .str _,.bl _=>true
 | _,_=>false
noncomputable def rEq:R2:=fun x y H Q=>scal x y=true∧Q (.bl (decide (x=y))) H
noncomputable def rNe:R2:=fun x y H Q=>scal x y=true∧Q (.bl (!decide (x=y))) H
theorem dec_int{i j:Int}:decide (V.int i=V.int j)=(i==j):=by
 rw [Bool.eq_iff_iff]
 simp
theorem dec_bl{i j:Bool}:decide (V.bl i=V.bl j)=(i==j):=by
 rw [Bool.eq_iff_iff]
 simp
theorem dec_str{i j:Str}:decide (V.str i=V.str j)=(i==j):=by
 rw [Bool.eq_iff_iff]
 simp
theorem dec_byt{i j:Array UInt8}:decide (V.byt i=V.byt j)=(i.toList==j.toList):=by
 rw [Bool.eq_iff_iff]
 cases i
 cases j
 simp
section
variable {X:Cx} {a b c:Expr} {ta tb tc:TE} {pos:Pos}
theorem fin_bl{pins:List (Addr×Obj)}{σ:St}{H:Hp}{s:Shared}{Q:VK}{k k':Bool}(I:Inv X pins σ H s)(q:Q (.bl k) H)(e:k=k'):EP X pins σ Q (.bool k') s:=by
 subst e
 exact ⟨.bl k,H,I,rfl,q⟩
theorem op_eq:OpR X (compareOp .Eq) rEq:=by
 intro pins s σ H x y v u Q I rx ry h
 obtain ⟨hs,q⟩:=h
 cases x with
 | non=>
  cases rx
  cases y with
  | non=>cases ry;exact PySem.EqNone.eq_none_none (fin_bl I q (by simp))
  | bl j=>cases ry;exact PySem.EqNone.eq_none_bool (fin_bl I q (by simp))
  | int j=>obtain ⟨t',rfl⟩:=ry;exact PySem.EqNone.eq_none_int (fin_bl I q (by simp))
  | str j=>obtain ⟨t',rfl⟩:=ry;exact PySem.EqNone.eq_none_str (fin_bl I q (by simp))
  | _=>exact absurd (show false=true from hs) Bool.false_ne_true
 | bl i=>
  cases rx
  cases y with
  | non=>cases ry;exact PySem.EqNone.eq_bool_none (fin_bl I q (by simp))
  | bl j=>cases ry;exact eq_bool (fin_bl I q dec_bl)
  | str j=>obtain ⟨t',rfl⟩:=ry;exact PySem.EqMixed.eq_bool_str (fin_bl I q (by simp))
  | _=>exact absurd (show false=true from hs) Bool.false_ne_true
 | int i=>
  obtain ⟨t,rfl⟩:=rx
  cases y with
  | non=>cases ry;exact PySem.EqNone.eq_int_none (fin_bl I q (by simp))
  | int j=>obtain ⟨t',rfl⟩:=ry;exact eq_int (fin_bl I q dec_int)
  | str j=>obtain ⟨t',rfl⟩:=ry;exact PySem.EqMixed.eq_int_str (fin_bl I q (by simp))
  | _=>exact absurd (show false=true from hs) Bool.false_ne_true
 | str i=>
  obtain ⟨t,rfl⟩:=rx
  cases y with
  | non=>cases ry;exact PySem.EqNone.eq_str_none (fin_bl I q (by simp))
  | bl j=>cases ry;exact PySem.EqMixed.eq_str_bool (fin_bl I q (by simp))
  | int j=>obtain ⟨t',rfl⟩:=ry;exact PySem.EqMixed.eq_str_int (fin_bl I q (by simp))
  | str j=>obtain ⟨t',rfl⟩:=ry;exact eq_str (fin_bl I q dec_str)
  | _=>exact absurd (show false=true from hs) Bool.false_ne_true
 | byt i=>
  obtain ⟨t,rfl⟩:=rx
  cases y with
  | byt j=>obtain ⟨t',rfl⟩:=ry;exact PySem.W.eq_bytes (fin_bl I q dec_byt)
  | _=>exact absurd (show false=true from hs) Bool.false_ne_true
 | _=>cases y <;> exact absurd (show false=true from hs) Bool.false_ne_true
theorem op_ne:OpR X (compareOp .NotEq) rNe:=by
 intro pins s σ H x y v u Q I rx ry h
 obtain ⟨hs,q⟩:=h
 cases x with
 | non=>
  cases rx
  cases y with
  | non=>cases ry;exact PySem.EqNone.ne_none_none (fin_bl I q (by simp))
  | bl j=>cases ry;exact PySem.EqNone.ne_none_bool (fin_bl I q (by simp))
  | int j=>obtain ⟨t',rfl⟩:=ry;exact PySem.EqNone.ne_none_int (fin_bl I q (by simp))
  | str j=>obtain ⟨t',rfl⟩:=ry;exact PySem.EqNone.ne_none_str (fin_bl I q (by simp))
  | _=>exact absurd (show false=true from hs) Bool.false_ne_true
 | bl i=>
  cases rx
  cases y with
  | non=>cases ry;exact PySem.EqNone.ne_bool_none (fin_bl I q (by simp))
  | bl j=>cases ry;exact ne_bool (fin_bl I q (congrArg not dec_bl))
  | str j=>obtain ⟨t',rfl⟩:=ry;exact PySem.EqMixed.ne_bool_str (fin_bl I q (by simp))
  | _=>exact absurd (show false=true from hs) Bool.false_ne_true
 | int i=>
  obtain ⟨t,rfl⟩:=rx
  cases y with
  | non=>cases ry;exact PySem.EqNone.ne_int_none (fin_bl I q (by simp))
  | int j=>obtain ⟨t',rfl⟩:=ry;exact ne_int (fin_bl I q (congrArg not dec_int))
  | str j=>obtain ⟨t',rfl⟩:=ry;exact PySem.EqMixed.ne_int_str (fin_bl I q (by simp))
  | _=>exact absurd (show false=true from hs) Bool.false_ne_true
 | str i=>
  obtain ⟨t,rfl⟩:=rx
  cases y with
  | non=>cases ry;exact PySem.EqNone.ne_str_none (fin_bl I q (by simp))
  | bl j=>cases ry;exact PySem.EqMixed.ne_str_bool (fin_bl I q (by simp))
  | int j=>obtain ⟨t',rfl⟩:=ry;exact PySem.EqMixed.ne_str_int (fin_bl I q (by simp))
  | str j=>obtain ⟨t',rfl⟩:=ry;exact ne_str (fin_bl I q (congrArg not dec_str))
  | _=>exact absurd (show false=true from hs) Bool.false_ne_true
 | byt i=>
  obtain ⟨t,rfl⟩:=rx
  cases y with
  | byt j=>obtain ⟨t',rfl⟩:=ry;exact PySem.W.ne_bytes (fin_bl I q (congrArg not dec_byt))
  | _=>exact absurd (show false=true from hs) Bool.false_ne_true
 | _=>cases y <;> exact absurd (show false=true from hs) Bool.false_ne_true
theorem op_lt:OpR X (compareOp .Lt) (rI0 fun i j=> .bl (decide (i < j))):=opB0 fun _ _ _ _ _ _ _ q=>lt_int q
theorem op_le:OpR X (compareOp .LtE) (rI0 fun i j=> .bl (decide (i≤j))):=opB0 fun _ _ _ _ _ _ _ q=>le_int q
theorem op_gt:OpR X (compareOp .Gt) (rI0 fun i j=> .bl (decide (j < i))):=opB0 fun _ _ _ _ _ _ _ q=>gt_int q
theorem op_ge:OpR X (compareOp .GtE) (rI0 fun i j=> .bl (decide (j≤i))):=opB0 fun _ _ _ _ _ _ _ q=>ge_int q
theorem op_in_str:OpR X (compareOp .In) (fun x y H Q=>∃i j,x= .str i∧y= .str j∧Q (.bl (!(Builtin.Str.occurrences j i 0 j.length 1).isEmpty)) H):=by
 intro pins s σ H x y v u Q I rx ry h
 obtain ⟨i,j,rfl,rfl,q⟩:=h
 obtain ⟨t,rfl⟩:=rx
 obtain ⟨t',rfl⟩:=ry
 exact in_str (fin_bl I q rfl)
theorem op_isN:OpR X (compareOp .Is) (fun x y H Q=>y= .non∧Q (.bl (decide (x= .non))) H):=by
 intro pins s σ H x y v u Q I rx ry h
 obtain ⟨rfl,q⟩:=h
 cases ry
 refine is_none_gen (fin_bl I q ?_)
 cases x <;> first
  | (cases rx;rfl)
  | (obtain ⟨t,rfl⟩:=rx;rfl)
theorem op_notN:OpR X (compareOp .IsNot) (fun x y H Q=>y= .non∧Q (.bl (!decide (x= .non))) H):=by
 intro pins s σ H x y v u Q I rx ry h
 obtain ⟨rfl,q⟩:=h
 cases ry
 refine isnot_none_gen (fin_bl I q ?_)
 cases x <;> first
  | (cases rx;rfl)
  | (obtain ⟨t,rfl⟩:=rx;rfl)
theorem nomark(b:Expr){op:CmpOp}(h:op≠ .In:=by decide)(h2:op≠ .NotIn:=by decide):behindInMarks op b=false:=by
 have e1:(op==CmpOp.In)=false:=by cases op <;> first | rfl | exact absurd rfl h
 have e2:(op==CmpOp.NotIn)=false:=by cases op <;> first | rfl | exact absurd rfl h2
 cases b <;> simp [behindInMarks,e1,e2]
theorem pe_cmpR{op:CmpOp}{r:R2}(ho:OpR X (compareOp op) r)(ha:PE X a ta)(hb:PE X b tb)(hm:behindInMarks op b=false):PE X (.Compare a [op] [b] pos) (tOp r ta tb):=by
 intro pins s σ H Q I h
 exact wpAny_Compare1 (binT ha hb I h fun v u s2 x y H2 I2 rx ry q=>ho pins s2 σ H2 x y v u Q I2 rx ry q) hm
noncomputable def tTest(t:TE):TT:=fun σ H Q=>t σ H fun x H'=>∃k,x= .bl k∧Q k H'
theorem pt_cmpR{op:CmpOp}{r:R2}(ho:OpR X (compareOp op) r)(ha:PE X a ta)(hb:PE X b tb)(hm:behindInMarks op b=false):PT X (.Compare a [op] [b] pos) (tTest (tOp r ta tb)):=by
 intro pins s σ H Q I h
 refine wpAny_isTrue_Compare1 (thn (ha pins s σ H _ I h) fun v s1 ⟨x,H1,I1,r1,q1⟩=>thn (hb pins s1 σ H1 _ I1 q1) fun u s2 ⟨y,H2,I2,r2,q2⟩=>
  thn (ho pins s2 σ H2 x y v u _ I2 r1 r2 q2) fun c s3 ⟨z,H3,I3,r3,k,e,q3⟩=>?_) hm
 subst e
 cases r3
 exact wpAny_truthy_bool ⟨H3,I3,q3⟩
noncomputable def tChain(r r':R2)(ta tb tc:TE):TE:=fun σ H Q=>ta σ H fun x H1=>tb σ H1 fun y H2=>r x y H2 fun z H3=>∃k,z= .bl k∧
 (if k=true then tc σ H3 fun w' H4=>r' y w' H4 Q else Q (.bl false) H3)
theorem pe_chain{op op':CmpOp}{r r':R2}(ho:OpR X (compareOp op) r)(ho':OpR X (compareOp op') r')(ha:PE X a ta)(hb:PE X b tb)(hc:PE X c tc)
 (hm:lastMarks [op,op'] [b,c]=false:=by with_unfolding_all rfl):PE X (.Compare a [op,op'] [b,c] pos) (tChain r r' ta tb tc):=by
 intro pins s σ H Q I h
 refine Compare_chain (thn (ha pins s σ H _ I h) fun v s1 ⟨x,H1,I1,r1,q1⟩=>chain_link (thn (hb pins s1 σ H1 _ I1 q1) fun u s2 ⟨y,H2,I2,r2,q2⟩=>
  thn (ho pins s2 σ H2 x y v u _ I2 r1 r2 q2) fun d s3 ⟨z,H3,I3,r3,k,e,q3⟩=>?_)) hm
 subst e
 cases r3
 refine wpAny_truthy_bool ?_
 cases k with
 | false=>exact ite_ff ⟨.bl false,H3,I3,rfl,q3⟩
 | true=>exact ite_tt (chain_last (thn (hc pins s3 σ H3 _ I3 q3) fun w' s4 ⟨z',H4,I4,r4,q4⟩=>ho' pins s4 σ H4 y z' u w' Q I4 r2 r4 q4))
theorem line63:(sizeLine:Nat) < 2 ^ 63:=by rw [sizeLine_eq];decide
theorem op_add_str:OpR X (binaryOp .Add) (fun x y H Q=>∃i j,x= .str i∧y= .str j∧i.length+j.length≤sizeLine∧Q (.str (i++j)) H):=by
 intro pins s σ H x y v u Q I rx ry h
 obtain ⟨i,j,rfl,rfl,hz,q⟩:=h
 obtain ⟨t,rfl⟩:=rx
 obtain ⟨t',rfl⟩:=ry
 exact add_str (fun t' tk=>⟨.str (i++j),H,I.tok _,⟨_,rfl⟩,q⟩) hz
theorem vals1{x:V}{us:List Value}(r:Vals [x] us):∃u,us=[u]∧RelV x u:=by
 cases r with
 | cons r1 r2=>cases r2;exact ⟨_,rfl,r1⟩
theorem vals2{x y:V}{us:List Value}(r:Vals [x,y] us):∃u w',us=[u,w']∧RelV x u∧RelV y w':=by
 cases r with
 | cons r1 r2=>
  cases r2 with
  | cons r3 r4=>cases r4;exact ⟨_,_,rfl,r1,r3⟩
end
end L2
namespace L2
structure ObjM(h:Heap)(x dx C:Addr)(mA:Str→Option Value):Prop where
 obj:h.get? x=some (PySem.W.instObj C dx)
 ns:h.Ns1 dx mA
 ne:dx≠x
theorem lookIn_ns{h:Heap}{dx:Addr}{mA:Str→Option Value}(n:h.Ns1 dx mA):∃od,h.get? dx=some od∧∀name,PySem.W.lookIn name od=some (mA name):=by
 obtain ⟨o,es,ep,ho,hd,hk,_,hm⟩:=n
 refine ⟨o,ho,fun name=>?_⟩
 have e:=hm name
 unfold nsFind findBy at e
 rw [← Array.find?_toList]at e
 unfold PySem.W.lookIn
 rw [hd]
 dsimp only
 split
 · rename_i y q
   rw [q]at e
   exact congrArg some e
 · rename_i q
   rw [q]at e
   have a:es.toList.any (·.refKey)=false:=by
    rw [List.any_eq_false]
    intro y hy
    obtain ⟨z,t,hkey⟩:=hk y (Array.mem_toList_iff.mp hy)
    simp [DictEntry.refKey,hkey]
   have a':¬es.toList.any (·.refKey)=true:=by rw [a];exact Bool.false_ne_true
   rw [if_neg a']
   exact congrArg some e
theorem ObjM.look{h:Heap}{x dx C:Addr}{mA:Str→Option Value}(I:ObjM h x dx C mA):∃od,PySem.W.InstAt h x (PySem.W.instObj C dx) C (some od)∧∀name,PySem.W.lookIn name od=some (mA name):=
 let ⟨od,ho,hl⟩:=lookIn_ns I.ns
 ⟨od,⟨I.obj,rfl,rfl,ho⟩,hl⟩
section
variable {prog:Program} {w:World} {A:Around} {E:Value→Shared→Prop} {s:Shared} {K:PySem.W.Frag} {x dx C f:Addr} {mA:Str→Option Value} {name:Str} {v:Value}
theorem get_map{expr:Bool}{Q:Value→Shared→Prop}(X:K.In s.heap)(I:ObjM s.heap x dx C mA)(hg:PySem.W.plainGet K C name=true)(hh:PySem.W.hasDictIn K C=true)
 (ha:PySem.W.findIn K (.ref C) name=some none) (hv:mA name=some v) (hv':PySem.W.handedIn v=true) (h:Q v {s with toks:=s.toks+1}):
 wpAny (model prog w) A (getAttr (.ref x) name expr) Q E s:=by
 obtain ⟨od,J,hl⟩:=I.look
 exact PySem.W.get_value X J (PySem.W.plainGet_of hg).1 (PySem.W.findObj_own hh ha rfl (by rw [hl,hv])) hv' h
theorem get_meth{pl:Sem Bool}{Q:Value×List Value→Shared→Prop}(X:K.In s.heap)(I:ObjM s.heap x dx C mA)(hg:PySem.W.plainGet K C name=true)
 (hf:PySem.W.findIn K (.ref C) name=some (some (.ref f))) (ht:PySem.W.isFn K (.ref f)=true) (hv:mA name=none) (h:Q (.ref f,[.ref x]) s):
 wpAny (model prog w) A (getMethod (.ref x) name pl) Q E s:=by
 obtain ⟨od,J,hl⟩:=I.look
 exact PySem.W.method_fn X J (PySem.W.plainGet_of hg).1 (PySem.W.plainGet_of hg).2 hf (beq_iff_eq.mp ht) (by show (PySem.W.lookIn name od).map (·.isSome)=some false;rw [hl,hv];rfl) h
theorem set_map{ns:List Str}{Q:Unit→Shared→Prop}(X:K.In s.heap)(I:ObjM s.heap x dx C mA)
 (hs:PySem.W.findIn K (.ref C) "__setattr__"=some (some (.builtin "object.__setattr__"))) (hp:PySem.W.plainOver K C=true) (ht:PySem.W.takerIn K C name=some none) (hh:PySem.W.hasDictIn K C=true)
 (hw:PySem.Within mA ns) (hsz:ns.length≤sizeLine)
 (h:∀h',ObjM h' x dx C (fun y=>if y=name then some v else mA y)→Heap.SameBut dx s.heap h'→Q () {s with heap:=h',toks:=s.toks+2}):
 wpAny (model prog w) A (setAttr (.ref x) name v) Q E s:=by
 obtain ⟨od,J,hl⟩:=I.look
 refine PySem.W.set_plain X J hs (PySem.W.osa_open (s:={s with toks:=s.toks+1}) (r:=none) X J hp ht fun b=>?_)
 obtain ⟨cd,hc,hd'⟩:=PySem.W.any_some hh
 have hx:s.heap.get? x=some ⟨.ref C,some dx,.plain,#[]⟩:=I.obj
 refine wpAny_bind (wpAny_pure (wpAny_bind (wpAny_bind (wpAny_loadPart hx (wpAny_bind (PySem.W.Looks.here (s:={s with toks:=s.toks+1}) (PySem.W.looks_clsIn X hc) ?_))))))
 rw [hd']
 refine wpAny_pure (a:=some dx) (wpAny_bind (wpAny_pure (wpAny_bind ?_)))
 refine wpAny_nsSet1 (s:={s with toks:=s.toks+1}) I.ns fun h' hn2 hs2=>?_
 obtain ⟨oD,esD,epD,hoD,hdD,hcD⟩:=hn2.count (PySem.Within.cons name v hw)
 refine wpAny_bind (wpAny_lookBehind hoD (by rw [hdD];exact pastItsLine_dict (Nat.le_trans hcD (by rw [List.length_cons];omega))) ?_)
 exact wpAny_pure (h _ ⟨(hs2.2 _ (Ne.symm I.ne)).trans I.obj,hn2,I.ne⟩ hs2)
theorem make_map{R:Result→Shared→Prop}{vs:List Value}{kw:List (Str×Value)}(X:K.In s.heap)(hm:PySem.W.makesIn K C=true)
 (hi:PySem.W.findIn K (.ref C) "__init__"=some (some (.ref f))) (hf:PySem.W.typeIn K (.ref f)=some (.type "function"))
 (h:codeAny (model prog w) (A.under (.builtin "type.__call__" ⟨.ref C::vs,kw⟩)) (.call (.ref f) ⟨.ref (s.heap.objs.size+1)::vs,kw⟩) (PySem.W.InitBack (s.heap.objs.size+1) R)
  {s with heap:=(s.heap.push PySem.W.emptyDict).push (PySem.W.instObj C s.heap.objs.size)}):
 codeAny (model prog w) A (.call (.ref C) ⟨vs,kw⟩) R s:=by
 obtain ⟨hh,g,d,t,os⟩:=s
 exact PySem.W.make_core (PySem.W.makes_of X hm) (PySem.W.looks_findIn X hi) (fun self=>PySem.W.bind_fn X self hf) (.inl rfl) h
end
noncomputable def putF(f:Str)(v:V):List (Str×V)→List (Str×V)
 | []=>[(f,v)]
 | (g,x)::r=>if g=f then (g,v)::r else (g,x)::putF f v r
theorem lookup_putF(f g:Str)(v:V):∀fs:List (Str×V),(putF f v fs).lookup g=if g=f then some v else fs.lookup g
 | []=>by
  show List.lookup g [(f,v)]=_
  by_cases h:g=f
  · have hb:(g==f)=true:=beq_iff_eq.mpr h
    simp only [List.lookup,hb,if_pos h]
  · have hb:(g==f)=false:=beq_eq_false_iff_ne.mpr h
    simp only [List.lookup,hb,if_neg h]
 | (k,x)::r=>by
  have ih:=lookup_putF f g v r
  rw [show putF f v ((k,x)::r)=(if k=f then (k,v)::r else (k,x)::putF f v r) from rfl]
  by_cases hk:k=f
  · rw [if_pos hk]
    by_cases h:g=k
    · have hb:(g==k)=true:=beq_iff_eq.mpr h
      simp only [List.lookup,hb,if_pos (h.trans hk)]
    · have hb:(g==k)=false:=beq_eq_false_iff_ne.mpr h
      simp only [List.lookup,hb,if_neg (fun e:g=f=>h (e.trans hk.symm))]
  · rw [if_neg hk]
    by_cases h:g=k
    · have hb:(g==k)=true:=beq_iff_eq.mpr h
      simp only [List.lookup,hb,if_neg (fun e:g=f=>hk (h.symm.trans e))]
    · have hb:(g==k)=false:=beq_eq_false_iff_ne.mpr h
      simp only [List.lookup,hb]
      exact ih
theorem keys_putF(f:Str)(v:V):∀fs:List (Str×V),f∈(putF f v fs).map (·.1)∧∀g,g∈fs.map (·.1)→g∈(putF f v fs).map (·.1)
 | []=>⟨by simp [putF],fun g h=>by simp at h⟩
 | (k,x)::r=>by
  obtain ⟨i1,i2⟩:=keys_putF f v r
  rw [show putF f v ((k,x)::r)=(if k=f then (k,v)::r else (k,x)::putF f v r) from rfl]
  by_cases hk:k=f
  · rw [if_pos hk]
    subst hk
    exact ⟨by simp,fun g h=>by simpa using h⟩
  · rw [if_neg hk]
    refine ⟨?_,fun g h=>?_⟩
    · rw [List.map_cons]
      exact List.mem_cons_of_mem _ i1
    · rw [List.map_cons]at h ⊢
      rcases List.mem_cons.mp h with e | e
      · exact List.mem_cons.mpr (.inl e)
      · exact List.mem_cons_of_mem _ (i2 g e)
theorem length_putF(f:Str)(v:V):∀fs:List (Str×V),(putF f v fs).length≤fs.length+1
 | []=>by simp [putF]
 | (k,x)::r=>by
  have ih:=length_putF f v r
  rw [show putF f v ((k,x)::r)=(if k=f then (k,v)::r else (k,x)::putF f v r) from rfl]
  by_cases hk:k=f
  · rw [if_pos hk,List.length_cons,List.length_cons];omega
  · rw [if_neg hk,List.length_cons,List.length_cons];omega
theorem RelO.some_of{v:V}{o:Option Value}(r:RelO (some v) o):∃u,o=some u∧RelV v u:=by
 cases o with
 | none=>exact (show False from r).elim
 | some u=>exact ⟨u,rfl,r⟩
theorem RelO.none_of{o:Option Value}(r:RelO none o):o=none:=by
 cases o with
 | none=>rfl
 | some u=>exact (show False from r).elim
theorem handed_of{v:V}{u:Value}(r:RelV v u):PySem.W.handedIn u=true:=by
 cases v with
 | non=>cases (show u=Value.none from r);rfl
 | bl b=>cases (show u=Value.bool b from r);rfl
 | int i=>obtain ⟨t,e⟩:=(show ∃t,u=Value.int i t from r);cases e;rfl
 | str x=>obtain ⟨t,e⟩:=(show ∃t,u=Value.str x t from r);cases e;rfl
 | byt b=>obtain ⟨t,e⟩:=(show ∃t,u=Value.bytes b t from r);cases e;rfl
 | flt b=>obtain ⟨t,e⟩:=(show ∃t,u=Value.float b t from r);cases e;rfl
 | ref a=>cases (show u=Value.ref a from r);rfl
 | ty n=>cases (show u=Value.type n from r);rfl
section
variable {P:Program} {w:World} {H H':Hp} {h h':Heap} {a C dx:Addr} {fs fs':List (Str×V)}
theorem ins_get(hok:HOk P w H h)(e:H a=some (.ins C dx fs)):∃mA,ObjM h a dx C mA∧(∀f,RelO (fs.lookup f) (mA f))∧PySem.Within mA (fs.map (·.1))∧fs.length≤1000∧H dx=some (.own a):=by
 obtain ⟨d,z,ne,ob,mA,n,r,q⟩:=(show ObjOk P w H h a (.ins C dx fs) from hok a _ e)
 exact ⟨mA,⟨ob,n,ne⟩,r,q,z,d⟩
end
structure Cls(K:PySem.W.Frag)(C:Addr):Prop where
 pg:PySem.W.plainGet K C Str.empty=true
 hd:PySem.W.hasDictIn K C=true
 po:PySem.W.plainOver K C=true
 sa:PySem.W.findIn K (.ref C) "__setattr__"=some (some (.builtin "object.__setattr__"))
theorem Cls.get{K:PySem.W.Frag}{C:Addr}(c:Cls K C)(f:Str):PySem.W.plainGet K C f=true:=c.pg
noncomputable def NoAttr(K:PySem.W.Frag)(C:Addr)(f:Str):Prop:=PySem.W.findIn K (.ref C) f=some none
theorem NoAttr.taker{K:PySem.W.Frag}{C:Addr}{f:Str}(n:NoAttr K C f):PySem.W.takerIn K C f=some none:=by
 unfold PySem.W.takerIn
 rw [show PySem.W.findIn K (.ref C) f=some none from n]
 rfl
structure Meth(K:PySem.W.Frag)(C:Addr)(m:Str)(f:Addr):Prop where
 at_:PySem.W.findIn K (.ref C) m=some (some (.ref f))
 fn:PySem.W.isFn K (.ref f)=true
 kp:PySem.W.keepIn K (.ref f)=true
section
variable {X:Cx} {pins:List (Addr×Obj)} {σ:St} {H:Hp} {s:Shared} {a C dx:Addr} {fs:List (Str×V)} {f:Str} {v:V} {A:Around} {E:Value→Shared→Prop}
theorem getattr_ok{b:Bool}{Q:Value→Shared→Prop}(I:Inv X pins σ H s)(e:H a=some (.ins C dx fs))(c:Cls X.K C)(n:NoAttr X.K C f)(l:fs.lookup f=some v)
 (h:∀u s',Inv X pins σ H s'→RelV v u→Q u s'):wpAny (model X.prog X.w) A (getAttr (.ref a) f b) Q E s:=by
 obtain ⟨mA,O,r,_,_,_⟩:=ins_get I.hok e
 obtain ⟨u,hu,ru⟩:=RelO.some_of (v:=v) (o:=mA f) (by rw [← l];exact r f)
 exact get_map I.kIn O (c.get f) c.hd n hu (handed_of ru) (h u _ (I.tok _) ru)
theorem getmeth_ok{m:Str}{g:Addr}{pl:Sem Bool}{Q:Value×List Value→Shared→Prop}(I:Inv X pins σ H s)(e:H a=some (.ins C dx fs))(c:Cls X.K C)(k:Meth X.K C m g)(l:fs.lookup m=none)
 (h:Q (.ref g,[.ref a]) s):wpAny (model X.prog X.w) A (getMethod (.ref a) m pl) Q E s:=by
 obtain ⟨mA,O,r,_,_,_⟩:=ins_get I.hok e
 have hn:mA m=none:=RelO.none_of (by rw [← l];exact r m)
 exact get_meth I.kIn O (c.get m) k.at_ k.fn hn h
theorem setattr_ok{y:V}{u:Value}{Q:Unit→Shared→Prop}(I:Inv X pins σ H s)(e:H a=some (.ins C dx fs))(c:Cls X.K C)(n:NoAttr X.K C f)(hl:fs.length < 1000)(ry:RelV y u)
 (h:∀s',Inv X pins σ (upd H a (.ins C dx (putF f y fs))) s'→Q () s'):wpAny (model X.prog X.w) A (setAttr (.ref a) f u) Q E s:=by
 obtain ⟨mA,O,r,wi,_,ho⟩:=ins_get I.hok e
 have hz:(fs.map (·.1)).length≤sizeLine:=by rw [List.length_map,sizeLine_eq];omega
 refine set_map I.kIn O c.sa c.po n.taker c.hd wi hz fun h' O' sb=>h _ ?_
 have hd:∃o,h'.get? dx=some o:=let ⟨o,_,_,e',_⟩:=O'.ns;⟨o,e'⟩
 refine I.write (x:=a) (e:=dx) (by rw [e];exact True.intro) (.inr ho) (fun b q hb z=>(sb.2 b hb).trans z) hd ?_
 refine ⟨by rw [upd_ne O.ne];exact ho,?_,O.ne,O'.obj,_,O'.ns,fun g=>?_,fun g hg=>?_⟩
 · have:=length_putF f y fs;omega
 · show RelO ((putF f y fs).lookup g) (if g=f then some u else mA g)
   rw [lookup_putF]
   by_cases q:g=f
   · rw [if_pos q,if_pos q];exact ry
   · rw [if_neg q,if_neg q];exact r g
 · by_cases q:g=f
   · rw [q];exact (keys_putF f y fs).1
   · refine (keys_putF f y fs).2 g (wi g fun z=>hg ?_)
     show (if g=f then some u else mA g)=none
     rw [if_neg q];exact z
theorem Inv.made(I:Inv X pins σ H s):Inv X pins σ (upd (upd H s.heap.objs.size (.own (s.heap.objs.size+1))) (s.heap.objs.size+1) (.ins C s.heap.objs.size []))
 {s with heap:=(s.heap.push PySem.W.emptyDict).push (PySem.W.instObj C s.heap.objs.size)}:=by
 have e1:(s.heap.push PySem.W.emptyDict).get? s.heap.objs.size=some PySem.W.emptyDict:=Heap.get?_push_size s.heap rfl
 have e2:((s.heap.push PySem.W.emptyDict).push (PySem.W.instObj C s.heap.objs.size)).get? (s.heap.objs.size+1)=some (PySem.W.instObj C s.heap.objs.size):=by
  have:=Heap.get?_push_size (s.heap.push PySem.W.emptyDict) (o:=PySem.W.instObj C s.heap.objs.size) rfl
  rwa [Heap.size_push]at this
 have e3:(s.heap.push PySem.W.emptyDict).Ns s.heap.objs.size (fun _=>none):=⟨PySem.W.emptyDict,#[],_,e1,rfl,(fun e he=>absurd he (by simp)),fun _=>rfl⟩
 have I1:=I.laid (a:=s.heap.objs.size) (o:= .own (s.heap.objs.size+1)) (h':=s.heap.push PySem.W.emptyDict) (t':=s.toks) (fun b u q=>Heap.get?_push_of_some _ q) (Nat.le_refl _) ⟨_,e1⟩
 refine I1.laid (a:=s.heap.objs.size+1) (o:= .ins C s.heap.objs.size []) (t':=s.toks) (fun b u q=>Heap.get?_push_of_some _ q) (Nat.le_of_eq (Heap.size_push _ _)) ?_
 have ne:s.heap.objs.size≠s.heap.objs.size+1:=Nat.ne_of_lt (Nat.lt_succ_self _)
 refine ⟨by rw [upd_ne ne,upd_same],Nat.zero_le _,ne,e2,fun _=>none,(Heap.Ns1.of_empty e3).at fun o q=>Heap.get?_push_of_some _ q,fun _=>True.intro,fun y hy=>absurd rfl hy⟩
theorem attr_of{prog:Program}{w:World}{env:Env}{e:Expr}{f:Str}{pos:Pos}{s:Shared}{Q:Value→Shared→Prop}(hb:attributeBase e f env (eval e env)=eval e env)
 (h:wpAny (model prog w) A (eval e env) (fun o s₁=>wpAny (model prog w) A (getAttr o f true) Q E s₁) E s):wpAny (model prog w) A (eval (.Attribute e f pos) env) Q E s:=
 Attribute_any_ h (by rw [arm_eval_Attribute,hb])
end
noncomputable def tFld(K:PySem.W.Frag)(ta:TE)(f:Str):TE:=fun σ H Q=>ta σ H fun x H1=>∃a C dx fs v,x= .ref a∧H1 a=some (.ins C dx fs)∧Cls K C∧NoAttr K C f∧fs.lookup f=some v∧Q v H1
noncomputable def sFld(K:PySem.W.Frag)(ta tv:TE)(f:Str):TS:=fun D σ H=>tv σ H fun y H1=>ta σ H1 fun x H2=>∃a C dx fs,x= .ref a∧H2 a=some (.ins C dx fs)∧Cls K C∧NoAttr K C f∧fs.length < 1000∧
 D.nx σ (upd H2 a (.ins C dx (putF f y fs)))
section
variable {X:Cx} {o e value:Expr} {f:Str} {pos pos' tpos:Pos} {ta tv:TE}
theorem pe_fld(he:PE X e ta)(hb:attributeBase e f X.env (eval e X.env)=eval e X.env):PE X (.Attribute e f pos) (tFld X.K ta f):=by
 intro pins s σ H Q I h
 refine attr_of hb (thn (he pins s σ H _ I h) fun u s1 hq_=>?_)
 obtain ⟨x,H1,I1,rx,a,C,dx,fs,v,ex,ea,c,n,l,q⟩:=hq_
 subst ex
 obtain rfl:u=Value.ref a:=rx
 exact getattr_ok I1 ea c n l fun u' s2 I2 ru=>⟨v,H1,I2,ru,q⟩
theorem ps_fld(ha:PE X o ta)(hv:PE X value tv)(hs:swapsWith value (some (.Attribute o f pos')) pos.line X.env=pure false):PS X (.Assign [.Attribute o f pos'] value pos) (sFld X.K ta tv f):=by
 intro pins s σ H D I h
 refine plainObj_wpAny_Assign_Attribute (thn (hv pins s σ H _ I h) fun u s1 ⟨y,H1,I1,ry,q⟩=>thn (ha pins s1 σ H1 _ I1 q) fun ov s2 hq_=>?_) hs
 obtain ⟨x,H2,I2,rx,a,C,dx,fs,ex,ea,c,n,l,q2⟩:=hq_
 subst ex
 obtain rfl:ov=Value.ref a:=rx
 exact setattr_ok I2 ea c n l ry fun s3 I3=>⟨σ,_,I3,q2⟩
end
section
variable {X:Cx} {pins:List (Addr×Obj)} {σ:St} {H:Hp} {s:Shared} {A:Around} {E:Value→Shared→Prop} {Q:Value→Shared→Prop} {c:Value} {b:Bool}
inductive TyOf(K:PySem.W.Frag)(H:Hp):V→Value→Prop where
 | non:TyOf K H .non (.type "NoneType")
 | bl (x:Bool):TyOf K H (.bl x) (.type "bool")
 | int (i:Int):TyOf K H (.int i) (.type "int")
 | str (x:Str):TyOf K H (.str x) (.type "str")
 | flt (x:UInt64):TyOf K H (.flt x) (.type "float")
 | lst {a:Addr} {xs:List V} (e:H a=some (.lst xs)):TyOf K H (.ref a) (.type "list")
 | frz {a:Addr} {o:Obj} {xs:List V} (e:H a=some (.frz o (.lst xs))):TyOf K H (.ref a) (.type "list")
 | tup {a:Addr} {xs:List V} (e:H a=some (.tup xs)):TyOf K H (.ref a) (.type "tuple")
 | dK {a:Addr} {kvs:List (Key×V)} (e:H a=some (.dK kvs)):TyOf K H (.ref a) (.type "dict")
 | dT {a:Addr} {kvs:List (List Key×V)} (e:H a=some (.dT kvs)):TyOf K H (.ref a) (.type "dict")
 | ins {a C dx:Addr} {fs:List (Str×V)} (e:H a=some (.ins C dx fs)) (cl:Cls K C) (ha:PySem.W.findIn K (.ref C) "__class__"=some (some (.builtin "object.__class__")))
  (hn:PySem.W.specialIn K (.builtin "object.__class__") "__get__"=some (some (.builtin "getset_descriptor.__get__"))) (htk:PySem.W.takesIn K (.builtin "object.__class__")=some true)
  (hm:PySem.W.mroIn K C (.type "object")=some true):TyOf K H (.ref a) (.ref C)
theorem isinst_ok{x:V}{u t:Value}(I:Inv X pins σ H s)(rx:RelV x u)(ty:TyOf X.K H x t)(e:PySem.W.kitOne X.K t c=some b)(h:∀tk,Q (.bool b) {s with toks:=tk}):
 wpAny (model X.prog X.w) A (call (.builtin "isinstance") [u,c]) Q E s:=by
 cases ty with
 | non=>cases (show u=Value.none from rx);exact PySem.W.kia_one PySem.W.kitx_none I.kIn True.intro e (fun z=>nomatch z) h
 | bl y=>cases (show u=Value.bool y from rx);exact PySem.W.kia_one PySem.W.kitx_bool I.kIn True.intro e (fun z=>nomatch z) h
 | int i=>obtain ⟨t,q⟩:=(show ∃t,u=Value.int i t from rx);cases q;exact PySem.W.kia_one PySem.W.kitx_int I.kIn True.intro e (fun z=>nomatch z) h
 | str y=>obtain ⟨t,q⟩:=(show ∃t,u=Value.str y t from rx);cases q;exact PySem.W.kia_one PySem.W.kitx_str I.kIn True.intro e (fun z=>nomatch z) h
 | flt y=>obtain ⟨t,q⟩:=(show ∃t,u=Value.float y t from rx);cases q;exact PySem.W.kia_one PySem.W.kitx_float I.kIn True.intro e (fun z=>nomatch z) h
 | @lst a xs ea=>
  cases (show u=Value.ref a from rx)
  obtain ⟨_,_,n,_,h1⟩:=(show ObjOk X.prog X.w H s.heap a (.lst xs) from I.hok a _ ea)
  exact PySem.W.kia_one PySem.W.kitx_list I.kIn ⟨_,h1,rfl⟩ e (fun z=>nomatch z) h
 | @frz a ob xs ea=>
  cases (show u=Value.ref a from rx)
  obtain ⟨_,_,_,n,_,h1⟩:=(show ObjOk X.prog X.w H s.heap a (.frz ob (.lst xs)) from I.hok a _ ea)
  exact PySem.W.kia_one PySem.W.kitx_list I.kIn ⟨_,h1,rfl⟩ e (fun z=>nomatch z) h
 | @tup a xs ea=>
  cases (show u=Value.ref a from rx)
  obtain ⟨_,_,_,p⟩:=(show ObjOk X.prog X.w H s.heap a (.tup xs) from I.hok a _ ea)
  obtain ⟨o,h1,h2,_⟩:=p
  exact PySem.W.kia_one PySem.W.kitx_tuple I.kIn ⟨o,h1,h2⟩ e (fun z=>nomatch z) h
 | @dK a kvs ea=>
  cases (show u=Value.ref a from rx)
  obtain ⟨_,_,vs,_,p⟩:=(show ObjOk X.prog X.w H s.heap a (.dK kvs) from I.hok a _ ea)
  obtain ⟨o,es,ep,h1,h2,_⟩:=p
  exact PySem.W.kia_one PySem.W.kitx_dict I.kIn ⟨o,h1,h2.1⟩ e (fun z=>nomatch z) h
 | @dT a kvs ea=>
  cases (show u=Value.ref a from rx)
  obtain ⟨_,_,xs,_,o,es,ep,h1,h2,_⟩:=(show ObjOk X.prog X.w H s.heap a (.dT kvs) from I.hok a _ ea)
  exact PySem.W.kia_one PySem.W.kitx_dict I.kIn ⟨o,h1,h2.1⟩ e (fun z=>nomatch z) h
 | @ins a C dx fs ea cl ha hn htk hm=>
  cases (show u=Value.ref a from rx)
  obtain ⟨mA,O,_⟩:=ins_get I.hok ea
  obtain ⟨od,J,_⟩:=O.look
  exact PySem.W.kia_one (PySem.W.kitx_own (cl.get _) cl.hd ha hn htk hm) I.kIn J e (fun z=>nomatch z) h
end
end L2
namespace L2
structure Room(k:Nat)(A:Around):Prop where
 hd:A.handled=none
 dp:A.depth+3 * k+5 < recursionLimit
 un:A.units+16 * k+200 < cLine
theorem Room.mono{j k:Nat}{A:Around}(r:Room k A)(h:j≤k):Room j A:=⟨r.hd,by have:=r.dp;omega,by have:=r.un;omega⟩
theorem Room.deeper{k:Nat}{A:Around}(r:Room (k+1) A)(env:Env):Room k (A.deeper env):=
 ⟨r.hd,by have:=r.dp;show A.depth+1+3 * k+5 < _;omega,by have:=r.un;show A.units+3+16 * k+200 < _;omega⟩
theorem make_depth{A:Around}{C:Addr}{us:List Value}{kw:List (Str×Value)}:(A.under (.builtin "type.__call__" ⟨.ref C::us,kw⟩)).depth=A.depth+1:=by
 first | rfl | simp [Around.under,Code.weight,Code.isCreation,Code.isGuard,Code.isCaller,Code.frames,Code.isFrame,guardIds]
theorem make_units{A:Around}{C:Addr}{us:List Value}{kw:List (Str×Value)}:(A.under (.builtin "type.__call__" ⟨.ref C::us,kw⟩)).units=A.units+1:=by
 first | rfl | simp [Around.under,Code.cUnits,Code.frames,Code.isFrame]
theorem Room.make{k:Nat}{A:Around}(r:Room (k+1) A)(C:Addr)(us:List Value)(kw:List (Str×Value)):Room k (A.under (.builtin "type.__call__" ⟨.ref C::us,kw⟩)):=
 ⟨r.hd,by have:=r.dp;rw [make_depth];omega,by have:=r.un;rw [make_units];omega⟩
theorem Room.depth{k:Nat}{A:Around}(r:Room k A):A.depth < recursionLimit:=by have:=r.dp;omega
theorem Room.units{k:Nat}{A:Around}(r:Room k A):A.units+64 < cLine:=by have:=r.un;omega
noncomputable def tNil:TA:=fun _ H Q=>Q [] H
noncomputable def tCons(ta:TE)(tr:TA):TA:=fun σ H Q=>ta σ H fun x H1=>tr σ H1 fun xs H2=>Q (x::xs) H2
section
variable {X:Cx} {e:Expr} {es:List Expr} {te:TE} {t:TA} {pos:Pos}
theorem pa_nil:PA X [] tNil:=fun _ _ _ _ H Q I h=>Calls.spliced_nil ⟨[],H,I,.nil,h⟩
theorem pa_cons(ha:PE X e te)(hr:PA X es t)(hs:starEach (e::es) X.env=(false,eval e X.env)::starEach es X.env:=by rfl):PA X (e::es) (tCons te t):=by
 intro pos pins s σ H Q I h
 rw [hs]
 show wpAny _ _ (spliced ((false,eval e X.env)::backTo pos (starEach es X.env))) _ _ s
 refine Calls.spliced_cons (thn (ha pins s σ H _ I h) fun u s1 hq_=>?_)
 obtain ⟨x,H1,I1,r1,q1⟩:=hq_
 exact thn (hr pos pins s1 σ H1 _ I1 q1) fun us s2 ⟨xs,H2,I2,r2,q2⟩=>⟨x::xs,H2,I2,.cons r1 r2,q2⟩
noncomputable def tTup(t:TA):TE:=fun σ H Q=>t σ H fun xs H1=>xs.length≤sizeLine∧∀p,H1 p=none→Q (.ref p) (upd H1 p (.tup xs))
noncomputable def tLst(t:TA):TE:=fun σ H Q=>t σ H fun xs H1=>xs.length≤sizeLine∧∀p,H1 p=none→Q (.ref p) (upd H1 p (.lst xs))
theorem pe_tup{x1}(h:PA X es t):PE X (.Tuple es x1 pos) (tTup t):=by
 intro pins s σ H Q I hq
 refine wpAny_Tuple_spliced (thn (h pos pins s σ H _ I hq) fun us s1 ⟨xs,H1,I1,r,z,q⟩=>⟨by rw [← r.length];exact z,?_⟩)
 have hf:H1 s1.heap.objs.size=none:=I1.hok.fresh (Nat.le_refl _)
 refine ⟨.ref s1.heap.objs.size,upd H1 s1.heap.objs.size (.tup xs),I1.laid (t':=s1.toks) (fun b u e=>Heap.get?_push_of_some _ e) (Nat.le_refl _) ?_,rfl,q _ hf⟩
 exact ⟨z,us,r,⟨_,Heap.get?_push_size _ rfl,rfl,_,rfl⟩⟩
theorem pe_lst(h:PA X es t):PE X (.List es pos) (tLst t):=by
 intro pins s σ H Q I hq
 refine wpAny_List_spliced (thn (h pos pins s σ H _ I hq) fun us s1 ⟨xs,H1,I1,r,z,q⟩=>⟨by rw [← r.length];exact z,?_⟩)
 have hf:H1 s1.heap.objs.size=none:=I1.hok.fresh (Nat.le_refl _)
 refine ⟨.ref s1.heap.objs.size,upd H1 s1.heap.objs.size (.lst xs),I1.laid (t':=s1.toks) (fun b u e=>Heap.get?_push_of_some _ e) (Nat.le_refl _) ?_,rfl,q _ hf⟩
 exact ⟨z,us,0,r,Heap.get?_push_size _ rfl⟩
end
noncomputable abbrev Sp:=List V→Hp→VK→XK→Prop
noncomputable abbrev CXT:=List Env→Hp→Shared→XK→Value→Shared→Prop
structure Env0(P:Program)(w:World)(K:PySem.W.Frag)(mg:Str→Option Value)(base:Heap)(A:Around)(outer:List Env)(s:Shared)(H:Hp):Prop where
 frames:A.frames=some outer
 mod:Mod K mg base
 bs:∀b o,base.get? b=some o→s.heap.get? b=some o∧H b=none
 bsz:base.objs.size≤s.heap.objs.size
 funs:s.heap.FunFrames base outer
 frf:∀b∈frs outer,H b=none
 hok:HOk P w H s.heap
 bare:AllBare s.gens
noncomputable def CE(outer:List Env)(P:Program)(w:World)(H:Hp)(s:Shared)(Q:VK)(u:Value)(s':Shared):Prop:=
 ∃v H',s'.os=s.os∧AllBare s'.gens∧Un (frs outer) [] H H' s.heap s'.heap∧HOk P w H' s'.heap∧RelV v u∧Q v H'
noncomputable def CR(CX:CXT)(outer:List Env)(P:Program)(w:World)(H:Hp)(s:Shared)(Q:VK)(E:XK)(r:Result)(s':Shared):Prop:=
 match r with
 | .ok (.ret u)=>CE outer P w H s Q u s'
 | .ok _=>False
 | .error e=>CX outer H s E e s'
structure FnOk(P:Program)(w:World)(K:PySem.W.Frag)(mg:Str→Option Value)(base:Heap)(CX:CXT)(k:Nat)(f:Addr)(fd:FuncData)(ps:List Str)(sp:Sp):Prop where
 len:∀vs H Q E,sp vs H Q E→vs.length=ps.length
 run:∀(A:Around) (outer:List Env) (s:Shared) (H:Hp) (args:Args) (us:List Value) (vs:List V) (Q:VK) (E:XK),Room k A→Env0 P w K mg base A outer s H→BindsTo s fd args (ps.zip us)→Vals vs us→sp vs H Q E→
  codeAny (model P w) A (.call (.ref f) args) (CR CX outer P w H s Q E) s
theorem FnOk.mono{P:Program}{w:World}{K:PySem.W.Frag}{mg:Str→Option Value}{base:Heap}{CX:CXT}{j k:Nat}{f:Addr}{fd:FuncData}{ps:List Str}{sp:Sp}(F:FnOk P w K mg base CX j f fd ps sp)(h:j≤k):
 FnOk P w K mg base CX k f fd ps sp:=⟨F.len,fun A outer s H args us vs Q E hr=>F.run A outer s H args us vs Q E (hr.mono h)⟩
theorem Env0.make{P:Program}{w:World}{K:PySem.W.Frag}{mg:Str→Option Value}{base:Heap}{A:Around}{outer:List Env}{s:Shared}{H:Hp}(e:Env0 P w K mg base A outer s H)(C:Addr)(us:List Value)(kw:List (Str×Value)):
 Env0 P w K mg base (A.under (.builtin "type.__call__" ⟨.ref C::us,kw⟩)) outer s H:=⟨by first | exact e.frames | (simpa [Around.under,Code.envs,Code.isFrame,pushEnvs] using e.frames),e.mod,e.bs,e.bsz,e.funs,e.frf,e.hok,e.bare⟩
section
variable {X:Cx} {pins:List (Addr×Obj)} {σ:St} {H:Hp} {s s':Shared}
theorem Inv.env0(I:Inv X pins σ H s):Env0 X.prog X.w X.K X.mg X.base X.A X.stack s H:=
 ⟨I.ok.frames,I.ok.mod,I.bs,Nat.le_trans I.ok.bsz I.sz,I.stack,I.stkFree,I.hok,I.bare⟩
theorem Inv.after{Q:VK}{u:Value}(I:Inv X pins σ H s)(h:CE X.stack X.prog X.w H s Q u s'):EP X pins σ Q u s':=by
 obtain ⟨v,H',os,bare,un,hok,r,q⟩:=h
 obtain ⟨hh,g,d,t,os'⟩:=s'
 obtain rfl:os'=s.os:=os
 exact ⟨v,H',I.call (h':=hh) (g':=g) (d':=d) (t':=t) (ch:=[]) un hok bare (fun b z=>absurd z (by simp)),r,q⟩
end
noncomputable def tCall(sp:Sp)(dvs:List V)(E:XK)(t:TA):TE:=fun σ H Q=>t σ H fun vs H1=>sp (vs++dvs) H1 Q E
noncomputable def Binds(K:PySem.W.Frag)(fd:FuncData)(ps:List Str)(ds:List Value):Prop:=
 ∀(s:Shared) (us:List Value),K.In s.heap→(us++ds).length=ps.length→BindsTo s fd ⟨us,[]⟩ (ps.zip (us++ds))
theorem Binds.all{K:PySem.W.Frag}{fd:FuncData}{ps:List Str}(h:∀us:List Value,us.length=ps.length→bindArgs fd ⟨us,[]⟩=pure (ps.zip us)):Binds K fd ps []:=fun s us _ hl=>by
 rw [List.append_nil]at hl ⊢
 exact .of_eq (h us hl)
noncomputable def Passes(CX:CXT)(X:Cx)(E:XK):Prop:=∀(pins:List (Addr×Obj)) (σ:St) (H:Hp) (s:Shared) (e:Value) (s':Shared),Inv X pins σ H s→CX X.stack H s E e s'→X.xe e s'
section
variable {X:Cx} {CX:CXT} {k:Nat} {f C:Addr} {fd:FuncData} {ps:List Str} {sp:Sp} {dvs:List V} {ds:List Value} {E:XK} {x m:Str} {p pos apos:Pos} {e o:Expr} {es:List Expr} {ta:TE} {t:TA}
theorem run_fn{pins:List (Addr×Obj)}{σ:St}{H:Hp}{s:Shared}{Q:VK}{us:List Value}{vs:List V}(F:FnOk X.prog X.w X.K X.mg X.base CX k f fd ps sp)(hr:Room k X.A)(hb:Binds X.K fd ps ds)(hd:Vals dvs ds)(hx:Passes CX X E)
 (I:Inv X pins σ H s) (r:Vals vs us) (h:sp (vs++dvs) H Q E):wpAny (model X.prog X.w) X.A (call (.ref f) us) (EP X pins σ Q) X.xe s:=by
 have r2:Vals (vs++dvs) (us++ds):=r.append hd
 have hl:(us++ds).length=ps.length:=by rw [← r2.length];exact F.len _ _ _ _ h
 refine wpAny_call (codeAny_mono (F.run X.A X.stack s H ⟨us,[]⟩ (us++ds) (vs++dvs) Q E hr I.env0 (hb s us I.kIn hl) r2 h) fun r s' hq=>?_)
 cases r with
 | error e=>exact hx pins σ H s e s' I hq
 | ok fl=>
  cases fl with
  | ret u=>exact I.after hq
  | next=>exact False.elim hq
  | brk=>exact False.elim hq
  | cont=>exact False.elim hq
theorem pe_call(F:FnOk X.prog X.w X.K X.mg X.base CX k f fd ps sp)(hr:Room k X.A)(hg:Gl X x)(hm:X.mg x=some (.ref f))(hk:PySem.W.keepIn X.K (.ref f)=true)(hb:Binds X.K fd ps ds)(hd:Vals dvs ds)(hx:Passes CX X E)
 (ha:PA X (e::es) t) (hdb:(x==("__debug__":Str))=false:=by decide) (he:starEach (e::es) X.env=(false,eval e X.env)::starEach es X.env:=by rfl) (hpl:(backTo pos (starEach es X.env)).any (·.1)=false:=by rfl):
 PE X (.Call (.Name x p) (e::es) [] pos) (tCall sp dvs E t):=by
 intro pins s σ H Q I h
 refine wpAny_Call_Name_kw (ld_glob I hg hm ?_ hdb)
 refine PySem.W.callWith_K (h₀:=X.base) I.ok.mod.kin hk (thn (ha pos pins s σ H _ I h) fun us s1 ⟨vs,H1,I1,r,q⟩=>⟨I1.kIn,?_⟩) he hpl
 exact run_fn F hr hb hd hx I1 r q
structure Mk(K:PySem.W.Frag)(C f:Addr):Prop where
 makes:PySem.W.makesIn K C=true
 init:PySem.W.findIn K (.ref C) "__init__"=some (some (.ref f))
 fn:PySem.W.isFn K (.ref f)=true
 kp:PySem.W.keepIn K (.ref C)=true
end
structure FnScope(N P:List Str)(sc:Scope):Prop where
 kind:sc.kind= .function
 co:sc.isCoroutine=false
 gen:sc.isGenerator=false
 nd:N.Nodup
 pre:N.take P.length=P
 par:∀x∈P,sc.names.lookup x=some .local∨sc.names.lookup x=some .cell
 nofree:∀y∈sc.names,y.2≠ .free
theorem bindL_out{kindOf:Str→Option NameKind}{x:Str}:∀{binds:List (Str×Value)} {m:Str→Option Value},(∀v,(x,v)∉binds)→bindL kindOf binds m x=m x
 | [],_,_=>rfl
 | (n,v)::r,m,h=>by
  unfold bindL
  rw [bindL_out fun w hw=>h w (List.mem_cons_of_mem _ hw)]
  split
  · have:x≠n:=by rintro rfl;exact h v List.mem_cons_self
    simp [this]
  · rfl
theorem bindC_out{kindOf:Str→Option NameKind}{x:Str}:∀{binds:List (Str×Value)} {m:Str→Option Value},(∀v,(x,v)∉binds)→bindC kindOf binds m x=m x
 | [],_,_=>rfl
 | (n,v)::r,m,h=>by
  unfold bindC
  rw [bindC_out fun w hw=>h w (List.mem_cons_of_mem _ hw)]
  split
  · rfl
  · have:x≠n:=by rintro rfl;exact h v List.mem_cons_self
    simp [this]
theorem bindL_get{kindOf:Str→Option NameKind}{x:Str}{v:Value}:∀{P:List Str} {vs:List Value} {i:Nat} {m:Str→Option Value},P.Nodup→P[i]?=some x→vs[i]?=some v→kindOf x=some .local→
 bindL kindOf (P.zip vs) m x=some v
 | [],_,_,_,_,h,_,_=>by simp at h
 | _::_,[],_,_,_,_,h,_=>by simp at h
 | p::P,w::vs,0,m,nd,h1,h2,hk=>by
  simp at h1 h2;subst h1;subst h2
  show bindL kindOf ((p,w)::P.zip vs) m p=_
  unfold bindL
  rw [bindL_out fun v hv=>(List.nodup_cons.mp nd).1 (List.of_mem_zip hv).1,if_pos hk]
  simp
 | p::P,w::vs,i+1,m,nd,h1,h2,hk=>by
  show bindL kindOf ((p,w)::P.zip vs) m x=_
  unfold bindL
  exact bindL_get (i:=i) (List.nodup_cons.mp nd).2 (by simpa using h1) (by simpa using h2) hk
theorem bindC_get{kindOf:Str→Option NameKind}{x:Str}{v:Value}:∀{P:List Str} {vs:List Value} {i:Nat} {m:Str→Option Value},P.Nodup→P[i]?=some x→vs[i]?=some v→kindOf x≠some .local→
 bindC kindOf (P.zip vs) m x=some v
 | [],_,_,_,_,h,_,_=>by simp at h
 | _::_,[],_,_,_,_,h,_=>by simp at h
 | p::P,w::vs,0,m,nd,h1,h2,hk=>by
  simp at h1 h2;subst h1;subst h2
  show bindC kindOf ((p,w)::P.zip vs) m p=_
  unfold bindC
  rw [bindC_out fun v hv=>(List.nodup_cons.mp nd).1 (List.of_mem_zip hv).1,if_neg hk]
  simp
 | p::P,w::vs,i+1,m,nd,h1,h2,hk=>by
  show bindC kindOf ((p,w)::P.zip vs) m x=_
  unfold bindC
  exact bindC_get (i:=i) (List.nodup_cons.mp nd).2 (by simpa using h1) (by simpa using h2) hk
noncomputable def start(N:List Str)(vs:List V):St:=vs.map some++List.replicate (N.length - vs.length) none
noncomputable def cxOf(CX:CXT)(P:Program)(w:World)(K:PySem.W.Frag)(mg:Str→Option Value)(base:Heap)(N:List Str)(qual:Str)(scope:Scope)(f:Addr)(cd:Value)(A:Around)(outer:List Env)(s:Shared)(H:Hp)(E:XK):Cx where
 prog:=P
 w:=w
 K:=K
 mg:=mg
 base:=base
 A:=A.deeper (envOfC qual scope s.heap.objs.size f cd)
 N:=N
 s₀:=s
 H₀:=H
 env:=envOfC qual scope s.heap.objs.size f cd
 outer:=outer
 stack:=envOfC qual scope s.heap.objs.size f cd::outer
 ex:=[]
 calm:=true
 fn:=fun _=>true
 pn:=[]
 xe:=fun e s'=>wpAny (model P w) (A.deeper (envOfC qual scope s.heap.objs.size f cd)) (leaving (envOfC qual scope s.heap.objs.size f cd) e) (fun _ s''=>CX outer H s E e s'') (fun e' s''=>CX outer H s E e' s'') s'
theorem cell_has{sc:Scope}{n:Nat}{x:Str}(h:sc.names.lookup x=some .cell):∃c,(cellsFrom n sc.names []).lookup x=some c:=by
 have q:=PySem.W.cellsFrom_some sc.names n [] (.inl h)
 exact Option.isSome_iff_exists.mp q
theorem inv_start{CX:CXT}{P:Program}{w:World}{K:PySem.W.Frag}{mg:Str→Option Value}{base:Heap}{N ps:List Str}{qual:Str}{scope:Scope}{f:Addr}{cd:Value}{A:Around}{outer:List Env}{s s1:Shared}{H:Hp}{E:XK}{us:List Value}{vs:List V}
 (S:FnScope N ps scope) (hd:A.handled=none) (e0:Env0 P w K mg base A outer s H) (hl:vs.length=ps.length) (r:Vals vs us)
 (x:InCallC s s.heap.objs.size (bindL (envOfC qual scope s.heap.objs.size f cd).kindOf (ps.zip us) fun _=>none) (cellsFrom (s.heap.objs.size+1) scope.names []) (bindC (envOfC qual scope s.heap.objs.size f cd).kindOf (ps.zip us) fun _=>none) s1):
 Inv (cxOf CX P w K mg base N qual scope f cd A outer s H E) [] (start N vs) H s1:=by
 have hpl:ps.length≤N.length:=by have:=congrArg List.length S.pre;rw [List.length_take]at this;omega
 obtain ⟨h1,tk,rfl,hk⟩:=x.done
 have noA:∀b:Addr,b∉(cxOf CX P w K mg base N qual scope f cd A outer s H E).ex:=fun b z=>absurd (show b∈([]:List Addr) from z) (by simp)
 refine ⟨⟨e0.mod,S.kind,rfl,rfl,Nat.le_refl _,fun y z c h1 h2=>?_,fun y hy=>?_,fun y c _ h=>?_,fun _=>hd,Around.frames_deeper e0.frames,.inr ⟨rfl,rfl⟩,fun b z=>absurd z (noA b),e0.bs,e0.bsz,fun b _ _=>noA b,fun b z=>absurd z (noA b),e0.funs,e0.frf⟩,
  rfl,e0.bare,Un.kept hk,⟨_,x.toInCall.ns,fun i y v h1 h2 h3=>?_⟩,fun y c h=>⟨_,x.cell y c h⟩,e0.hok.fresh (Nat.le_refl _),fun y c h=>?_,fun p hp=>absurd (show p∈([]:List (Addr×Obj)) from hp) (by simp),e0.hok.kept hk,?_⟩
 · exact name_of_addr x.apart (PySem.mem_of_lookup h1) (PySem.mem_of_lookup h2)
 · have hy:scope.names.lookup y=some .cell∨scope.names.lookup y=some .free:=hy
   rcases hy with hy | hy
   · exact cell_has hy
   · exact absurd rfl (S.nofree _ (PySem.mem_of_lookup hy))
 · exact Nat.le_of_lt (x.above y c (PySem.mem_of_lookup h))
 · have hi:i < vs.length:=by
    unfold start at h2
    by_cases hi:i < vs.length
    · exact hi
    · rw [List.getElem?_append_right (by simpa using hi)]at h2
      rw [List.getElem?_replicate]at h2
      split at h2 <;> cases h2
   have ha:vs[i]?=some v:=by
    unfold start at h2
    rw [List.getElem?_append_left (by simpa using hi),List.getElem?_map]at h2
    cases e:vs[i]? with
    | none=>rw [e]at h2;cases h2
    | some a=>rw [e]at h2;cases h2;rfl
   obtain ⟨u,hu,rv⟩:=r.get ha
   have hp:ps[i]?=some y:=by
    rw [← S.pre,List.getElem?_take_of_lt (by omega)];exact h1
   have ndP:ps.Nodup:=by rw [← S.pre];exact S.nd.sublist (List.take_sublist _ _)
   refine ⟨u,rv,?_⟩
   rcases S.par y (List.mem_of_getElem? hp) with k | k
   · exact .inl ⟨k,bindL_get ndP hp hu k⟩
   · obtain ⟨c,e⟩:=cell_has (n:=s.heap.objs.size+1) k
     refine .inr ⟨.inl k,c,e,?_⟩
     have q:=x.cell y c e
     rw [bindC_get ndP hp hu (by show scope.names.lookup y≠_;rw [k];decide)]at q
     exact q
 · exact e0.hok.fresh (Nat.le_of_lt (x.above y c (PySem.mem_of_lookup h)))
 · unfold start
   show _=N.length
   rw [List.length_append,List.length_map,List.length_replicate]
   omega
theorem fn_of{CX:CXT}{P:Program}{w:World}{K:PySem.W.Frag}{mg:Str→Option Value}{base:Heap}{k:Nat}{f:Addr}{name qual:Str}{params:Arguments}{body:List Stmt}{scope:Scope}{dV kV doc pm cdv ct oc:Value}{an od:Option Addr}
 {osl:Array (Option Value)} {N ps:List Str} {sp:Sp} (lk:K.lookup f=some ⟨oc,od,.func (PySem.W.fnOf name qual params body scope dV kV doc pm an cdv ct),osl⟩) (hcd:PySem.W.codeIn K cdv qual=true) (S:FnScope N ps scope)
 (len:∀vs H Q E,sp vs H Q E→vs.length=ps.length)
 (hbody:∀(A:Around) (outer:List Env) (s:Shared) (H:Hp) (vs:List V) (Q:VK) (E:XK),Room k (A.deeper (envOfC qual scope s.heap.objs.size f cdv))→sp vs H Q E→
  ∃t,PSs (cxOf CX P w K mg base N qual scope f cdv A outer s H E) body t∧t {nx:=fun _ H'=>Q .non H',rt:=Q} (start N vs) H):
 FnOk P w K mg base CX (k+1) f (PySem.W.fnOf name qual params body scope dV kV doc pm an cdv ct) ps sp:=by
 refine ⟨len,fun A outer s H args us vs Q E hr e0 hb r hsp=>?_⟩
 have hl:=len _ _ _ _ hsp
 have KX:K.In s.heap:=e0.mod.kin.keeps fun b o e=>(e0.bs b o e).1
 have lim:s.heap.NoLimit:=e0.mod.nolimit.keeps fun b o e=>(e0.bs b o e).1
 have hkind:∀y∈ps.zip us,scope.names.lookup y.1=some .local∨(scope.names.lookup y.1=some .cell∧((cellsFrom (s.heap.objs.size+1) scope.names []).lookup y.1).isSome=true):=fun ⟨n,v⟩ hy=>by
  rcases S.par n (List.of_mem_zip hy).1 with q | q
  · exact .inl q
  · exact .inr ⟨q,PySem.W.cellsFrom_some _ _ _ (.inl q)⟩
 refine codeAny_call_function hr.depth (KX _ _ lk) rfl S.co S.gen rfl (PySem.W.codeRec_of KX hcd) (hb _ _ _ _ ?_)
 refine wpAny_newFunctionEnv_cells S.kind hkind fun env he s1 x=>?_
 subst he
 refine ⟨lim.keeps x.toInCall.keep,codeAny_func ?_⟩
 obtain ⟨t,ht,hq⟩:=hbody A outer s H vs Q E (hr.deeper _) hsp
 have I:Inv (cxOf CX P w K mg base N qual scope f cdv A outer s H E) [] (start N vs) H s1:=inv_start S hr.hd e0 hl r x
 refine wpAny_mono (ht [] s1 (start N vs) H _ I hq) (fun fl s' hs=>?_) fun e s' hs=>hs
 have fin:∀{σ':St} {H':Hp} {v:V} {u:Value},Inv (cxOf CX P w K mg base N qual scope f cdv A outer s H E) [] σ' H' s'→RelV v u→Q v H'→CE outer P w H s Q u s':=
  fun {σ' H' v u} J rv q=>⟨v,H',J.os,J.bare,J.base,J.hok,rv,q⟩
 cases fl with
 | ret u=>
  obtain ⟨v,σ',H',J,rv,q⟩:=hs
  exact fin J rv q
 | next=>
  obtain ⟨σ',H',J,q⟩:=hs
  exact fin (v:=V.non) (u:=Value.none) J rfl q
 | brk=>
  obtain ⟨_,_,_,q⟩:=hs
  exact False.elim q
 | cont=>
  obtain ⟨_,_,_,q⟩:=hs
  exact False.elim q
end L2
namespace L2
section
variable {X:Cx} {x:Str} {p pos:Pos} {e:Expr} {es:List Expr} {t:TA} {id T:String} {r:List V→Hp→VK→Prop}
noncomputable def tCB(r:List V→Hp→VK→Prop)(t:TA):TE:=fun σ H Q=>t σ H fun vs H1=>r vs H1 Q
theorem pe_callB(hc:CallR X (.builtin id) r)(hg:Gl X x)(hm:X.mg x=none)(hv:bootBuiltins x=some (.builtin id))(ha:PA X (e::es) t)(hn:x≠"__name__":=by decide)(hdb:(x==("__debug__":Str))=false:=by decide)
 (he:starEach (e::es) X.env=(false,eval e X.env)::starEach es X.env:=by rfl) (hpl:(backTo pos (starEach es X.env)).any (·.1)=false:=by rfl):PE X (.Call (.Name x p) (e::es) [] pos) (tCB r t):=by
 intro pins s σ H Q I h
 refine wpAny_Call_Name_kw (ld_blt I hg hm hv ?_ hn hdb)
 exact PyProof.Rows.callWith_builtin1 (thn (ha pos pins s σ H _ I h) fun us s1 ⟨vs,H1,I1,r1,q1⟩=>hc pins s1 σ H1 vs us Q I1 r1 q1) he hpl
theorem pe_callTy(hc:CallR X (.type T) r)(hg:Gl X x)(hm:X.mg x=none)(hv:bootBuiltins x=some (.type T))(ha:PA X (e::es) t)(hn:x≠"__name__":=by decide)(hdb:(x==("__debug__":Str))=false:=by decide)
 (he:starEach (e::es) X.env=(false,eval e X.env)::starEach es X.env:=by rfl) (hpl:(backTo pos (starEach es X.env)).any (·.1)=false:=by rfl):PE X (.Call (.Name x p) (e::es) [] pos) (tCB r t):=by
 intro pins s σ H Q I h
 refine wpAny_Call_Name_kw (ld_blt I hg hm hv ?_ hn hdb)
 exact PyProof.Rows.callWith_type1 (thn (ha pos pins s σ H _ I h) fun us s1 ⟨vs,H1,I1,r1,q1⟩=>hc pins s1 σ H1 vs us Q I1 r1 q1) he hpl
end
end L2
namespace HT
open PySem PyProof.Rows
section
variable {prog:Program} {w:World} {A:Around} {E:Value→Shared→Prop} {s:Shared}
noncomputable def sIx(n d:Nat):Option Int→Nat
 | none=>d
 | some v=>if v < 0 then (v+(n:Int)).toNat else min v.toNat n
theorem sIx_nat(n d k:Nat):sIx n d (some (k:Int))=min k n:=by
 show (if (k:Int) < 0 then ((k:Int)+(n:Int)).toNat else min (k:Int).toNat n)=min k n
 rw [if_neg (by omega),Int.toNat_natCast]
theorem sIx_le(n d:Nat)(hd:d≤n)(o:Option Int):sIx n d o≤n:=by
 cases o with
 | none=>exact hd
 | some v=>
  show (if v < 0 then (v+(n:Int)).toNat else min v.toNat n)≤n
  by_cases hv:v < 0
  · rw [if_pos hv];omega
  · rw [if_neg hv];exact Nat.min_le_right _ _
theorem clip_eq(v:Int)(n d:Nat):(if v < 0 then max (v+(n:Int)) 0 else min v (n:Int))=((sIx n d (some v):Nat):Int):=by
 show (if v < 0 then max (v+(n:Int)) 0 else min v (n:Int))=(((if v < 0 then (v+(n:Int)).toNat else min v.toNat n):Nat):Int)
 by_cases hv:v < 0
 · simp only [if_pos hv];omega
 · simp only [if_neg hv];omega
theorem adjust_gen(lo hi:Option Int)(n:Nat):Builtin.Slice.sliceAdjust lo hi 1 (n:Int)=(((sIx n 0 lo:Nat):Int),((sIx n n hi:Nat):Int)):=by
 have h1:¬((1:Int) < 0):=by omega
 unfold Builtin.Slice.sliceAdjust
 simp only [h1,if_false]
 refine Prod.ext ?_ ?_
 · cases lo with
   | none=>rfl
   | some v=>exact clip_eq v n 0
 · cases hi with
   | none=>rfl
   | some v=>exact clip_eq v n n
theorem places_gen(i j:Nat):Builtin.Slice.slicePlaces (i:Int) (j:Int) 1=j - i:=by
 unfold Builtin.Slice.slicePlaces
 have h1:(1:Int) > 0:=by omega
 simp only [h1,if_true,Int.ediv_one]
 split <;> omega
theorem slicePart_{v:Value}{o:Option Int}{Q:Option Int→Shared→Prop}(p:IsPart v o)(h:Q o s):wpAny (model prog w) A (Builtin.Slice.slicePartIndex v) Q E s:=by
 cases p with
 | none=>exact slicePart_none h
 | int i t=>exact slicePart_int h
theorem sliceApplied_gen{sl:Addr}{vl vu:Value}{lo hi:Option Int}{n:Nat}{Q:Int×Int×Nat→Shared→Prop}(hs:s.heap.IsSliceOf sl vl vu .none)(pl:IsPart vl lo)(pu:IsPart vu hi)
 (h:Q (((sIx n 0 lo:Nat):Int),1,sIx n n hi - sIx n 0 lo) s):wpAny (model prog w) A (Builtin.Slice.sliceApplied (.ref sl) (pure (n:Int))) Q E s:=by
 obtain ⟨os,hos,hcs,hds⟩:=id hs
 unfold Builtin.Slice.sliceApplied Builtin.Slice.sliceFields
 refine wpAny_bind (wpAny_bind (wpAny_field hos hds (x:=vl) rfl (wpAny_bind (wpAny_field hos hds (x:=vu) rfl (wpAny_bind (wpAny_field hos hds (x:= .none) rfl (wpAny_pure ?_)))))))
 refine wpAny_bind (slicePart_none ?_)
 show wpAny _ _ (if ((1:Int)==0)=true then _ else _) _ _ s
 rw [if_neg (by decide)]
 refine wpAny_bind (slicePart_ pl (wpAny_bind (slicePart_ pu (wpAny_bind (wpAny_pure ?_)))))
 show wpAny _ _ (match Builtin.Slice.sliceAdjust lo hi 1 (n:Int) with | (lo,hi)=>pure (lo,(1:Int),Builtin.Slice.slicePlaces lo hi 1)) _ _ s
 rw [adjust_gen lo hi n]
 show wpAny _ _ (pure (((sIx n 0 lo:Nat):Int),(1:Int),Builtin.Slice.slicePlaces ((sIx n 0 lo:Nat):Int) ((sIx n n hi:Nat):Int) 1)) _ _ s
 rw [places_gen]
 exact wpAny_pure h
theorem pick_gen(xs:Array Value)(i k:Nat):((List.range k).filterMap fun (m:Nat)=>xs[((i:Int)+(m:Int) * 1).toNat]?).toArray=((xs.toList.drop i).take k).toArray:=by
 have e:(fun (m:Nat)=>xs[((i:Int)+(m:Int) * 1).toNat]?)=fun m=>xs[i+m]?:=by
  funext m
  have:((i:Int)+(m:Int) * 1).toNat=i+m:=by omega
  rw [this]
 rw [e]
 have:=pick_run xs i k
 rw [List.filterMap_map]at this
 have e2:((fun x=>xs[x]?)∘fun x=>i+x)=fun m=>xs[i+m]?:=rfl
 rw [e2]at this
 rw [this]
theorem getItem_tuple_cut{t sl:Addr}{items:Array Value}{vl vu:Value}{lo hi:Option Int}{Q:Value→Shared→Prop}(ht:IsTup s.heap t items)(hs:s.heap.IsSliceOf sl vl vu .none)(pl:IsPart vl lo)(pu:IsPart vu hi)
 (hw:¬(sIx items.size 0 lo=0∧sIx items.size items.size hi=items.size))
 (h:Q (.ref s.heap.objs.size) {s with heap:=s.heap.push {cls:= .type "tuple",data:= .seq ((items.toList.drop (sIx items.size 0 lo)).take (sIx items.size items.size hi - sIx items.size 0 lo)).toArray}})
 (hsz:items.size≤sizeLine):wpAny (model prog w) A (getItem (.ref t) (.ref sl)) Q E s:=by
 have htake:sizeOk (.seq ((items.toList.drop (sIx items.size 0 lo)).take (sIx items.size items.size hi - sIx items.size 0 lo)).toArray):=by
  show ((items.toList.drop (sIx items.size 0 lo)).take (sIx items.size items.size hi - sIx items.size 0 lo)).toArray.size≤sizeLine
  rw [List.size_toArray,List.length_take,List.length_drop,Array.length_toList]
  omega
 have hj:sIx items.size items.size hi≤items.size:=sIx_le _ _ (Nat.le_refl _) hi
 obtain ⟨os,hos,hcs,hds⟩:=id hs
 have hTs:s.TypeIs (.ref sl) "slice":=⟨os,hos,hcs⟩
 unfold getItem
 try with_reducible refine wpAny_holding ?_
 first | refine wpAny_bind (wpAny_pure ?_) | skip
 refine wpAny_bind (wpAny_sequenceKey ht.typeIs (by decide) ?_)
 refine wpAny_bind (wpAny_callSpecial?_slot (name:=Str.ofString "__getitem__") ht.typeIs PyProof.Rows.slot_tuple_getitem
  (wpAny_call_entry PyProof.Rows.slot_tuple_getitem ht.typeIs entry_tuple_getitem ?_ (args_tuple_getitem _ _)))
 show wpAny _ _ (Builtin.Tuple.tupleItemsOf (.ref t) >>=_) _ _ s
 refine wpAny_bind (tupleItemsOf_ ht ?_)
 refine wpAny_bind (wpAny_typeOf hTs ?_)
 rw [if_pos (by decide)]
 refine wpAny_bind (sliceApplied_gen hs pl pu ?_)
 have hno:¬((((sIx items.size 0 lo:Nat):Int)==0 && (1:Int)==1 && (sIx items.size items.size hi - sIx items.size 0 lo)==items.size)=true):=by
  intro q
  rw [Bool.and_eq_true,Bool.and_eq_true]at q
  have q1:((sIx items.size 0 lo:Nat):Int)=0:=eq_of_beq q.1.1
  have q2:sIx items.size items.size hi - sIx items.size 0 lo=items.size:=eq_of_beq q.2
  exact hw ⟨by omega,by omega⟩
 show wpAny _ _ (if (((sIx items.size 0 lo:Nat):Int)==0 && (1:Int)==1 && (sIx items.size items.size hi - sIx items.size 0 lo)==items.size)=true then _ else _) _ _ s
 rw [if_neg hno,pick_gen]
 first
  | exact wpAny_bind (m:=Builtin.Tuple.tupleExact _) (wpAny_newObj_type (wpAny_pure ⟨_,rfl,wpAny_pure h⟩) htake)
  | exact wpAny_bind (m:=Builtin.Tuple.tupleExact _) (wpAny_newObj_type (wpAny_bind (wpAny_pure (wpAny_pure ⟨_,rfl,wpAny_pure h⟩))) htake)
  | exact wpAny_bind (wpAny_bind (m:=Builtin.Tuple.tupleExact _) (wpAny_newObj_type (wpAny_pure (wpAny_pure ⟨_,rfl,wpAny_pure h⟩)) htake))
  | exact wpAny_bind (wpAny_bind (m:=Builtin.Tuple.tupleExact _) (wpAny_newObj_type (wpAny_pure ⟨_,rfl,wpAny_pure h⟩) htake))
end
end HT
namespace L2
noncomputable abbrev TO:=St→Hp→(Option Int→Hp→Prop)→Prop
noncomputable def PO(X:Cx)(e:Option Expr)(t:TO):Prop:=
 ∀(pins:List (Addr×Obj)) (s:Shared) (σ:St) (H:Hp) (Q:Option Int→Hp→Prop),Inv X pins σ H s→t σ H Q→
   wpAny (model X.prog X.w) X.A (evalPart e X.env) (fun u s'=>∃o H',Inv X pins σ H' s'∧IsPart u o∧Q o H') X.xe s
noncomputable def tNoPart:TO:=fun _ H Q=>Q none H
noncomputable def tPart(t:TE):TO:=fun σ H Q=>t σ H fun x H1=>∃i,x= .int i∧Q (some i) H1
section
variable {X:Cx} {e:Expr} {te:TE} {lo hi:Option Expr} {tl th:TO} {pos p2:Pos}
theorem po_none:PO X none tNoPart:=by
 intro pins s σ H Q I h
 rw [evalPart_none]
 exact wpAny_pure ⟨none,H,I,.none,h⟩
theorem po_some(h:PE X e te):PO X (some e) (tPart te):=by
 intro pins s σ H Q I hw
 rw [evalPart_some]
 refine thn (h pins s σ H _ I hw) fun u s1 hq_=>?_
 obtain ⟨x,H1,I1,r1,q1⟩:=hq_
 obtain ⟨i,rfl,q⟩:=q1
 obtain ⟨t,rfl⟩:=r1
 exact ⟨some i,H1,I1,.int i t,q⟩
noncomputable def SlR(X:Cx)(r:V→Option Int→Option Int→Hp→VK→Prop):Prop:=
 ∀(pins:List (Addr×Obj)) (s:Shared) (σ:St) (H:Hp) (x:V) (v vl vu:Value) (lo hi:Option Int) (sl:Addr) (Q:VK),Inv X pins σ H s→RelV x v→s.heap.IsSliceOf sl vl vu .none→IsPart vl lo→IsPart vu hi→r x lo hi H Q→
   ∃T id,typeLookup (.type T) "__getitem__"=pure (some (.builtin id))∧s.TypeIs v T∧wpAny (model X.prog X.w) X.A (getItem v (.ref sl)) (EP X pins σ Q) X.xe s
noncomputable def tSl(r:V→Option Int→Option Int→Hp→VK→Prop)(te:TE)(tl th:TO):TE:=fun σ H Q=>te σ H fun x H1=>tl σ H1 fun l H2=>th σ H2 fun u H3=>r x l u H3 Q
theorem pe_slice{r:V→Option Int→Option Int→Hp→VK→Prop}(hr:SlR X r)(he:PE X e te)(hl:PO X lo tl)(hu:PO X hi th):PE X (.Subscript e (.Slice lo hi none p2) pos) (tSl r te tl th):=by
 intro pins s σ H Q I h
 refine Subscript_ (thn (he pins s σ H _ I h) fun v s1 hq_=>?_)
 obtain ⟨x,H1,I1,r1,q1⟩:=hq_
 refine wpAny_Slice (thn (hl pins s1 σ H1 _ I1 q1) fun vl s2 ⟨l,H2,I2,pl,q2⟩=>thn (hu pins s2 σ H2 _ I2 q2) fun vu s3 hq_=>?_)
 obtain ⟨u,H3,I3,pu,q3⟩:=hq_
 rw [evalPart_none]
 refine wpAny_pure ?_
 have I4:Inv X pins σ H3 {s3 with heap:=s3.heap.push {cls:= .type "slice",data:= .fields #[vl,vu,.none]}}:=I3.kept (t':=s3.toks) fun b ob q=>Heap.get?_push_of_some _ q
 obtain ⟨T,id,hT,ht,hg⟩:=hr pins {s3 with heap:=s3.heap.push {cls:= .type "slice",data:= .fields #[vl,vu,.none]}} σ H3 x v vl vu l u s3.heap.objs.size Q I4 r1 (Heap.IsSliceOf.new ..) pl pu q3
 show wpAny (model X.prog X.w) X.A (subscriptTail e (.Slice lo hi none p2) v (.ref s3.heap.objs.size)) (EP X pins σ Q) X.xe {s3 with heap:=s3.heap.push {cls:= .type "slice",data:= .fields #[vl,vu,.none]}}
 exact tail_any (ops:=[.ref s3.heap.objs.size,v]) ht hT hg (by with_unfolding_all rfl)
noncomputable def cutV(xs:List V)(lo hi:Option Int):List V:=(xs.drop (HT.sIx xs.length 0 lo)).take (HT.sIx xs.length xs.length hi - HT.sIx xs.length 0 lo)
theorem cutV_length(xs:List V)(lo hi:Option Int):(cutV xs lo hi).length≤xs.length:=by
 unfold cutV
 rw [List.length_take,List.length_drop]
 omega
noncomputable def rSlT(K:PySem.W.Frag):V→Option Int→Option Int→Hp→VK→Prop:=fun x lo hi H Q=>∃a xs,x= .ref a∧SqT K H a xs∧
 ¬(HT.sIx xs.length 0 lo=0∧HT.sIx xs.length xs.length hi=xs.length)∧∀p,H p=none→Q (.ref p) (upd H p (.tup (cutV xs lo hi)))
theorem sl_tup:SlR X (rSlT X.K):=by
 intro pins s σ H x v vl vu lo hi sl Q I rx hs pl pu h
 obtain ⟨a,xs,rfl,hx,hw,q⟩:=h
 cases rx
 obtain ⟨its,r,ht,hz⟩:=I.tuple hx
 have hlen:its.toArray.size=xs.length:=by rw [List.size_toArray];exact r.length.symm
 refine ⟨"tuple",_,PyProof.Rows.slot_tuple_getitem.lookup,ht.typeIs,?_⟩
 refine HT.getItem_tuple_cut ht hs pl pu (by rw [hlen];exact hw) ?_ (by rw [hlen];exact hz)
 rw [hlen]
 refine ⟨.ref s.heap.objs.size,_,I.laid (t':=s.toks) (o:= .tup (cutV xs lo hi)) (fun b ob q=>Heap.get?_push_of_some _ q) (Nat.le_refl _) ?_,rfl,q _ (I.hok.fresh (Nat.le_refl _))⟩
 exact ⟨Nat.le_trans (cutV_length xs lo hi) hz,_,(r.drop (HT.sIx xs.length 0 lo)).take (HT.sIx xs.length xs.length hi - HT.sIx xs.length 0 lo),IsTup.new _ _⟩
end
end L2
namespace L2
noncomputable def ixN(n:Nat)(i:Int):Option Nat:=if 0≤i then (if i < n then some i.toNat else none) else if -(n:Int)≤i then some (i+n).toNat else none
noncomputable def atI{α:Type}(xs:List α)(i:Int):Option α:=(ixN xs.length i).bind fun j=>xs[j]?
theorem ixN_seq{n:Nat}{i:Int}{j:Nat}(h:ixN n i=some j):seqIndex? i n=some j∧j < n∧-(n:Int)≤i∧i < n:=by
 unfold ixN at h
 by_cases h0:0≤i
 · rw [if_pos h0]at h
   by_cases h1:i < n
   · rw [if_pos h1]at h
     have e:i.toNat=j:=Option.some.inj h
     exact ⟨by rw [seqIndex_of h0 h1,e],by omega,by omega,h1⟩
   · rw [if_neg h1]at h;cases h
 · rw [if_neg h0]at h
   by_cases h1:-(n:Int)≤i
   · rw [if_pos h1]at h
     have e:(i+n).toNat=j:=Option.some.inj h
     exact ⟨by rw [seqIndex_neg (by omega) h1,e],by omega,h1,by omega⟩
   · rw [if_neg h1]at h;cases h
theorem atI_get{α:Type}{xs:List α}{i:Int}{v:α}(h:atI xs i=some v):∃j,seqIndex? i xs.length=some j∧xs[j]?=some v∧j < xs.length∧-(xs.length:Int)≤i∧i < xs.length:=by
 unfold atI at h
 cases e:ixN xs.length i with
 | none=>rw [e]at h;cases h
 | some j=>
  rw [e]at h
  obtain ⟨h1,h2,h3,h4⟩:=ixN_seq e
  exact ⟨j,h1,h,h2,h3,h4⟩
theorem atI_nat{α:Type}{xs:List α}{j:Nat}{v:α}(h:xs[j]?=some v):atI xs (j:Int)=some v:=by
 have hj:j < xs.length:=(List.getElem?_eq_some_iff.mp h).1
 have e:ixN xs.length (j:Int)=some j:=by
  unfold ixN
  rw [if_pos (by omega),if_pos (by omega)];simp
 unfold atI;rw [e];exact h
noncomputable def PlainIx(b:Expr):Prop:=∀o i,subscripted b false o i=operate [o,i] (getItem o i)
noncomputable def IxR(X:Cx)(r:R2):Prop:=
 ∀(value slice:Expr) (pins:List (Addr×Obj)) (s:Shared) (σ:St) (H:Hp) (x y:V) (v u:Value) (Q:VK),Inv X pins σ H s→RelV x v→RelV y u→r x y H Q→
   subscripted slice false v u=operate [v,u] (getItem v u)→wpAny (model X.prog X.w) X.A (subscriptTail value slice v u) (EP X pins σ Q) X.xe s
noncomputable def MtR(X:Cx)(id:String)(r:V→List V→Hp→VK→Prop):Prop:=
 ∀(pins:List (Addr×Obj)) (s:Shared) (σ:St) (H:Hp) (x:V) (xs:List V) (v:Value) (us:List Value) (Q:VK),Inv X pins σ H s→RelV x v→Vals xs us→r x xs H Q→
   wpAny (model X.prog X.w) X.A (call (.builtin id) (v::us)) (EP X pins σ Q) X.xe s
section
variable {X:Cx} {a b:Expr} {ta tb:TE} {pos:Pos}
theorem pe_ix{r:R2}(hr:IxR X r)(ha:PE X a ta)(hb:PE X b tb)(hs:PlainIx b):PE X (.Subscript a b pos) (tOp r ta tb):=by
 intro pins s σ H Q I h
 exact Subscript_ (binT ha hb I h fun v u s2 x y H2 I2 rx ry q=>hr a b pins s2 σ H2 x y v u Q I2 rx ry q (hs _ _))
noncomputable def rIxL(K:PySem.W.Frag):R2:=fun x y H Q=>∃p xs i v,x= .ref p∧y= .int i∧SqL K H p xs∧atI xs i=some v∧Q v H
noncomputable def rIxT(K:PySem.W.Frag):R2:=fun x y H Q=>∃p xs i v,x= .ref p∧y= .int i∧SqT K H p xs∧atI xs i=some v∧Q v H
noncomputable def rIxS:R2:=fun x y H Q=>∃z i c,x= .str z∧y= .int i∧z.length≤sizeLine∧atI z.cps.toList i=some c∧Q (.str ⟨#[c]⟩) H
theorem ix_list:IxR X (rIxL X.K):=by
 intro value slice pins s σ H x y v u Q I rx ry h hs
 obtain ⟨p,xs,i,z,rfl,rfl,hq,he,q⟩:=h
 cases rx
 obtain ⟨t,rfl⟩:=ry
 obtain ⟨its,r,pl,hz⟩:=I.list hq
 obtain ⟨j,h1,h2,h3,h4,h5⟩:=atI_get he
 obtain ⟨w,ew,rw'⟩:=r.get h2
 have hl:=r.length
 have hn:=line63
 have fin:EP X pins σ Q w s:=⟨z,H,I,rw',q⟩
 by_cases h0:0≤i
 · have hj:i.toNat=j:=by
    rw [seqIndex_of h0 h5]at h1
    exact Option.some.inj h1
   exact item_listR pl.isList h0 (by omega) (by rw [hj];simpa using ew) fin hs
 · have hj:(i+(its.toArray.size:Int)).toNat=j:=by
    rw [seqIndex_neg (by omega) h4]at h1
    rw [List.size_toArray,← hl]
    exact Option.some.inj h1
   exact subscriptTail_builtinR (x:=w) pl.isList.typeIs slot_list_getitem.lookup
    (wpAny_getItem_list_neg (Q:=fun r s'=>r=w∧EP X pins σ Q r s') pl.isList (by omega) (by rw [List.size_toArray] <;> omega) (by omega) (by rw [hj];simpa using ew) ⟨rfl,fin⟩) hs
theorem ix_tup:IxR X (rIxT X.K):=by
 intro value slice pins s σ H x y v u Q I rx ry h hs
 obtain ⟨p,xs,i,z,rfl,rfl,hq,he,q⟩:=h
 cases rx
 obtain ⟨t,rfl⟩:=ry
 obtain ⟨its,r,pl,hz⟩:=I.tuple hq
 obtain ⟨j,h1,h2,h3,h4,h5⟩:=atI_get he
 obtain ⟨w,ew,rw'⟩:=r.get h2
 have hl:=r.length
 have hn:=line63
 have fin:EP X pins σ Q w s:=⟨z,H,I,rw',q⟩
 exact subscriptTail_builtinR (x:=w) pl.typeIs slot_tuple_getitem.lookup
  (getItem_tuple (j:=j) (Q:=fun r s'=>r=w∧EP X pins σ Q r s') pl (by omega) (by omega) (by rw [List.size_toArray,← hl];exact h1) (by simpa using ew) ⟨rfl,fin⟩) hs
theorem ix_str:IxR X rIxS:=by
 intro value slice pins s σ H x y v u Q I rx ry h hs
 obtain ⟨z,i,c,rfl,rfl,hz,he,q⟩:=h
 obtain ⟨t,rfl⟩:=rx
 obtain ⟨t',rfl⟩:=ry
 obtain ⟨j,h1,h2,h3,h4,h5⟩:=atI_get he
 have hl:z.cps.toList.length=z.length:=by simp [Str.length]
 rw [hl]at h1 h4 h5
 have hn:=line63
 exact tail_any (typeIs_str s z t) slot_str_getitem.lookup (getItem_str (c:=c) (by
  have e1:decide (i < -(2 ^ 63:Int))=false:=decide_eq_false (by omega)
  have e2:decide (i ≥ 2 ^ 63)=false:=decide_eq_false (by omega)
  rw [e1,e2,Bool.or_false]) (by rw [h1];simpa using h2) ⟨.str ⟨#[c]⟩,H,I.tok _,⟨_,rfl⟩,q⟩) hs
theorem mapSeq_set(its:List Value)(n j:Nat)(u:Value):Obj.mapSeq (·.setIfInBounds j u) {cls:= .type "list",data:= .seq its.toArray n}={cls:= .type "list",data:= .seq (its.set j u).toArray n}:=by
 simp [Obj.mapSeq]
theorem Inv.lst{pins:List (Addr×Obj)}{σ:St}{H:Hp}{s:Shared}{p:Addr}{xs:List V}(I:Inv X pins σ H s)(h:H p=some (.lst xs)):
 ∃(its:List Value) (n:Nat),Vals xs its∧s.heap.get? p=some {cls:= .type "list",data:= .seq its.toArray n}∧xs.length≤sizeLine:=by
 obtain ⟨z,its,n,r,e⟩:=I.hok p _ h
 exact ⟨its,n,r,e,z⟩
theorem Inv.lstUpd{pins:List (Addr×Obj)}{σ:St}{H:Hp}{s:Shared}{p:Addr}{xs ys:List V}{its its':List Value}{n n':Nat}{f:Obj→Obj}(I:Inv X pins σ H s)(h:H p=some (.lst xs))
 (ho:s.heap.get? p=some {cls:= .type "list",data:= .seq its.toArray n}) (hf:f {cls:= .type "list",data:= .seq its.toArray n}={cls:= .type "list",data:= .seq its'.toArray n'}) (r:Vals ys its') (hz:ys.length≤sizeLine) (t:Nat):
 Inv X pins σ (upd H p (.lst ys)) {s with heap:=s.heap.update p f,toks:=t}:=by
 have e:(s.heap.update p f).get? p=some {cls:= .type "list",data:= .seq its'.toArray n'}:=by
  rw [Heap.get?_update_self f ho (by rw [hf] <;> rfl),hf]
 refine I.write (x:=p) (e:=p) (by rw [h];trivial) (.inl rfl) (fun b u hb q=>(Heap.get?_update_other _ _ (Ne.symm hb)).trans q) ⟨_,e⟩ ?_
 exact ⟨hz,its',n',r,e⟩
noncomputable def rSetL:V→V→V→Hp→(Hp→Prop)→Prop:=fun o i v H Q=>∃p xs k j,o= .ref p∧i= .int k∧H p=some (.lst xs)∧ixN xs.length k=some j∧Q (upd H p (.lst (xs.set j v)))
theorem set_list:PSet X rSetL:=by
 intro pins s σ H o i v ov iv u Q I ro ri rv h
 obtain ⟨p,xs,k,j,rfl,rfl,hp,hj,q⟩:=h
 cases ro
 obtain ⟨t,rfl⟩:=ri
 obtain ⟨its,n,r,ho,hz⟩:=I.lst hp
 obtain ⟨h1,h2,h3,h4⟩:=ixN_seq hj
 have hl:=r.length
 have hn:=line63
 have I':Inv X pins σ (upd H p (.lst (xs.set j v))) {s with heap:=s.heap.update p (Obj.mapSeq (·.setIfInBounds j u))}:=
  I.lstUpd hp ho (mapSeq_set its n j u) (r.set rv j) (by rw [List.length_set];exact hz) s.toks
 by_cases h0:0≤k
 · have hk:k.toNat=j:=by
    rw [seqIndex_of h0 h4]at h1
    exact Option.some.inj h1
   exact PySem.W.ki_setAt ho h0 (by omega) (by rw [List.size_toArray,← hl];exact h4) (by rw [hk];exact ⟨_,I',q⟩)
 · have hk:(k+(its.toArray.size:Int)).toNat=j:=by
    rw [seqIndex_neg (by omega) h3]at h1
    rw [List.size_toArray,← hl]
    exact Option.some.inj h1
   exact PySem.W.ki_setBack ho (by omega) (by rw [List.size_toArray,← hl];exact h3) (by omega) (by rw [hk];exact ⟨_,I',q⟩)
theorem slice_bounds(lo hi:Option Int)(n:Nat):(sliceBounds lo hi none n).1=((HT.sIx n 0 lo:Nat):Int)∧(sliceBounds lo hi none n).2.1=((HT.sIx n n hi:Nat):Int)∧(sliceBounds lo hi none n).2.2=1:=by
 refine ⟨?_,?_,rfl⟩
 · cases lo with
   | none=>simp [sliceBounds,HT.sIx]
   | some i=>
    simp only [sliceBounds,HT.sIx,Option.getD_none,show (1:Int) > 0 by decide,if_true]
    by_cases h:i < 0
    · simp only [h,if_true] <;> omega
    · simp only [h,if_false] <;> omega
 · cases hi with
   | none=>simp [sliceBounds,HT.sIx]
   | some i=>
    simp only [sliceBounds,HT.sIx,Option.getD_none,show (1:Int) > 0 by decide,if_true]
    by_cases h:i < 0
    · simp only [h,if_true] <;> omega
    · simp only [h,if_false] <;> omega
theorem slicePick_cut(its:List Value)(lo hi:Option Int):slicePick its.toArray lo hi none=((its.drop (HT.sIx its.length 0 lo)).take (HT.sIx its.length its.length hi - HT.sIx its.length 0 lo)).toArray:=by
 obtain ⟨h1,h2,h3⟩:=slice_bounds lo hi its.toArray.size
 unfold slicePick
 rw [h1,h2,h3]
 simp only [sliceRange_one,pick_run,List.size_toArray] <;> rfl
noncomputable def rSlL(K:PySem.W.Frag):V→Option Int→Option Int→Hp→VK→Prop:=fun x lo hi H Q=>∃a xs,x= .ref a∧SqL K H a xs∧∀p,H p=none→Q (.ref p) (upd H p (.lst (cutV xs lo hi)))
theorem sl_list:SlR X (rSlL X.K):=by
 intro pins s σ H x v vl vu lo hi sl Q I rx hs pl pu h
 obtain ⟨a,xs,rfl,hx,q⟩:=h
 cases rx
 obtain ⟨its,r,ht,hz⟩:=I.list hx
 have hlen:=r.length
 refine ⟨"list",_,slot_list_getitem.lookup,ht.isList.typeIs,?_⟩
 refine wpAny_getItem_list_slice ht.isList hs pl pu .none (by simp) ?_ (by rw [List.size_toArray] <;> omega)
 rw [slicePick_cut,← hlen]
 refine ⟨.ref s.heap.objs.size,_,I.laid (t':=s.toks) (o:= .lst (cutV xs lo hi)) (fun b ob q=>Heap.get?_push_of_some _ q) (Nat.le_refl _) ?_,rfl,q _ (I.hok.fresh (Nat.le_refl _))⟩
 exact ⟨Nat.le_trans (cutV_length xs lo hi) hz,_,0,(r.drop (HT.sIx xs.length 0 lo)).take (HT.sIx xs.length xs.length hi - HT.sIx xs.length 0 lo),Heap.get?_push_size _ rfl⟩
noncomputable def flatV:V→Bool
 | .non=>true
 | .bl _=>true
 | .int _=>true
 | .str _=>true
 | _=>false
noncomputable def eqV:V→V→Bool
 | .non,.non=>true
 | .bl a,.bl b=>a==b
 | .bl a,.int b=>(if a then 1 else 0)==b
 | .int a,.bl b=>a==(if b then 1 else 0)
 | .int a,.int b=>a==b
 | .str a,.str b=>a==b
 | _,_=>false
theorem eqAt_V{A:Around}{s:Shared}{y x:V}{u v:Value}(ry:RelV y u)(rx:RelV x v)(fy:flatV y=true)(fx:flatV x=true):SeqAt.EqAt A s u v (eqV y x):=by
 cases y with
 | non=>
  cases ry
  cases x with
  | non=>cases rx;exact SeqAt.EqAt.same _
  | bl b=>cases rx;exact SeqAt.EqAt.none_bool b
  | int b=>obtain ⟨t,rfl⟩:=rx;exact SeqAt.EqAt.none_int b t
  | str b=>obtain ⟨t,rfl⟩:=rx;exact SeqAt.EqAt.none_str b t
  | _=>exact absurd (show false=true from fx) Bool.false_ne_true
 | bl a=>
  cases ry
  cases x with
  | non=>cases rx;exact SeqAt.EqAt.bool_none a
  | bl b=>cases rx;exact SeqAt.EqAt.bool_bool a b
  | int b=>obtain ⟨t,rfl⟩:=rx;exact SeqAt.EqAt.bool_int a b t
  | str b=>obtain ⟨t,rfl⟩:=rx;exact SeqAt.EqAt.bool_str a b t
  | _=>exact absurd (show false=true from fx) Bool.false_ne_true
 | int a=>
  obtain ⟨t',rfl⟩:=ry
  cases x with
  | non=>cases rx;exact SeqAt.EqAt.int_none a t'
  | bl b=>cases rx;exact SeqAt.EqAt.int_bool a t' b
  | int b=>obtain ⟨t,rfl⟩:=rx;exact SeqAt.EqAt.int_int a t' b t
  | str b=>obtain ⟨t,rfl⟩:=rx;exact SeqAt.EqAt.int_str a t' b t
  | _=>exact absurd (show false=true from fx) Bool.false_ne_true
 | str a=>
  obtain ⟨t',rfl⟩:=ry
  cases x with
  | non=>cases rx;exact SeqAt.EqAt.str_none a t'
  | bl b=>cases rx;exact SeqAt.EqAt.str_bool a t' b
  | int b=>obtain ⟨t,rfl⟩:=rx;exact SeqAt.EqAt.str_int a t' b t
  | str b=>obtain ⟨t,rfl⟩:=rx;exact SeqAt.EqAt.str_str a t' b t
  | _=>exact absurd (show false=true from fx) Bool.false_ne_true
 | _=>exact absurd (show false=true from fy) Bool.false_ne_true
theorem call_len_seq:CallR X (.builtin "len") (fun xs H Q=>∃p ys,xs=[.ref p]∧(SqL X.K H p ys∨SqT X.K H p ys)∧Q (.int ys.length) H):=by
 intro pins s σ H xs us Q I r h
 obtain ⟨p,ys,rfl,hq,q⟩:=h
 obtain ⟨u,rfl,rx⟩:=vals1 r
 cases rx
 have hn:=line63
 rcases hq with hq | hq
 · obtain ⟨its,r',pl,hz⟩:=I.list hq
   have hlen:=r'.length
   exact Calls.call_len_list pl.isList (by simp only [List.size_toArray] <;> omega) ⟨.int ys.length,H,I.tok _,⟨s.toks+1,by rw [List.size_toArray,hlen]⟩,q⟩
 · obtain ⟨its,r',pl,hz⟩:=I.tuple hq
   have hlen:=r'.length
   exact len_tuple pl (by simp only [List.size_toArray] <;> omega) ⟨.int ys.length,H,I.tok _,⟨s.toks+1,by rw [List.size_toArray,hlen]⟩,q⟩
theorem call_len_str:CallR X (.builtin "len") (fun xs H Q=>∃z,xs=[.str z]∧z.length≤sizeLine∧Q (.int z.length) H):=by
 intro pins s σ H xs us Q I r h
 obtain ⟨z,rfl,hz,q⟩:=h
 obtain ⟨u,rfl,t,rfl⟩:=vals1 r
 have hn:=line63
 exact len_str (by omega) ⟨.int z.length,H,I.tok _,⟨_,rfl⟩,q⟩
theorem call_list_of:CallR X (.type "list") (fun xs H Q=>∃p ys,xs=[.ref p]∧(SqL X.K H p ys∨SqT X.K H p ys)∧∀l,H l=none→Q (.ref l) (upd H l (.lst ys))):=by
 intro pins s σ H xs us Q I r h
 obtain ⟨p,ys,rfl,hq,q⟩:=h
 obtain ⟨u,rfl,rx⟩:=vals1 r
 cases rx
 have fin:∀(its:List Value),Vals ys its→ys.length≤sizeLine→∀(h':Heap) (c':Nat),(∀b o',s.heap.get? b=some o'→h'.get? b=some o')→
  h'.get? s.heap.objs.size=some {cls:= .type "list",dict:=none,data:= .seq its.toArray c',slots:=#[]}→EP X pins σ Q (.ref s.heap.objs.size) {s with heap:=h'}:=fun its r' hz h' c' kp e=>
  ⟨.ref s.heap.objs.size,_,I.laid (t':=s.toks) kp (Nat.le_refl _) (show ObjOk X.prog X.w _ h' _ (.lst ys) from ⟨hz,its,c',r',e⟩),rfl,q _ (I.hok.fresh (Nat.le_refl _))⟩
 rcases hq with hq | hq
 · obtain ⟨its,r',pl,hz⟩:=I.list hq
   have hlen:=r'.length
   obtain ⟨o,ho,hc,n,hd⟩:=pl.isList
   exact call_list_seq p (.inl rfl) ho hc hd (fun h' c' kp e=>fin its r' hz h' c' kp e) (by simp only [List.size_toArray] <;> omega)
 · obtain ⟨its,r',pl,hz⟩:=I.tuple hq
   have hlen:=r'.length
   obtain ⟨o,ho,hc,n,hd⟩:=pl
   exact call_list_seq p (.inr rfl) ho hc hd (fun h' c' kp e=>fin its r' hz h' c' kp e) (by simp only [List.size_toArray] <;> omega)
noncomputable def tyV(K:PySem.W.Frag)(T:String)(x:V)(H:Hp):Prop:=match x with
 | .str _=>T="str"
 | .int _=>T="int"
 | .ref p=>(T="list"∧∃xs,SqL K H p xs)∨(T="tuple"∧∃o,K.lookup p=some o∧o.cls= .type "tuple"∧o.dict=none)∨
  (T="dict"∧((∃kvs,H p=some (.dK kvs))∨∃kvs,H p=some (.dT kvs)))∨(T="set"∧∃S n,H p=some (.set S n))
 | _=>False
theorem tyV_is{pins:List (Addr×Obj)}{σ:St}{H:Hp}{s:Shared}{T:String}{x:V}{v:Value}(I:Inv X pins σ H s)(r:RelV x v)(ty:tyV X.K T x H):
 s.TypeIs v T∧∀a,v= .ref a→∃ob,s.heap.get? a=some ob∧ob.dict=none:=by
 cases x with
 | str z=>
  obtain ⟨t,rfl⟩:=r
  cases (show T="str" from ty)
  exact ⟨typeIs_str s z t,fun _ e=>nomatch e⟩
 | int i=>
  obtain ⟨t,rfl⟩:=r
  cases (show T="int" from ty)
  exact ⟨typeIs_int s i t,fun _ e=>nomatch e⟩
 | ref p=>
  cases r
  rcases ty with ⟨rfl,xs,hq⟩ | ⟨rfl,o,hk,hc,hd⟩ | ⟨rfl,hk⟩ | ⟨rfl,S,n,hk⟩
  · obtain ⟨its,_,pl,_⟩:=I.list hq
    refine ⟨pl.isList.typeIs,fun a e=>?_⟩
    cases e
    obtain ⟨o,n,e,c,hd,_⟩:=pl
    exact ⟨o,e,hd⟩
  · refine ⟨⟨o,I.kIn p o hk,hc⟩,fun a e=>?_⟩
    cases e
    exact ⟨o,I.kIn _ o hk,hd⟩
  · have z:∃o,s.heap.get? p=some o∧o.ExactDict:=by
     rcases hk with ⟨kvs,hk⟩ | ⟨kvs,hk⟩
     · obtain ⟨_,_,_,_,o,_,_,e,ex,_⟩:=I.hok p _ hk
       exact ⟨o,e,ex⟩
     · obtain ⟨_,_,_,_,o,_,_,e,ex,_⟩:=I.hok p _ hk
       exact ⟨o,e,ex⟩
    obtain ⟨o,e,ex⟩:=z
    refine ⟨⟨o,e,ex.1⟩,fun a e2=>?_⟩
    cases e2
    exact ⟨o,e,ex.2.1⟩
  · obtain ⟨o,_,_,_,e,ex,_⟩:=I.hok p _ hk
    refine ⟨⟨o,e,ex.1⟩,fun a e2=>?_⟩
    cases e2
    exact ⟨o,e,ex.2.1⟩
 | _=>exact False.elim ty
noncomputable def tBM0(K:PySem.W.Frag)(T:String)(r:V→List V→Hp→VK→Prop)(to:TE):TE:=fun σ H Q=>to σ H fun x H1=>tyV K T x H1∧r x [] H1 Q
noncomputable def tBM(K:PySem.W.Frag)(T:String)(r:V→List V→Hp→VK→Prop)(to:TE)(t:TA):TE:=fun σ H Q=>to σ H fun x H1=>tyV K T x H1∧t σ H1 fun xs H2=>r x xs H2 Q
variable {o e:Expr} {es:List Expr} {to:TE} {t:TA} {name:Str} {apos cpos:Pos} {T id:String} {r:V→List V→Hp→VK→Prop}
theorem pe_bm0(pa:PlainAttrs T)(slot:Slot T name id)(hty:typeOf (.builtin id)=pure (.type "method_descriptor"))(hm:MtR X id r)(ho:PE X o to)
 (hbase:attributeBase o name X.env (eval o X.env)=eval o X.env:=by rfl) (hline:(apos.endLine==cpos.line)=true:=by rfl):PE X (.Call (.Attribute o name apos) [] [] cpos) (tBM0 X.K T r to):=by
 intro pins s σ H Q I h
 refine wpAny_Call_method0_late hbase hline (thn (ho pins s σ H _ I h) fun v s1 hq_=>?_)
 obtain ⟨x,H1,I1,r1,ty,q1⟩:=hq_
 obtain ⟨h1,h2⟩:=tyV_is I1 r1 ty
 exact ⟨T,id,pa,slot,hty,h1,h2,Calls.callWith_builtin rfl (PySem.evalArgs_none (hm pins s1 σ H1 x [] v [] Q I1 r1 .nil q1))⟩
theorem pe_bm(pa:PlainAttrs T)(slot:Slot T name id)(hty:typeOf (.builtin id)=pure (.type "method_descriptor"))(hm:MtR X id r)(ho:PE X o to)(ha:PA X (e::es) t)
 (hbase:attributeBase o name X.env (eval o X.env)=eval o X.env:=by rfl)
 (hfew:((backTo cpos (starEach (e::es) X.env)).all (fun x=>!x.1) && (backToKw cpos (keywordEach [] X.env)).all (fun x=>x.1.isSome)
  && decide ((e::es).length+([]:List Keyword).length+(if ([]:List Keyword).isEmpty then 0 else 1) < 30))=true:=by rfl)
 (hline:(apos.endLine==cpos.line)=true:=by rfl) (hs:starEach (e::es) X.env=(false,eval e X.env)::starEach es X.env:=by rfl) (hplain:(backTo cpos (starEach es X.env)).any (·.1)=false:=by rfl):
 PE X (.Call (.Attribute o name apos) (e::es) [] cpos) (tBM X.K T r to t):=by
 intro pins s σ H Q I h
 refine wpAny_Call_method_late hbase hfew hline rfl (thn (ho pins s σ H _ I h) fun v s1 hq_=>?_)
 obtain ⟨x,H1,I1,r1,ty,q1⟩:=hq_
 obtain ⟨h1,h2⟩:=tyV_is I1 r1 ty
 refine ⟨T,id,pa,slot,hty,h1,h2,?_⟩
 have hA:=ha cpos pins s1 σ H1 _ I1 q1
 rw [hs]at hA ⊢
 refine Calls.callWith_builtin (by show (false || (backTo cpos (starEach es X.env)).any (·.1))=false;rw [hplain] <;> rfl) (Calls.evalArgs_plain ?_)
 exact thn hA fun us s2 ⟨vs,H2,I2,r2,q2⟩=>hm pins s2 σ H2 x vs v us Q I2 r1 r2 q2
end
end L2
namespace L2
noncomputable def MtM(X:Cx)(id:String)(r:V→List V→Hp→VK→Prop):Prop:=
 ∀(pins:List (Addr×Obj)) (s:Shared) (σ:St) (H:Hp) (x:V) (xs:List V) (v:Value) (us:List Value) (Q:VK),Inv X pins σ H s→RelV x v→Vals xs us→r x xs H Q→
   wpAny (model X.prog X.w) X.A (call (.builtin id) (v::us)) (EP X pins σ Q) X.xe s
theorem Vals.one:∀{x:V} {us:List Value},Vals [x] us→∃u,us=[u]∧RelV x u
 | _,_,.cons r .nil=>⟨_,rfl,r⟩
theorem Vals.zero:∀{us:List Value},Vals [] us→us=[]
 | _,.nil=>rfl
section
variable {X:Cx} {pins:List (Addr×Obj)} {σ:St} {H:Hp} {s:Shared} {l b:Addr} {xs ys zs:List V}
theorem Inv.lset{its its':List Value}{n:Nat}{f:Array Value→Array Value}{t':Nat}(I:Inv X pins σ H s)(hH:H l=some (.lst xs))
 (e:s.heap.get? l=some {cls:= .type "list",data:= .seq its.toArray n}) (hf:f its.toArray=its'.toArray) (hv:Vals ys its') (hz:ys.length≤sizeLine):
 Inv X pins σ (upd H l (.lst ys)) {s with heap:=s.heap.update l (Obj.mapSeq f),toks:=t'}:=by
 have q:=PySem.IsL.update e f
 rw [hf]at q
 refine I.write (x:=l) (e:=l) (by rw [hH];exact trivial) (.inl rfl) (fun b' u hb hu=>(Heap.get?_update_other s.heap (Obj.mapSeq f) (Ne.symm hb)).trans hu) ⟨_,q⟩ ?_
 exact ⟨hz,its',_,hv,q⟩
theorem Inv.lnew{its:List Value}{t':Nat}(I:Inv X pins σ H s)(hv:Vals ys its)(hz:ys.length≤sizeLine):
 Inv X pins σ (upd H s.heap.objs.size (.lst ys)) {s with heap:=s.heap.push {cls:= .type "list",data:= .seq its.toArray},toks:=t'}:=
 I.laid (fun _ _ q=>Heap.get?_push_of_some _ q) (Nat.le_refl _) ⟨hz,its,0,hv,Heap.get?_push_size _ rfl⟩
theorem Inv.fresh(I:Inv X pins σ H s):H s.heap.objs.size=none:=I.hok.fresh (Nat.le_refl _)
theorem Inv.lstM(I:Inv X pins σ H s)(hH:H l=some (.lst xs)):xs.length≤sizeLine∧∃(its:List Value) (n:Nat),Vals xs its∧xs.length=its.length∧s.heap.get? l=some {cls:= .type "list",data:= .seq its.toArray n}:=by
 obtain ⟨z,its,n,r,e⟩:=I.hok l _ hH
 exact ⟨z,its,n,r,r.length,e⟩
end
section
variable {X:Cx}
noncomputable def rAppend:V→List V→Hp→VK→Prop:=fun x vs H Q=>∃l xs y,x= .ref l∧vs=[y]∧H l=some (.lst xs)∧xs.length < sizeLine∧Q .non (upd H l (.lst (xs++[y])))
theorem mt_append:MtM X "list.append" rAppend:=by
 intro pins s σ H x vs v us Q I rx rv h
 obtain ⟨l,xs,y,rfl,rfl,hH,hz,q⟩:=h
 cases rx
 obtain ⟨u,rfl,ru⟩:=rv.one
 obtain ⟨z,its,n,r,hl,e⟩:=I.lstM hH
 refine call_meets F.slot_list_append ⟨_,e,rfl⟩ F.entry_list_append (F.args_list_append_2 _ _) (PySem.list_append l its.toArray n u (by rw [List.size_toArray];omega)) ⟨e,?_⟩
 refine ⟨.non,_,I.lset (its':=its++[u]) hH e (by simp) (r.append (.cons ru .nil)) ?_,rfl,q⟩
 rw [List.length_append,List.length_singleton]
 omega
noncomputable def rClear:V→List V→Hp→VK→Prop:=fun x vs H Q=>∃l xs,x= .ref l∧vs=[]∧H l=some (.lst xs)∧Q .non (upd H l (.lst []))
theorem mt_clear:MtM X "list.clear" rClear:=by
 intro pins s σ H x vs v us Q I rx rv h
 obtain ⟨l,xs,rfl,rfl,hH,q⟩:=h
 cases rx
 have hus:=rv.zero
 subst hus
 obtain ⟨z,its,n,r,hl,e⟩:=I.lstM hH
 refine call_meets F.slot_list_clear ⟨_,e,rfl⟩ F.entry_list_clear (F.args_list_clear_1 _) (AutoSeq1.list_clear_list_0 l its.toArray n (by rw [List.size_toArray];omega)) ⟨e,?_⟩
 exact ⟨.non,_,I.lset (its':=[]) (ys:=[]) hH e rfl .nil (Nat.zero_le _),rfl,q⟩
noncomputable def rCat:R2:=fun x y H Q=>∃l b xs zs,x= .ref l∧y= .ref b∧H l=some (.lst xs)∧H b=some (.lst zs)∧xs.length+zs.length≤sizeLine∧∀p,H p=none→Q (.ref p) (upd H p (.lst (xs++zs)))
theorem op_cat:OpR X (binaryOp .Add) rCat:=by
 intro pins s σ H x y v u Q I rx ry h
 obtain ⟨l,b,xs,zs,rfl,rfl,hH,hB,hz,q⟩:=h
 cases rx
 cases ry
 obtain ⟨z,its,n,r,hl,e⟩:=I.lstM hH
 obtain ⟨z2,its2,n2,r2,hl2,e2⟩:=I.lstM hB
 refine PySem.P.add_list e e2 ?_ (by rw [List.size_toArray,List.size_toArray];omega)
 have ea:its.toArray++its2.toArray=(its++its2).toArray:=by simp
 rw [ea]
 exact ⟨.ref _,_,I.lnew (t':=s.toks) (r.append r2) (by rw [List.length_append];omega),rfl,q _ I.fresh⟩
end
end L2
namespace Att
open PySem PySem.W PySem.Calls PyProof.Rows
theorem ints_of_wellAll{P:Params}{h:Heap}:∀(ns:List Int) (vs:List Value),WellAll P h vs (ns.map WData.int)→IntsAre vs ns:=by
 intro ns
 induction ns with
 | nil=>
  intro vs w
  rw [List.map_nil]at w
  cases w
  exact .nil
 | cons n ns ih=>
  intro vs w
  rw [List.map_cons]at w
  cases w with
  | cons a b=>
   cases a
   exact .cons _ _ (ih _ b)
theorem script_of{l:OpenLaw}{n:Nat}(hn:l.most=some n){P:Params}{h:Heap}{args:List WData}{vals:List Value}
 (hpre:l.row.toRowW.claim.pre args=true) (hwl:WellAll P h vals args):
 ∃a vs ns,vals=[Value.ref a]∧args=[WData.list (ns.map WData.int)]∧h.get? a=some {cls:= .type "list",data:= .seq vs.toArray}∧IntsAre vs ns∧ns.length≤n:=by
 have hsh:WShape.hasAll [] args [.list .int]=true:=(pre_splitW hpre).1
 have hc:l.pre.holds [] {args:=args}=true:=(pre_splitW hpre).2
 obtain ⟨d,r,rfl,h1,h2⟩:=hasAllW_cons hsh
 obtain rfl:=hasAllW_nil h2
 obtain ⟨xs,rfl,h3⟩:=hasW_list h1
 obtain ⟨ns,rfl⟩:=items_int h3
 have hlen:ns.length≤n:=by
  unfold OpenLaw.pre at hc
  have h4:(WTm.not (.lt (.lit (.int (n:Int))) (.len (.arg 0)))).holds [] {args:=[.list (ns.map .int)]}=true:=by
   have h4:=(holds_andW hc).1
   rw [hn]at h4
   exact h4
  have h5:=condW_of h4 (w_not (w_lt w_lit (w_len_list (w_arg rfl))))
  rw [List.length_map]at h5
  refine Nat.le_of_not_lt fun q=>?_
  have q':(n:Int) < ((ns.length:Nat):Int):=by omega
  first
   | (rw [decide_eq_true q']at h5;exact absurd h5 (by decide))
   | (simp at h5;omega)
 cases hwl with
 | cons w1 w2=>
  cases w2
  cases w1 with
  | list ho hall=>exact ⟨_,_,ns,rfl,rfl,ho,ints_of_wellAll ns _ hall,hlen⟩
theorem post_true(l:OpenLaw)(args:List WData):l.row.toRowW.claim.post args (.bool true) args=true:=
 postW_of (r:=l.row.toRowW) (X:=(true==true))
  (show WShape.has [] (.bool true) .bool=true by first | rfl | decide | simp [WShape.has,WShape.arms,WShape.armsAll])
  (show (WTm.eq .res (.lit (.bool true))).value [] {args:=args,res:=some (.bool true),after:=args}=some (.bool (true==true)) from w_eq_bool (w_res rfl) w_lit) rfl
theorem attach_call{l:OpenLaw}{n:Nat}{q:Program}{loose:List Str}{XP:(Str→Option Value)→Heap→Prop}{YP:World→Heap→Prop}{d:DefRec}
 (hn:l.most=some n) (hdf:d.params.defaults=[])
 (call:∀(w:World) (s₀ s₁:Shared) (mg mb:Str→Option Value) (fa:Addr) (o:Obj) (pm cd doc:Value) (a:Addr) (vs:List Value) (ns:List Int),
  Ground q loose [] XP w s₀ mg mb s₁.heap→YP w s₁.heap→
  s₁.heap.get? fa=some o→o.data= .func (docDef d.name d.params d.body d.scope pm cd doc)→s₁.heap.CodeRec cd d.name→mg d.name=some (.ref fa)→
  s₁.heap.get? a=some {cls:= .type "list",data:= .seq vs.toArray}→IntsAre vs ns→ns.length≤n→s₁.gens=#[]→
  codeAny (model l.prog w) callerA (.call (.ref fa) ⟨[.ref a],[]⟩) (fun r s'=>r= .ok (.ret (.bool true))∧OldK s₁.heap s'.heap∧s'.os=s₁.os∧AllBare s'.gens) s₁):
 WalkO q loose XP YP l.row.toRowW d [] (fun f vs=>PySem.call f vs):=by
 intro w s₀ s₁ mg mb G Y fa o pm cd doc dV kV ho hd hcd hD hmg hg args vals as hpre hlay hrd hwl hlo
 obtain rfl:dV= .none:=Dflts.none hD hdf
 obtain rfl:kV= .none:=Dflts.noKw hD
 obtain ⟨a,vs,ns,rfl,rfl,hobj,hints,hlen⟩:=script_of hn hpre hwl
 refine enter_call (codeAny_mono (call w s₀ s₁ mg mb fa o pm cd doc a vs ns G Y ho (fd_plain hd) hcd hmg hobj hints hlen hg) fun r s' hq=>?_)
 obtain ⟨rfl,h2,h3,h4⟩:=hq
 exact ⟨.inl ⟨.bool true,.bool true,[],rfl,fun _=>rfl,.bool true,post_true l _,fun _=>⟨List.Pairwise.nil,fun _ hm=>(nomatch hm)⟩⟩,h2,h3,h4⟩
end Att
namespace L2
theorem vals_ints:∀{vs:List Value} {ns:List Int},IntsAre vs ns→Vals (ns.map V.int) vs
 | _,_,.nil=> .nil
 | _,_,.cons n t h=> .cons ⟨t,rfl⟩ (vals_ints h)
noncomputable def Only(H:Hp):Prop:=∀b,H b=none∨∃o xs,H b=some (.frz o (.lst xs))
theorem law_call{P:Program}{w:World}{K:PySem.W.Frag}{mg mb:Str→Option Value}{CX:CXT}{k:Nat}{fa a:Addr}{fd:FuncData}{x:Str}{sp:Sp}{s₁:Shared}{vs:List Value}{ns:List Int}
 (KX:K.In s₁.heap) (hns:s₁.heap.Ns mainGlobals mg) (hb:s₁.heap.Ns builtinsNs mb) (hbb:∀x:Str,x≠"__name__"→mb x=bootBuiltins x) (hlim:s₁.heap.NoLimit) (hg:s₁.gens=#[])
 (ha:s₁.heap.get? a=some {cls:= .type "list",data:= .seq vs.toArray}) (hi:IntsAre vs ns) (hl:ns.length≤sizeLine) (hr:Room k callerA)
 (F:∀base:Heap,K.In base→base.Ns mainGlobals mg→FnOk P w K mg base CX k fa fd [x] sp) (hbind:∀(s:Shared) (u:Value),BindsTo s fd ⟨[u],[]⟩ [(x,u)])
 (hsp:∀H:Hp,Only H→SqL K H a (ns.map V.int)→sp [.ref a] H (fun v _=>v= .bl true) fun _ _ _=>False)
 (hCX:∀H e s',CX [] H s₁ (fun _ _ _=>False) e s'→False):
 codeAny (model P w) callerA (.call (.ref fa) ⟨[.ref a],[]⟩) (fun r s'=>r= .ok (.ret (.bool true))∧OldK s₁.heap s'.heap∧s'.os=s₁.os∧AllBare s'.gens) s₁:=by
 have rv:=vals_ints hi
 have lenV:=hi.length
 have core:∀H:Hp,Only H→SqL K H a (ns.map V.int)→HOk P w H s₁.heap→(∀b,H b≠none→b=a)→(H a≠none→K.lookup a=none)→
  codeAny (model P w) callerA (.call (.ref fa) ⟨[.ref a],[]⟩) (fun r s'=>r= .ok (.ret (.bool true))∧OldK s₁.heap s'.heap∧s'.os=s₁.os∧AllBare s'.gens) s₁:=by
  intro H hO hS hok hA hK
  have base_of:∀{b:Addr} {o:Obj},s₁.heap.get? b=some o→H b=none→(hidT s₁.heap H).get? b=some o:=fun e n=>hidT_get e n
  have noA:∀{b:Addr} {o:Obj} {es:Array DictEntry} {ep:Nat},s₁.heap.get? b=some o→o.data= .dict es ep→H b=none:=fun {b o es ep} e d=>by
   cases q:H b with
   | none=>rfl
   | some u=>
    have e':b=a:=hA b (by rw [q];simp)
    subst e'
    rw [ha]at e;cases e
    have d':Data.seq vs.toArray _=Data.dict es ep:=d
    cases d'
  have nsK:∀{b:Addr} {m:Str→Option Value},s₁.heap.Ns b m→(hidT s₁.heap H).Ns b m:=fun {b m} ⟨o,es,ep,e,d,r⟩=>⟨o,es,ep,base_of e (noA e d),d,r⟩
  have hKb:K.In (hidT s₁.heap H):=fun b o e=>base_of (KX b o e) (by
   cases q:H b with
   | none=>rfl
   | some u=>
    have e':b=a:=hA b (by rw [q];simp)
    subst e'
    rw [hK (by rw [q];simp)]at e;cases e)
  have hM:Mod K mg (hidT s₁.heap H):=⟨hKb,nsK hns,⟨mb,nsK hb,hbb⟩,let ⟨mc,h1,h2⟩:=hlim;⟨mc,nsK h1,h2⟩⟩
  have e0:Env0 P w K mg (hidT s₁.heap H) callerA [] s₁ H:=⟨rfl,hM,fun b o e=>of_hidT e,Nat.le_of_eq (hidT_size _ _),trivial,fun b hb=>absurd (show b∈([]:List Addr) from hb) (by simp),hok,.of_eq hg⟩
  refine codeAny_mono ((F _ hKb (nsK hns)).run callerA [] s₁ H ⟨[.ref a],[]⟩ [.ref a] [.ref a] _ _ hr e0 (hbind s₁ (.ref a)) (.cons rfl .nil) (hsp H hO hS)) fun r s' h=>?_
  cases r with
  | error e=>exact (hCX H e s' h).elim
  | ok fl=>
   cases fl with
   | next=>exact False.elim h
   | brk=>exact False.elim h
   | cont=>exact False.elim h
   | ret u=>
    obtain ⟨v,H',os,bare,un,hok',r',q⟩:=h
    have q':v= .bl true:=q
    subst q'
    obtain rfl:u=Value.bool true:=r'
    refine ⟨rfl,OldK.of_keep fun b o e=>?_,os,bare⟩
    cases q:H b with
    | none=>exact un.keep b o e q (by intro z;exact absurd (show b∈([]:List Addr) from z) (by simp)) (by simp)
    | some u=>
     rcases hO b with z | ⟨ob,xs,z⟩
     · rw [q]at z;cases z
     · have z2:=un.frzs b ob _ z
       obtain ⟨e1,_⟩:=hok b _ z
       obtain ⟨e2,_⟩:=hok' b _ z2
       rw [e]at e1;cases e1
       exact e2
 cases hk:K.lookup a with
 | some o=>
  have e:=KX a o hk
  rw [ha]at e
  cases e
  refine core (fun _=>none) (fun _=> .inl rfl) (.inr ⟨_,vs.toArray,_,hk,rfl,rfl,rfl,by rw [List.size_toArray,lenV];exact hl,by simpa using rv⟩) (fun b u z=>by have z':(none:Option HO)=some u:=z;cases z') (fun b z=>absurd rfl z) fun z=>absurd rfl z
 | none=>
  refine core (fun b=>if b=a then some (.frz {cls:= .type "list",data:= .seq vs.toArray} (.lst (ns.map V.int))) else none) (fun b=>?_) (.inl (.inr ⟨{cls:= .type "list",data:= .seq vs.toArray},if_pos rfl⟩)) (fun b u z=>?_) (fun b z=>?_) fun _=>hk
  · by_cases hb:b=a
    · exact .inr ⟨_,_,if_pos hb⟩
    · exact .inl (if_neg hb)
  · by_cases hb:b=a
    · have z':=(if_pos hb).symm.trans z
      cases z'
      subst hb
      exact ⟨ha,by rw [List.length_map];exact hl,vs,_,rv,ha⟩
    · have z':=(if_neg hb).symm.trans z
      cases z'
  · by_cases hb:b=a
    · exact hb
    · exact absurd (if_neg hb) z
end L2
namespace L2
theorem walk_of{l:PySem.W.OpenLaw}{n k:Nat}{q:Program}{loose:List Str}{XP:(Str→Option Value)→Heap→Prop}{YP:World→Heap→Prop}{d:DefRec}{K:Params→PySem.W.Frag}{CX:World→CXT}{sp:World→Sp}{x:Str}
 (hn:l.most=some n) (hn2:n≤sizeLine) (hdf:d.params.defaults=[]) (hr:Room k callerA)
 (hY:∀(w:World) (h:Heap),YP w h→(K w.params).In h)
 (F:∀(w:World) (mg:Str→Option Value) (fa:Addr) (h:Heap),(K w.params).In h→h.Ns mainGlobals mg→mg d.name=some (.ref fa)→
  ∃fd:FuncData,(∀(s:Shared) (u:Value),BindsTo s fd ⟨[u],[]⟩ [(x,u)])∧
   ∀base:Heap,(K w.params).In base→base.Ns mainGlobals mg→FnOk l.prog w (K w.params) mg base (CX w) k fa fd [x] (sp w))
 (hsp:∀(w:World) (H:Hp) (a:Addr) (ns:List Int),ns.length≤n→Only H→SqL (K w.params) H a (ns.map V.int)→sp w [.ref a] H (fun v _=>v= .bl true) fun _ _ _=>False)
 (hCX:∀(w:World) (H:Hp) (s:Shared) (e:Value) (s':Shared),CX w [] H s (fun _ _ _=>False) e s'→False):
 PySem.W.WalkO q loose XP YP l.row.toRowW d [] (fun f vs=>PySem.call f vs):=by
 refine Att.attach_call hn hdf fun w s₀ s₁ mg mb fa o pm cd doc a vs ns G Y ho hd hcd hmg hobj hints hlen hg=>?_
 have KX:=hY w _ Y
 obtain ⟨fd,hb,hF⟩:=F w mg fa _ KX G.T.g hmg
 exact law_call KX G.T.g G.T.b G.T.builtins G.T.nolimit hg hobj hints (Nat.le_trans hlen hn2) hr hF hb (fun H hO hS=>hsp w H a ns hlen hO hS) fun H e s'=>hCX w H s₁ e s'
end L2
namespace L2
noncomputable def inClass(s:Stmt)(j:Nat):Stmt:=match s with
 | .ClassDef _ _ _ body _ _ _ _ _ _ _=>body.getD j (.Pass ⟨0,0,0,0⟩)
 | _=> .Pass ⟨0,0,0,0⟩
noncomputable def defArgs(s:Stmt):Arguments:=match s with
 | .FunctionDef _ a _ _ _ _ _ _ _ _=>a
 | _=>{posonlyargs:=[],args:=[],vararg:=none,kwonlyargs:=[],kw_defaults:=[],kwarg:=none,defaults:=[]}
noncomputable def defBody(s:Stmt):List Stmt:=match s with
 | .FunctionDef _ _ b _ _ _ _ _ _ _=>b
 | _=>[]
noncomputable def defScope(s:Stmt):Scope:=match s with
 | .FunctionDef _ _ _ _ _ _ sc _ _ _=>sc
 | _=>{kind:= .function,names:=[],isGenerator:=false,isCoroutine:=false}
structure Fun(K:PySem.W.Frag)(x qual:Str)(st:Stmt)(f:Addr)(fd:FuncData):Prop where
 ex:∃(oc:Value) (od:Option Addr) (kV doc pm:Value) (an:Option Addr) (cdv ct:Value) (osl:Array (Option Value)),
  fd=PySem.W.fnOf x qual (defArgs st) (defBody st) (defScope st) .none kV doc pm an cdv ct∧K.lookup f=some ⟨oc,od,.func fd,osl⟩∧PySem.W.codeIn K cdv qual=true
 kp:PySem.W.keepIn K (.ref f)=true
section
variable {P:Program} {w:World} {K:PySem.W.Frag} {mg:Str→Option Value} {base:Heap}
theorem Fun.binds{x qual:Str}{st:Stmt}{f:Addr}{fd:FuncData}{ps:List Str}(F:Fun K x qual st f fd)
 (h:∀(kV doc pm:Value) (an:Option Addr) (cdv ct:Value) (us:List Value),us.length=ps.length→bindArgs (PySem.W.fnOf x qual (defArgs st) (defBody st) (defScope st) .none kV doc pm an cdv ct) ⟨us,[]⟩=pure (ps.zip us)):Binds K fd ps []:=by
 obtain ⟨oc,od,kV,doc,pm,an,cdv,ct,osl,rfl,lk,hcd⟩:=F.ex
 exact .all (h kV doc pm an cdv ct)
theorem fun_mk{x qual:Str}{st:Stmt}{f:Addr}{oc:Value}{od an:Option Addr}{osl:Array (Option Value)}{kV doc pm cdv ct:Value}(l:K.lookup f=some ⟨oc,od,.func (PySem.W.fnOf x qual (defArgs st) (defBody st) (defScope st) .none kV doc pm an cdv ct),osl⟩)
 (c:PySem.W.codeIn K cdv qual=true) (k:PySem.W.keepIn K (.ref f)=true):Fun K x qual st f (PySem.W.fnOf x qual (defArgs st) (defBody st) (defScope st) .none kV doc pm an cdv ct):=⟨⟨oc,od,kV,doc,pm,an,cdv,ct,osl,rfl,l,c⟩,k⟩
end
theorem hu_of{A:Around}{k:Nat}(hr:Room k A):A.units+1 < cLine:=Nat.lt_of_le_of_lt (Nat.add_le_add_left (by decide:1≤64) _) hr.units
section
variable {X:Cx}
theorem pv(i:Nat){x:Str}{pos:Pos}(hN:X.N[i]?=some x:=by rfl)(hv:Vis X.env.scope x:=by first | exact Or.inl rfl | exact Or.inr (Or.inl rfl) | exact Or.inr (Or.inr rfl))(hd:(x==("__debug__":Str))=false:=by decide)
 (hcd:(x==("__classdict__":Str))=false:=by decide):PE X (.Name x pos) (tVar i):=pe_var hN hv hd hcd
end
noncomputable def Same(H H':Hp):Prop:=∀b o,H b=some o→H' b=some o
theorem Same.refl(H:Hp):Same H H:=fun _ _ h=>h
theorem Same.trans{H H1 H2:Hp}(a:Same H H1)(b:Same H1 H2):Same H H2:=fun c o h=>b c o (a c o h)
theorem Same.seq{K:PySem.W.Frag}{H H':Hp}{a:Addr}{xs:List V}(e:Same H H')(h:SqL K H a xs):SqL K H' a xs:=by
 rcases h with (h | ⟨o,h⟩) | h
 · exact .inl (.inl (e _ _ h))
 · exact .inl (.inr ⟨o,e _ _ h⟩)
 · exact .inr h
end L2
namespace L2
section
variable {κ:Type} [DecidableEq κ]
noncomputable def valV(kvs:List (κ×V))(k:κ):Option V:=(kvs.find? fun kv=>decide (kv.1=k)).map (·.2)
noncomputable def putK(kvs:List (κ×V))(k:κ)(v:V):List (κ×V):=
 if (kvs.any fun kv=>decide (kv.1=k))=true then kvs.map (fun kv=>if kv.1=k then (kv.1,v) else kv) else kvs++[(k,v)]
theorem valV_pos{p:κ×V}{r:List (κ×V)}{k:κ}(e:p.1=k):valV (p::r) k=some p.2:=by simp [valV,List.find?_cons,e]
theorem valV_neg{p:κ×V}{r:List (κ×V)}{k:κ}(e:¬p.1=k):valV (p::r) k=valV r k:=by simp [valV,List.find?_cons,e]
theorem valV_any(k:κ):∀kvs:List (κ×V),(kvs.any fun kv=>decide (kv.1=k))=(valV kvs k).isSome
 | []=>rfl
 | p::r=>by
  rw [List.any_cons]
  by_cases e:p.1=k
  · simp only [valV_pos e,decide_eq_true e,Bool.true_or,Option.isSome_some]
  · rw [valV_neg e,decide_eq_false e,Bool.false_or];exact valV_any k r
theorem valV_map(k j:κ)(y:V):∀kvs:List (κ×V),valV (kvs.map fun kv=>if kv.1=k then (kv.1,y) else kv) j=(valV kvs j).map fun x=>if j=k then y else x
 | []=>rfl
 | p::r=>by
  have ih:=valV_map k j y r
  rw [List.map_cons]
  by_cases h:p.1=k
  · rw [if_pos h]
    by_cases e:p.1=j
    · rw [valV_pos (p:=(p.1,y)) e,valV_pos e,Option.map_some,if_pos (e.symm.trans h)]
    · rw [valV_neg (p:=(p.1,y)) e,valV_neg e,ih]
  · rw [if_neg h]
    by_cases e:p.1=j
    · rw [valV_pos (p:=p) e,valV_pos e,Option.map_some,if_neg (fun z=>h (e.trans z))]
    · rw [valV_neg (p:=p) e,valV_neg e,ih]
theorem valV_snoc(k j:κ)(y:V):∀kvs:List (κ×V),valV kvs k=none→valV (kvs++[(k,y)]) j=if j=k then some y else valV kvs j
 | [],_=>by
  by_cases e:k=j
  · rw [if_pos e.symm];exact valV_pos (p:=(k,y)) e
  · rw [if_neg (fun z=>e z.symm)];exact valV_neg (p:=(k,y)) e
 | p::r,hn=>by
  rw [List.cons_append]
  have hk:¬p.1=k:=fun z=>by rw [valV_pos z]at hn;cases hn
  rw [valV_neg hk]at hn
  have ih:=valV_snoc k j y r hn
  by_cases e:p.1=j
  · rw [valV_pos e,valV_pos e,if_neg (fun z=>hk (e.trans z))]
  · rw [valV_neg e,valV_neg e,ih]
theorem valV_put(kvs:List (κ×V))(k j:κ)(y:V):valV (putK kvs k y) j=if j=k then some y else valV kvs j:=by
 unfold putK
 by_cases a:(kvs.any fun kv=>decide (kv.1=k))=true
 · rw [if_pos a,valV_map]
   rw [valV_any]at a
   by_cases e:j=k
   · obtain ⟨x,hx⟩:=Option.isSome_iff_exists.mp a
     rw [if_pos e,e,hx,Option.map_some,if_pos rfl]
   · rw [if_neg e]
     cases valV kvs j with
     | none=>rfl
     | some x=>rw [Option.map_some,if_neg e]
 · rw [if_neg a]
   refine valV_snoc k j y kvs ?_
   rw [valV_any]at a
   cases q:valV kvs k with
   | none=>rfl
   | some x=>rw [q]at a;exact (a rfl).elim
theorem length_putK(kvs:List (κ×V))(k:κ)(v:V):(putK kvs k v).length≤kvs.length+1:=by
 unfold putK
 split
 · rw [List.length_map];omega
 · rw [List.length_append,List.length_cons,List.length_nil];omega
theorem putK_new{kvs:List (κ×V)}{k:κ}(v:V)(h:valV kvs k=none):putK kvs k v=kvs++[(k,v)]:=by
 unfold putK
 rw [valV_any,h]
 exact if_neg (by decide)
theorem RelO.isSome_eq{o:Option V}{u:Option Value}(r:RelO o u):o.isSome=u.isSome:=by
 cases o with
 | none=>cases u with
  | none=>rfl
  | some _=>exact (show False from r).elim
 | some _=>cases u with
  | none=>exact (show False from r).elim
  | some _=>rfl
theorem RelO.getD{o:Option V}{u:Option Value}{d:V}{d':Value}(r:RelO o u)(rd:RelV d d'):RelV (o.getD d) (u.getD d'):=by
 cases o with
 | none=>cases u with
  | none=>exact rd
  | some _=>exact (show False from r).elim
 | some _=>cases u with
  | none=>exact (show False from r).elim
  | some _=>exact r
theorem KV.val{kvs:List (κ×V)}{vs:List (κ×Value)}(r:KV kvs vs)(k:κ):RelO (valV kvs k) (valueAt vs k):=by
 unfold KV at r
 induction r with
 | nil=>exact True.intro
 | @cons p q ps qs h t ih=>
  obtain ⟨h1,h2⟩:=h
  by_cases e:p.1=k
  · have e':q.1=k:=h1.symm.trans e
    have b:valueAt (q::qs) k=some q.2:=by simp [valueAt,List.find?_cons,e']
    rw [valV_pos e,b];exact h2
  · have e':¬q.1=k:=fun z=>e (h1.trans z)
    have b:valueAt (q::qs) k=valueAt qs k:=by simp [valueAt,List.find?_cons,e']
    rw [valV_neg e,b];exact ih
theorem KV.any{kvs:List (κ×V)}{vs:List (κ×Value)}(r:KV kvs vs)(k:κ):(kvs.any fun kv=>decide (kv.1=k))=vs.any fun kv=>decide (kv.1=k):=by
 unfold KV at r
 induction r with
 | nil=>rfl
 | cons h t ih=>rw [List.any_cons,List.any_cons,ih,h.1]
theorem KV.repl{kvs:List (κ×V)}{vs:List (κ×Value)}(r:KV kvs vs)(k:κ){y:V}{u:Value}(ry:RelV y u):
 KV (kvs.map fun kv=>if kv.1=k then (kv.1,y) else kv) (vs.map fun kv=>if kv.1=k then (kv.1,u) else kv):=by
 unfold KV at r ⊢
 induction r with
 | nil=>exact .nil
 | @cons p q ps qs h t ih=>
  rw [List.map_cons,List.map_cons]
  refine .cons ?_ ih
  obtain ⟨h1,h2⟩:=h
  by_cases e:p.1=k
  · rw [if_pos e,if_pos (h1.symm.trans e)];exact ⟨h1,ry⟩
  · rw [if_neg e,if_neg (fun z=>e (h1.trans z))];exact ⟨h1,h2⟩
theorem KV.put{kvs:List (κ×V)}{vs:List (κ×Value)}(r:KV kvs vs)(k:κ){y:V}{u:Value}(ry:RelV y u):KV (putK kvs k y) (stored vs k u):=by
 unfold putK stored
 rw [r.any k]
 by_cases e:(vs.any fun kv=>decide (kv.1=k))=true
 · rw [if_pos e,if_pos e];exact r.repl k ry
 · rw [if_neg e,if_neg e];exact Paired.snoc r ⟨rfl,ry⟩
theorem KV.length{kvs:List (κ×V)}{vs:List (κ×Value)}(r:KV kvs vs):kvs.length=vs.length:=Paired.length r
end
theorem kV_is{P:Program}{w:World}{k:Key}{u:Value}(r:RelV (kV k) u):(mixKind P w).is k u=true:=by
 cases k with
 | inl i=>obtain ⟨t,e⟩:=(show ∃t,u=Value.int i t from r);subst e;exact mixKind_int P w i t
 | inr x=>obtain ⟨t,e⟩:=(show ∃t,u=Value.str x t from r);subst e;exact mixKind_str P w x t
theorem items_are{P:Program}{w:World}:∀{ks:List Key} {us:List Value},Vals (ks.map kV) us→ItemsAre (mixKind P w) ks us
 | [],_,r=>by rw [List.map_nil]at r;cases r;exact .nil
 | k::ks,_,r=>by
  rw [List.map_cons]at r
  cases r with
  | cons h t=>exact .cons (kV_is h) (items_are t)
noncomputable abbrev KT(H:Hp):List (List Key×V)→List (List Key×Addr×Value)→Prop:=Paired fun p q=>p.1=q.1∧H q.2.1=some (.tup (p.1.map kV))∧RelV p.2 q.2.2
theorem KT.val{H:Hp}{kvs:List (List Key×V)}{xs:List (List Key×Addr×Value)}(r:KT H kvs xs)(k:List Key):RelO (valV kvs k) ((atKey xs k).map (·.2)):=by
 induction r with
 | nil=>exact True.intro
 | @cons p q ps qs h t ih=>
  obtain ⟨h1,_,h2⟩:=h
  by_cases e:p.1=k
  · have e':q.1=k:=h1.symm.trans e
    have b:atKey (q::qs) k=some q.2:=by simp [atKey,List.find?_cons,e']
    rw [valV_pos e,b];exact h2
  · have e':¬q.1=k:=fun z=>e (h1.trans z)
    have b:atKey (q::qs) k=atKey qs k:=by simp [atKey,List.find?_cons,e']
    rw [valV_neg e,b];exact ih
theorem KT.repl{H:Hp}{kvs:List (List Key×V)}{xs:List (List Key×Addr×Value)}(r:KT H kvs xs)(k:List Key){y:V}{u:Value}(ry:RelV y u):
 KT H (kvs.map fun kv=>if kv.1=k then (kv.1,y) else kv) (xs.map (putAt k u)):=by
 induction r with
 | nil=>exact .nil
 | @cons p q ps qs h t ih=>
  rw [List.map_cons,List.map_cons]
  refine .cons ?_ ih
  obtain ⟨h1,h2,h3⟩:=h
  unfold putAt
  by_cases e:p.1=k
  · rw [if_pos e,if_pos (h1.symm.trans e)];exact ⟨h1,h2,ry⟩
  · rw [if_neg e,if_neg (fun z=>e (h1.trans z))];exact ⟨h1,h2,h3⟩
theorem KT.put{H:Hp}{kvs:List (List Key×V)}{xs:List (List Key×Addr×Value)}(r:KT H kvs xs)(k:List Key){b:Addr}{y:V}{u:Value}(hb:H b=some (.tup (k.map kV)))(ry:RelV y u):
 KT H (putK kvs k y) (storedH xs k b u):=by
 have e:(kvs.any fun kv=>decide (kv.1=k))=(atKey xs k).isSome:=by
  rw [valV_any,(r.val k).isSome_eq,Option.isSome_map]
 unfold putK storedH
 rw [e]
 by_cases q:(atKey xs k).isSome=true
 · rw [if_pos q,if_pos q];exact r.repl k ry
 · rw [if_neg q,if_neg q];exact Paired.snoc r ⟨rfl,hb,ry⟩
theorem KT.keeps{H H':Hp}{kvs:List (List Key×V)}{xs:List (List Key×Addr×Value)}(r:KT H kvs xs)(ht:∀b ys,H b=some (.tup ys)→H' b=some (.tup ys)):KT H' kvs xs:=
 Paired.mapP r fun _ _ z=>⟨z.1,ht _ _ z.2.1,z.2.2⟩
section
variable {P:Program} {w:World} {H:Hp} {h:Heap} {a:Addr}
theorem rd_of{u:HO}(ok:HOk P w H h)(e:Rd H a u):ObjOk P w H h a u:=e.ok ok
theorem dk_rd{kvs:List (Key×V)}(ok:HOk P w H h)(e:Rd H a (.dK kvs)):kvs.length≤sizeLine∧(a==sysModules)=false∧∃vs,KV kvs vs∧h.DictOf (mixKind P w) a vs:=
 show ObjOk P w H h a (.dK kvs) from rd_of ok e
theorem dk_of{kvs:List (Key×V)}(ok:HOk P w H h)(e:H a=some (.dK kvs)):kvs.length≤sizeLine∧(a==sysModules)=false∧∃vs,KV kvs vs∧h.DictOf (mixKind P w) a vs:=dk_rd ok (.inl e)
theorem key_of{ks:List Key}(ok:HOk P w H h)(e:H a=some (.tup (ks.map kV))):(tupleKind (mixKind P w)).is h ks a:=by
 obtain ⟨_,its,r,o,h1,h2,n,h3⟩:=(show ObjOk P w H h a (.tup (ks.map kV)) from ok a _ e)
 exact ⟨o,its.toArray,n,h1,h2,h3,by simpa using items_are r⟩
theorem dt_rd{kvs:List (List Key×V)}(ok:HOk P w H h)(e:Rd H a (.dT kvs)):kvs.length≤sizeLine∧(a==sysModules)=false∧
 ∃xs,KT H kvs xs∧h.DictOfH (tupleKind (mixKind P w)) a xs:=by
 obtain ⟨z,y,xs,r,o,es,ep,h1,h2,h3,h4,h5⟩:=(show ObjOk P w H h a (.dT kvs) from rd_of ok e)
 refine ⟨z,y,xs,r,o,es,ep,h1,h2,h3,h4,fun x hx=>?_,h5⟩
 have all:∀{l:List (List Key×V)} {m:List (List Key×Addr×Value)},KT H l m→∀x∈m,(tupleKind (mixKind P w)).is h x.1 x.2.1:=by
  intro l m q
  induction q with
  | nil=>intro x hx;exact nomatch hx
  | @cons p q ps qs hq t ih=>
   intro x hx
   rcases List.mem_cons.mp hx with e | hx
   · subst e
     exact key_of ok (by rw [← hq.1];exact hq.2.1)
   · exact ih x hx
 exact all r x hx
theorem dt_of{kvs:List (List Key×V)}(ok:HOk P w H h)(e:H a=some (.dT kvs)):kvs.length≤sizeLine∧(a==sysModules)=false∧
 ∃xs,KT H kvs xs∧h.DictOfH (tupleKind (mixKind P w)) a xs:=dt_rd ok (.inl e)
end
noncomputable def DGet(H:Hp)(a:Addr)(y:V)(r:Option V):Prop:=
 (∃kvs k,Rd H a (.dK kvs)∧y=kV k∧r=valV kvs k)∨∃kvs k b,Rd H a (.dT kvs)∧y= .ref b∧H b=some (.tup (k.map kV))∧r=valV kvs k
noncomputable def DPut(H:Hp)(a:Addr)(y v:V)(H':Hp):Prop:=
 (∃kvs k,H a=some (.dK kvs)∧y=kV k∧kvs.length < sizeLine∧H'=upd H a (.dK (putK kvs k v)))∨
 ∃kvs k b,H a=some (.dT kvs)∧y= .ref b∧H b=some (.tup (k.map kV))∧kvs.length < sizeLine∧H'=upd H a (.dT (putK kvs k v))
theorem DGet.k{H:Hp}{a:Addr}{kvs:List (Key×V)}{k:Key}(e:H a=some (.dK kvs)):DGet H a (kV k) (valV kvs k):= .inl ⟨kvs,k,.inl e,rfl,rfl⟩
theorem DPut.k{H:Hp}{a:Addr}{kvs:List (Key×V)}{k:Key}{v:V}(e:H a=some (.dK kvs))(hl:kvs.length < sizeLine):DPut H a (kV k) v (upd H a (.dK (putK kvs k v))):= .inl ⟨kvs,k,e,rfl,hl,rfl⟩
section
variable {X:Cx} {pins:List (Addr×Obj)} {σ:St} {H:Hp} {s:Shared} {a:Addr} {y v:V} {u r:Value} {o:Option V} {A:Around} {E:Value→Shared→Prop}
theorem Inv.big(I:Inv X pins σ H s):sysModules < s.heap.objs.size:=by
 have h:mainGlobals < s.heap.objs.size:=(I.mod.glob.keeps I.bk).lt
 exact Nat.lt_trans (by decide) h
theorem d_getItem{Q:Value→Shared→Prop}(hu:A.units+1 < cLine)(I:Inv X pins σ H s)(g:DGet H a y (some v))(ry:RelV y u)(h:∀w' s',Inv X pins σ H s'→RelV v w'→Q w' s'):
 wpAny (model X.prog X.w) A (getItem (.ref a) u) Q E s:=by
 rcases g with ⟨kvs,k,e,ey,l⟩ | ⟨kvs,k,b,e,ey,eb,l⟩
 · subst ey
   obtain ⟨z,hd,vs,rel,dd⟩:=dk_rd I.hok e
   obtain ⟨w',hw,rw'⟩:=RelO.some_of (v:=v) (o:=valueAt vs k) (by rw [l];exact rel.val k)
   exact wpAny_getItem_of (kV_is ry) dd.mapOf hw (h w' _ (I.tok _) rw')
 · subst ey
   cases (show u=Value.ref b from ry)
   obtain ⟨z,hd,xs,rel,dd⟩:=dt_rd I.hok e
   obtain ⟨w',hw,rw'⟩:=RelO.some_of (v:=v) (o:=(atKey xs k).map (·.2)) (by rw [l];exact rel.val k)
   obtain ⟨p,hp,hp2⟩:=Option.map_eq_some_iff.mp hw
   refine wpAny_getItem_heap (tupleKind_room_in1 hu) (key_of I.hok eb) dd hp ?_
   rw [hp2]
   exact h w' _ (I.tok _) rw'
theorem d_in{Q:Value→Shared→Prop}(hu:A.units+1 < cLine)(I:Inv X pins σ H s)(g:DGet H a y o)(ry:RelV y u)(h:∀s',Inv X pins σ H s'→Q (.bool o.isSome) s'):
 wpAny (model X.prog X.w) A (compareOp .In u (.ref a)) Q E s:=by
 rcases g with ⟨kvs,k,e,ey,l⟩ | ⟨kvs,k,b,e,ey,eb,l⟩
 · subst ey
   obtain ⟨z,hd,vs,rel,dd⟩:=dk_rd I.hok e
   refine wpAny_in_of (kV_is ry) hd dd.mapOf ?_
   rw [← (rel.val k).isSome_eq,← l]
   exact h _ (I.tok _)
 · subst ey
   cases (show u=Value.ref b from ry)
   obtain ⟨z,hd,xs,rel,dd⟩:=dt_rd I.hok e
   refine wpAny_in_heap (tupleKind_room_in1 hu) (key_of I.hok eb) hd dd ?_
   have q:=(rel.val k).isSome_eq
   rw [Option.isSome_map]at q
   rw [← q,← l]
   exact h _ (I.tok _)
theorem d_notIn{Q:Value→Shared→Prop}(hu:A.units+1 < cLine)(I:Inv X pins σ H s)(g:DGet H a y o)(ry:RelV y u)(h:∀s',Inv X pins σ H s'→Q (.bool (!o.isSome)) s'):
 wpAny (model X.prog X.w) A (compareOp .NotIn u (.ref a)) Q E s:=by
 rcases g with ⟨kvs,k,e,ey,l⟩ | ⟨kvs,k,b,e,ey,eb,l⟩
 · subst ey
   obtain ⟨z,hd,vs,rel,dd⟩:=dk_rd I.hok e
   refine wpAny_notIn_of (kV_is ry) hd dd.mapOf ?_
   rw [← (rel.val k).isSome_eq,← l]
   exact h _ (I.tok _)
 · subst ey
   cases (show u=Value.ref b from ry)
   obtain ⟨z,hd,xs,rel,dd⟩:=dt_rd I.hok e
   refine wpAny_notIn_heap (tupleKind_room_in1 hu) (key_of I.hok eb) hd dd ?_
   have q:=(rel.val k).isSome_eq
   rw [Option.isSome_map]at q
   rw [← q,← l]
   exact h _ (I.tok _)
theorem d_write{h':Heap}{t':Nat}{ob:HO}(I:Inv X pins σ H s)(mu:Mut (H a))(hs:Heap.SameBut a s.heap h')(he:∃q,h'.get? a=some q)(new:ObjOk X.prog X.w (upd H a ob) h' a ob):
 Inv X pins σ (upd H a ob) {s with heap:=h',toks:=t'}:=
 I.write (x:=a) (e:=a) mu (.inl rfl) (fun b q hb z=>(hs.2 b hb).trans z) he new
theorem dk_new{P:Program}{w:World}{H':Hp}{h':Heap}{kvs:List (Key×V)}{vs:List (Key×Value)}(z:kvs.length≤sizeLine)(hd:(a==sysModules)=false)(rel:KV kvs vs)(dd:h'.DictOf (mixKind P w) a vs):
 ObjOk P w H' h' a (.dK kvs):=⟨z,hd,vs,rel,dd⟩
theorem d_setItem{H':Hp}{Q:Unit→Shared→Prop}(hu:A.units+1 < cLine)(I:Inv X pins σ H s)(g:DPut H a y v H')(ry:RelV y u)(rv:RelV v r)(h:∀s',Inv X pins σ H' s'→Q () s'):
 wpAny (model X.prog X.w) A (setItem (.ref a) u r) Q E s:=by
 rcases g with ⟨kvs,k,e,ey,l,eH⟩ | ⟨kvs,k,b,e,ey,eb,l,eH⟩
 · subst ey eH
   obtain ⟨z,hd,vs,rel,dd⟩:=dk_of I.hok e
   have hz:vs.length≤sizeLine:=by rw [← rel.length];exact z
   have hl:(putK kvs k v).length≤sizeLine:=by have:=length_putK kvs k v;omega
   refine wpAny_setItem_pairs (hsz:=hz) (kV_is ry) dd fun h' dd' hs=>h _ ?_
   have he:∃q,h'.get? a=some q:=let ⟨q,_,_,hq,_⟩:=dd';⟨q,hq⟩
   exact d_write I (by rw [e];exact True.intro) hs he (dk_new hl hd (rel.put k rv) dd')
 · subst ey eH
   cases (show u=Value.ref b from ry)
   obtain ⟨z,hd,xs,rel,dd⟩:=dt_of I.hok e
   have hz:xs.length≤sizeLine:=by rw [← Paired.length rel];exact z
   have hl:(putK kvs k v).length≤sizeLine:=by have:=length_putK kvs k v;omega
   refine wpAny_setItem_heap (hsz:=hz) (tupleKind_room_in1 hu) (key_of I.hok eb) dd fun h' dd' hs=>h _ ?_
   obtain ⟨q,es,ep,hq,h2,h3,h4,_,h5⟩:=dd'
   refine d_write I (by rw [e];exact True.intro) hs ⟨q,hq⟩ ⟨hl,hd,_,(rel.put k eb rv).keeps fun c ys ec=>?_,q,es,ep,hq,h2,h3,h4,h5⟩
   rw [upd_ne (ne_of ec e (fun z=>nomatch z))]
   exact ec
end
section
variable {X:Cx} {pins:List (Addr×Obj)} {σ:St} {H:Hp} {s:Shared} {a:Addr} {kvs:List (Key×V)} {k:Key} {u:Value} {A:Around} {E:Value→Shared→Prop}
theorem d_len{Q:Value→Shared→Prop}(I:Inv X pins σ H s)(e:Rd H a (.dK kvs))(h:∀t s',Inv X pins σ H s'→Q (.int kvs.length t) s'):wpAny (model X.prog X.w) A (call (.builtin "len") [.ref a]) Q E s:=by
 obtain ⟨z,hd,vs,rel,dd⟩:=dk_rd I.hok e
 refine call_len_dict hd dd (by rw [← rel.length];rw [sizeLine_eq]at z;omega) ?_
 rw [← rel.length]
 exact h _ _ (I.tok _)
end
noncomputable def NoSl(i:Expr):Prop:=∀ov iv,subscripted i false ov iv=operate [ov,iv] (getItem ov iv)
theorem subD_of{prog:Program}{w:World}{A:Around}{E:Value→Shared→Prop}{s:Shared}{env:Env}{value slice:Expr}{pos:Pos}{T id:String}{Q:Value→Shared→Prop}
 (hl:typeLookup (.type T) "__getitem__"=pure (some (.builtin id))) (hs:NoSl slice)
 (h:wpAny (model prog w) A (eval value env) (fun o s₁=>wpAny (model prog w) A (eval slice env) (fun i s₂=>s₂.TypeIs o T∧wpAny (model prog w) A (getItem o i) Q E s₂) E s₁) E s):
 wpAny (model prog w) A (eval (.Subscript value slice pos) env) Q E s:=by
 refine Subscript_ (wpAny_mono h (fun o s₁ h₁=>wpAny_mono h₁ (fun i s₂ h₂=>?_) fun _ _ x=>x) fun _ _ x=>x)
 obtain ⟨hT,h₂⟩:=h₂
 unfold subscriptTail
 refine wpAny_bind ?_
 rw [getitemInPython_of_ne hT.not_modules]
 refine wpAny_bind (wpAny_specialOf hT hl ?_)
 have fin:wpAny (model prog w) A (subscripted slice false o i) (fun r s₃=>wpAny (model prog w) A (letTemporaryGo value o r >>=fun _=>pure r) Q E s₃) E s₂:=by
  rw [hs o i]
  exact wpAny_operating (wpAny_mono h₂ (fun r s₃ h₃=>wpAny_bind (wpAny_letTemporaryGo (wpAny_pure h₃))) fun _ _ x=>x)
 first
  | exact wpAny_pure (wpAny_bind fin)
  | exact wpAny_bind (wpAny_pure (wpAny_bind fin))
  | exact wpAny_bind fin
theorem dict_typeIs{X:Cx}{pins:List (Addr×Obj)}{σ:St}{H:Hp}{s:Shared}{a:Addr}{y:V}{o:Option V}(I:Inv X pins σ H s)(g:DGet H a y o):s.TypeIs (.ref a) "dict":=by
 rcases g with ⟨kvs,k,e,_,_⟩ | ⟨kvs,k,b,e,_,_,_⟩
 · obtain ⟨_,_,vs,_,dd⟩:=dk_rd I.hok e
   exact dd.typeIs
 · obtain ⟨_,_,xs,_,dd⟩:=dt_rd I.hok e
   exact dd.typeIs
noncomputable def tDGet(td ty:TE):TE:=fun σ H Q=>td σ H fun x H1=>ty σ H1 fun y H2=>∃a v,x= .ref a∧DGet H2 a y (some v)∧Q v H2
noncomputable def tDIn(ty td:TE):TE:=fun σ H Q=>ty σ H fun y H1=>td σ H1 fun x H2=>∃a o,x= .ref a∧DGet H2 a y o∧Q (.bl o.isSome) H2
noncomputable def tDNotIn(ty td:TE):TE:=fun σ H Q=>ty σ H fun y H1=>td σ H1 fun x H2=>∃a o,x= .ref a∧DGet H2 a y o∧Q (.bl (!o.isSome)) H2
noncomputable def sDPut(td ty tv:TE):TS:=fun D σ H=>tv σ H fun v H1=>td σ H1 fun x H2=>ty σ H2 fun y H3=>∃a H4,x= .ref a∧DPut H3 a y v H4∧D.nx σ H4
section
variable {X:Cx} {o i e value:Expr} {pos pos' tpos:Pos} {td ty tv:TE}
theorem pe_dget(hu:X.A.units+1 < cLine)(ho:PE X o td)(hi:PE X i ty)(hs:NoSl i):PE X (.Subscript o i pos) (tDGet td ty):=by
 intro pins s σ H Q I h
 refine subD_of PySem.F.slot_dict_getitem.lookup hs (thn (ho pins s σ H _ I h) fun u s1 ⟨x,H1,I1,rx,q1⟩=>thn (hi pins s1 σ H1 _ I1 q1) fun iv s2 hq_=>?_)
 obtain ⟨y,H2,I2,ry,a,v,ex,g,q2⟩:=hq_
 subst ex
 obtain rfl:u=Value.ref a:=rx
 exact ⟨dict_typeIs I2 g,d_getItem hu I2 g ry fun w' s3 I3 rw'=>⟨v,H2,I3,rw',q2⟩⟩
theorem pc_din(hu:X.A.units+1 < cLine)(hi:PE X i ty)(ho:PE X o td):PC X .In i o (tDIn ty td):=by
 intro pins s σ H Q I h
 refine thn (hi pins s σ H _ I h) fun iv s1 ⟨y,H1,I1,ry,q1⟩=>thn (ho pins s1 σ H1 _ I1 q1) fun u s2 hq_=>?_
 obtain ⟨x,H2,I2,rx,a,ov,ex,g,q2⟩:=hq_
 subst ex
 obtain rfl:u=Value.ref a:=rx
 exact d_in hu I2 g ry fun s3 I3=>⟨.bl ov.isSome,H2,I3,rfl,q2⟩
theorem pc_dnotin(hu:X.A.units+1 < cLine)(hi:PE X i ty)(ho:PE X o td):PC X .NotIn i o (tDNotIn ty td):=by
 intro pins s σ H Q I h
 refine thn (hi pins s σ H _ I h) fun iv s1 ⟨y,H1,I1,ry,q1⟩=>thn (ho pins s1 σ H1 _ I1 q1) fun u s2 hq_=>?_
 obtain ⟨x,H2,I2,rx,a,ov,ex,g,q2⟩:=hq_
 subst ex
 obtain rfl:u=Value.ref a:=rx
 exact d_notIn hu I2 g ry fun s3 I3=>⟨.bl (!ov.isSome),H2,I3,rfl,q2⟩
theorem ps_dput(hu:X.A.units+1 < cLine)(ho:PE X o td)(hi:PE X i ty)(hv:PE X value tv)(hs:swapsWith value (some (.Subscript o i pos')) pos.line X.env=pure false):
 PS X (.Assign [.Subscript o i pos'] value pos) (sDPut td ty tv):=by
 intro pins s σ H D I h
 refine wpAny_Assign_Subscript (thn (hv pins s σ H _ I h) fun r s1 ⟨v,H1,I1,rv,q1⟩=>thn (ho pins s1 σ H1 _ I1 q1) fun u s2 ⟨x,H2,I2,rx,q2⟩=>thn (hi pins s2 σ H2 _ I2 q2) fun iv s3 hq_=>?_) hs
 obtain ⟨y,H3,I3,ry,a,H4,ex,g,q3⟩:=hq_
 subst ex
 obtain rfl:u=Value.ref a:=rx
 exact d_setItem hu I3 g ry rv fun s4 I4=>⟨σ,H4,I4,q3⟩
end
theorem dk_empty{P:Program}{w:World}{H:Hp}(h:Heap)(hb:sysModules < h.objs.size):ObjOk P w H (h.push {cls:= .type "dict",data:= .dict #[]}) h.objs.size (.dK []):=
 ⟨Nat.zero_le _,beq_eq_false_iff_ne.mpr (Ne.symm (Nat.ne_of_lt hb)),[],.nil,Heap.DictOf.new h⟩
noncomputable def tDNewK:TE:=fun _ H Q=>∀p,H p=none→Q (.ref p) (upd H p (.dK []))
section
variable {X:Cx} {pos:Pos}
theorem pe_dnewK:PE X (.Dict [] [] pos) tDNewK:=fun pins s σ H Q I h=>
 wpAny_Dict_empty ⟨.ref s.heap.objs.size,_,I.laid (a:=s.heap.objs.size) (o:= .dK []) (t':=s.toks) (fun _ _ q=>Heap.get?_push_of_some _ q) (Nat.le_refl _) (dk_empty s.heap I.big),rfl,h _ (I.hok.fresh (Nat.le_refl _))⟩
end
noncomputable def tPairs:List (TE×TE)→St→Hp→(List (V×V)→Hp→Prop)→Prop
 | [],_,H,Q=>Q [] H
 | (tk,tv)::r,σ,H,Q=>tk σ H fun x H1=>tv σ H1 fun y H2=>tPairs r σ H2 fun ps H3=>Q ((x,y)::ps) H3
noncomputable abbrev VV:List (V×V)→List (Value×Value)→Prop:=Paired fun p q=>RelV p.1 q.1∧RelV p.2 q.2
noncomputable def PPs(X:Cx)(pos:Pos)(keys:List (Option Expr))(values:List Expr)(trs:List (TE×TE)):Prop:=
 ∀(pins:List (Addr×Obj)) (s:Shared) (σ:St) (H:Hp) (Q:List (V×V)→Hp→Prop),Inv X pins σ H s→tPairs trs σ H Q→
   wpAny (model X.prog X.w) X.A (evalPairs (pairTrees keys values X.env pos)) (fun vs s'=>∃ps H',Inv X pins σ H' s'∧VV ps vs∧Q ps H') X.xe s
theorem pps_nil{X:Cx}{pos:Pos}:PPs X pos [] [] []:=fun pins s σ H Q I h=>pairTrees_nil_walk ⟨[],H,I,.nil,h⟩
theorem pps_cons{X:Cx}{pos:Pos}{k v:Expr}{ks:List (Option Expr)}{vs:List Expr}{tk tv:TE}{trs:List (TE×TE)}(hk:PE X k tk)(hv:PE X v tv)(hr:PPs X pos ks vs trs):
 PPs X pos (some k::ks) (v::vs) ((tk,tv)::trs):=fun pins s σ H Q I h=>
 pairTrees_cons_walk (thn (hk pins s σ H _ I h) fun u s1 ⟨x,H1,I1,rx,q1⟩=>thn (hv pins s1 σ H1 _ I1 q1) fun w2 s2 ⟨y,H2,I2,ry,q2⟩=>
  thn (hr pins s2 σ H2 _ I2 q2) fun ws s3 ⟨ps,H3,I3,rel,q3⟩=>⟨(x,y)::ps,H3,I3,.cons ⟨rx,ry⟩ rel,q3⟩)
noncomputable def mergeK(kvs more:List (Key×V)):List (Key×V):=more.foldl (fun acc kv=>putK acc kv.1 kv.2) kvs
theorem KV.merge:∀{more:List (Key×V)} {rs:List (Key×Value)} {kvs:List (Key×V)} {vs:List (Key×Value)},KV more rs→KV kvs vs→KV (mergeK kvs more) (merged vs rs):=by
 intro more rs kvs vs r
 unfold KV at r
 induction r generalizing kvs vs with
 | nil=>intro q;exact q
 | @cons p q ps qs h t ih=>
  intro r0
  have e:KV (putK kvs p.1 p.2) (stored vs q.1 q.2):=by
   have:=r0.put p.1 h.2
   rw [← h.1];exact this
  exact ih e
theorem length_mergeK:∀(more kvs:List (Key×V)),(mergeK kvs more).length≤kvs.length+more.length
 | [],kvs=>by show kvs.length≤kvs.length+0;omega
 | p::r,kvs=>by
  have h1:=length_mergeK r (putK kvs p.1 p.2)
  have h2:=length_putK kvs p.1 p.2
  show (mergeK (putK kvs p.1 p.2) r).length≤_
  rw [List.length_cons];omega
theorem carries_of{P:Program}{w:World}:∀{kvs:List (Key×V)} {ws:List (Value×Value)},VV (kvs.map fun kv=>(kV kv.1,kv.2)) ws→∃rs,Carries (mixKind P w) ws rs∧KV kvs rs
 | [],_,r=>by rw [List.map_nil]at r;cases r;exact ⟨[],True.intro,.nil⟩
 | p::kvs,_,r=>by
  rw [List.map_cons]at r
  cases r with
  | @cons a b as bs h t=>
   obtain ⟨rs,c,q⟩:=carries_of (P:=P) (w:=w) t
   obtain ⟨b1,b2⟩:=b
   exact ⟨(p.1,b2)::rs,⟨kV_is h.1,rfl,c⟩,.cons ⟨rfl,h.2⟩ q⟩
noncomputable def tDisp(trs:List (TE×TE)):TE:=fun σ H Q=>∀p,H p=none→tPairs trs σ (upd H p (.dK [])) fun ps H2=>H2 p=some (.dK [])∧∃kvs:List (Key×V),ps=kvs.map (fun kv=>(kV kv.1,kv.2))∧kvs.length≤15∧Q (.ref p) (upd H2 p (.dK (mergeK [] kvs)))
theorem pe_disp{X:Cx}{pos:Pos}{keys:List (Option Expr)}{values:List Expr}{trs:List (TE×TE)}(h:PPs X pos keys values trs)(hall:keys.all (·.isSome)=true)(hl:keys.length=values.length)(h0:keys≠[])
 (h15:keys.length≤15):PE X (.Dict keys values pos) (tDisp trs):=by
 intro pins s σ H Q I q
 have hn:=I.hok.fresh (Nat.le_refl s.heap.objs.size)
 have I1:=I.laid (a:=s.heap.objs.size) (o:= .dK []) (h':=s.heap.push {cls:= .type "dict",data:= .dict #[]}) (t':=s.toks) (fun _ _ q=>Heap.get?_push_of_some _ q) (Nat.le_refl _) (dk_empty s.heap I.big)
 refine wpAny_Dict_walk (knd:=mixKind X.prog X.w) hall hl h0 h15 (thn (h pins _ σ _ _ I1 (q _ hn)) fun ws s2 hq_=>?_)
 obtain ⟨ps,H2,I2,rel,e,kvs,ep,lk,q2⟩:=hq_
 subst ep
 obtain ⟨rs,c,rk⟩:=carries_of (P:=X.prog) (w:=X.w) rel
 obtain ⟨z,hd,vs0,r0,dd⟩:=dk_of I2.hok e
 cases r0
 refine ⟨rs,c,dd,fun h' dd' hs=>⟨.ref s.heap.objs.size,_,?_,rfl,q2⟩⟩
 have hz:(mergeK [] kvs).length≤sizeLine:=by
  have h1:=length_mergeK kvs []
  rw [List.length_nil]at h1
  rw [sizeLine_eq];omega
 have he:∃q,h'.get? s.heap.objs.size=some q:=let ⟨q,_,_,hq,_⟩:=dd';⟨q,hq⟩
 exact d_write I2 (by rw [e];exact True.intro) hs he (dk_new hz hd (rk.merge .nil) dd')
structure M1(X:Cx)(o:Expr)(m:Str)(apos:Pos)(e:Expr)(cpos:Pos):Prop where
 base:attributeBase o m X.env (eval o X.env)=eval o X.env
 few:((backTo cpos (starEach [e] X.env)).all (fun x=>!x.1) && (backToKw cpos (keywordEach [] X.env)).all (fun x=>x.1.isSome)
  && decide (([e]:List Expr).length+([]:List Keyword).length+(if ([]:List Keyword).isEmpty then 0 else 1) < 30))=true
 line:(apos.endLine==cpos.line)=true
 trees:backTo cpos (starEach [e] X.env)=[(false,eval e X.env)]
noncomputable def IsD(H:Hp)(a:Addr):Prop:=(∃kvs,Rd H a (.dK kvs))∨∃kvs,Rd H a (.dT kvs)
theorem isD_at{X:Cx}{pins:List (Addr×Obj)}{σ:St}{H:Hp}{s:Shared}{a:Addr}(I:Inv X pins σ H s)(d:IsD H a):
 s.TypeIs (.ref a) "dict"∧(∀b,Value.ref a= .ref b→∃ob,s.heap.get? b=some ob∧ob.dict=none)∧(a==sysModules)=false:=by
 rcases d with ⟨kvs,e⟩ | ⟨kvs,e⟩
 · obtain ⟨_,hd,vs,_,dd⟩:=dk_rd I.hok e
   refine ⟨dd.typeIs,fun b q=>?_,hd⟩
   cases q
   obtain ⟨ob,_,_,h1,h2,_⟩:=dd
   exact ⟨ob,h1,h2.2.1⟩
 · obtain ⟨_,hd,xs,_,dd⟩:=dt_rd I.hok e
   refine ⟨dd.typeIs,fun b q=>?_,hd⟩
   cases q
   obtain ⟨ob,_,_,h1,h2,_⟩:=dd
   exact ⟨ob,h1,h2.2.1⟩
section
variable {X:Cx} {pins:List (Addr×Obj)} {σ:St} {H:Hp} {s:Shared} {a:Addr} {y d:V} {u r:Value} {o:Option V} {A:Around} {E:Value→Shared→Prop}
theorem d_get1{Q:Value→Shared→Prop}(hu:A.units+1 < cLine)(I:Inv X pins σ H s)(g:DGet H a y o)(ry:RelV y u)(h:∀w' s',Inv X pins σ H s'→RelV (o.getD .non) w'→Q w' s'):
 wpAny (model X.prog X.w) A (call (.builtin "dict.get") [.ref a,u]) Q E s:=by
 rcases g with ⟨kvs,k,e,ey,l⟩ | ⟨kvs,k,b,e,ey,eb,l⟩
 · subst ey
   obtain ⟨z,hd,vs,rel,dd⟩:=dk_rd I.hok e
   refine call_meetsIn PySem.F.slot_dict_get dd.typeIs PySem.F.entry_dict_get (PySem.F.args_dict_get_2 _ _) (meets_dict_get (mixKind X.prog X.w) a (kV_is ry) hd) ⟨_,dd.mapOf,h _ _ (I.tok _) ?_⟩
   rw [l]
   exact (rel.val k).getD rfl
 · subst ey
   cases (show u=Value.ref b from ry)
   obtain ⟨z,hd,xs,rel,dd⟩:=dt_rd I.hok e
   refine call_meetsIn PySem.F.slot_dict_get dd.typeIs PySem.F.entry_dict_get (PySem.F.args_dict_get_2 _ _) (meetsH_dict_get (tupleKind (mixKind X.prog X.w)) a b hd) ⟨tupleKind_room_in1 hu,k,xs,key_of I.hok eb,dd,h _ _ (I.tok _) ?_⟩
   rw [l]
   exact (rel.val k).getD rfl
end
noncomputable def tDGet1(td ty:TE):TE:=fun σ H Q=>td σ H fun x H1=>∃a,x= .ref a∧IsD H1 a∧ty σ H1 fun y H2=>∃o,DGet H2 a y o∧Q (o.getD .non) H2
section
variable {X:Cx} {o e f:Expr} {apos cpos:Pos} {td ty tx:TE}
theorem pe_dget1(hu:X.A.units+1 < cLine)(ho:PE X o td)(he:PE X e ty)(m:M1 X o "get" apos e cpos):PE X (.Call (.Attribute o "get" apos) [e] [] cpos) (tDGet1 td ty):=by
 intro pins s σ H Q I h
 refine wpAny_Call_method m.base m.few m.line PySem.F.plainAttrs_dict PySem.F.slot_dict_get PySem.F.type_dict_get (thn (ho pins s σ H _ I h) fun u s1 hq_=>?_)
 obtain ⟨x,H1,I1,rx,a,ex,d,q1⟩:=hq_
 subst ex
 obtain rfl:u=Value.ref a:=rx
 obtain ⟨t1,t2,_⟩:=isD_at I1 d
 refine ⟨t1,t2,?_⟩
 rw [m.trees]
 refine Calls.callWith_builtin rfl (Calls.evalArgs_plain (Calls.spliced_cons (thn (he pins s1 σ H1 _ I1 q1) fun iv s2 ⟨y,H2,I2,ry,ov,g,q2⟩=>Calls.spliced_nil ?_)))
 exact d_get1 hu I2 g ry fun w' s3 I3 rw'=>⟨_,H2,I3,rw',q2⟩
end
end L2
namespace L2
section
variable {X:Cx}
theorem call_lenD:CallR X (.builtin "len") (fun xs H Q=>∃a kvs,xs=[V.ref a]∧H a=some (.dK kvs)∧Q (.int kvs.length) H):=by
 intro pins s σ H xs us Q I r h
 obtain ⟨a,kvs,rfl,ha,q⟩:=h
 obtain ⟨u,rfl,ru⟩:=vals1 r
 cases ru
 exact d_len I (.inl ha) fun t s' I'=>⟨.int kvs.length,H,I',⟨t,rfl⟩,q⟩
end
section
variable {κ:Type} [DecidableEq κ]
theorem valV_not{kvs:List (κ×V)}{k:κ}(h:valV kvs k=none):¬k∈kvs.map (·.1):=by
 intro m
 obtain ⟨p,hp,e⟩:=List.mem_map.mp m
 have q:(kvs.any fun kv=>decide (kv.1=k))=true:=List.any_eq_true.mpr ⟨p,hp,decide_eq_true e⟩
 rw [valV_any,h]at q
 exact absurd q (by simp)
theorem valV_in{kvs:List (κ×V)}{k:κ}{v:V}(h:valV kvs k=some v):k∈kvs.map (·.1):=by
 have q:(kvs.any fun kv=>decide (kv.1=k))=true:=by
  rw [valV_any,h]
  all_goals rfl
 obtain ⟨p,hp,e⟩:=List.any_eq_true.mp q
 exact List.mem_map.mpr ⟨p,hp,of_decide_eq_true e⟩
end
end L2
namespace L2
structure Def(P:Program)(w:World)(K:PySem.W.Frag)(mg:Str→Option Value)(base:Heap)(CX:CXT)(k:Nat)(x:Str)(ps:List Str)(sp:Sp):Prop where
 ex:∃(f:Addr) (fd:FuncData),FnOk P w K mg base CX k f fd ps sp∧mg x=some (.ref f)∧PySem.W.keepIn K (.ref f)=true∧Binds K fd ps []
noncomputable def tCallD(sp:Sp)(E:XK)(t:TA):TE:=fun σ H Q=>t σ H fun vs H1=>sp vs H1 Q E
section
variable {X:Cx} {CX:CXT} {k j:Nat} {ps:List Str} {sp:Sp} {E:XK} {x:Str} {p pos:Pos} {e:Expr} {es:List Expr} {t:TA}
theorem pe_callD(D:Def X.prog X.w X.K X.mg X.base CX j x ps sp)(hr:Room k X.A)(hg:Gl X x)(hx:Passes CX X E)(ha:PA X (e::es) t)(hj:j≤k:=by decide)
 (hdb:(x==("__debug__":Str))=false:=by decide) (he:starEach (e::es) X.env=(false,eval e X.env)::starEach es X.env:=by rfl) (hpl:(backTo pos (starEach es X.env)).any (·.1)=false:=by rfl):
 PE X (.Call (.Name x p) (e::es) [] pos) (tCallD sp E t):=by
 obtain ⟨f,fd,F,hm,hk,hb⟩:=D.ex
 intro pins s σ H Q I h
 refine pe_call (F.mono hj) hr hg hm hk hb .nil hx ha hdb he hpl pins s σ H Q I ?_
 show t σ H fun vs H1=>sp (vs++[]) H1 Q E
 have z:(fun (vs:List V) (H1:Hp)=>sp (vs++[]) H1 Q E)=fun vs H1=>sp vs H1 Q E:=by funext vs H1;rw [List.append_nil]
 rw [z]
 exact h
end
theorem big_pow:(10:Nat) ^ 100≤2 ^ 1000:=by decide+kernel
section
variable {X:Cx}
theorem op_fdivB:OpR X (binaryOp .FloorDiv) (rI (fun _ j=>j≠0∧j.natAbs < 10 ^ 100) fun i j=> .int (i.fdiv j)):=opI fun i j _ _ _ _ _ hc q=>by
 refine floordiv_int hc.1 q (.inl (PyProof.noPylong_of_log2 ?_))
 have h0:j.natAbs≠0:=by have:=hc.1;omega
 exact Nat.lt_trans ((Nat.log2_lt h0).mpr (Nat.lt_of_lt_of_le hc.2 big_pow)) (by decide)
end
noncomputable def Isi(K:PySem.W.Frag)(H:Hp)(x:V)(n:String)(b:Bool):Prop:=∃t,TyOf K H x t∧PySem.W.kitOne K t (.type n)=some b
section
variable {X:Cx}
theorem call_isinst:CallR X (.builtin "isinstance") (fun xs H Q=>∃x n b,xs=[x,.ty n]∧Isi X.K H x n b∧Q (.bl b) H):=by
 intro pins s σ H xs us Q I r h
 obtain ⟨x,n,b,rfl,⟨t,ty,e⟩,q⟩:=h
 obtain ⟨u,c,rfl,r1,r2⟩:=vals2 r
 cases r2
 exact isinst_ok I r1 ty e fun tk=>⟨.bl b,H,I.tok _,rfl,q⟩
end
section
variable {K:PySem.W.Frag} {H:Hp}
theorem isi_ii{i:Int}:Isi K H (.int i) "int" true:=⟨_,.int i,rfl⟩
theorem isi_ib{i:Int}:Isi K H (.int i) "bool" false:=⟨_,.int i,by with_unfolding_all rfl⟩
theorem isi_is{i:Int}:Isi K H (.int i) "str" false:=⟨_,.int i,by with_unfolding_all rfl⟩
theorem isi_bb{i:Bool}:Isi K H (.bl i) "bool" true:=⟨_,.bl i,rfl⟩
theorem isi_bi{i:Bool}:Isi K H (.bl i) "int" true:=⟨_,.bl i,by with_unfolding_all rfl⟩
theorem isi_bs{i:Bool}:Isi K H (.bl i) "str" false:=⟨_,.bl i,by with_unfolding_all rfl⟩
theorem isi_ss{i:Str}:Isi K H (.str i) "str" true:=⟨_,.str i,rfl⟩
theorem isi_si{i:Str}:Isi K H (.str i) "int" false:=⟨_,.str i,by with_unfolding_all rfl⟩
theorem isi_sb{i:Str}:Isi K H (.str i) "bool" false:=⟨_,.str i,by with_unfolding_all rfl⟩
theorem isi_ni:Isi K H .non "int" false:=⟨_,.non,by with_unfolding_all rfl⟩
theorem isi_ns:Isi K H .non "str" false:=⟨_,.non,by with_unfolding_all rfl⟩
theorem isi_lstl{a:Addr}{xs:List V}(e:H a=some (.lst xs)):Isi K H (.ref a) "list" true:=⟨_,.lst e,rfl⟩
theorem isi_lsts{a:Addr}{xs:List V}(e:H a=some (.lst xs)):Isi K H (.ref a) "str" false:=⟨_,.lst e,by with_unfolding_all rfl⟩
theorem isi_lsti{a:Addr}{xs:List V}(e:H a=some (.lst xs)):Isi K H (.ref a) "int" false:=⟨_,.lst e,by with_unfolding_all rfl⟩
theorem isi_lstt{a:Addr}{xs:List V}(e:H a=some (.lst xs)):Isi K H (.ref a) "tuple" false:=⟨_,.lst e,by with_unfolding_all rfl⟩
theorem isi_tupt{a:Addr}{xs:List V}(e:H a=some (.tup xs)):Isi K H (.ref a) "tuple" true:=⟨_,.tup e,rfl⟩
theorem isi_tups{a:Addr}{xs:List V}(e:H a=some (.tup xs)):Isi K H (.ref a) "str" false:=⟨_,.tup e,by with_unfolding_all rfl⟩
theorem isi_tupi{a:Addr}{xs:List V}(e:H a=some (.tup xs)):Isi K H (.ref a) "int" false:=⟨_,.tup e,by with_unfolding_all rfl⟩
theorem isi_tupl{a:Addr}{xs:List V}(e:H a=some (.tup xs)):Isi K H (.ref a) "list" false:=⟨_,.tup e,by with_unfolding_all rfl⟩
theorem isi_go{x:V}{n:String}{b:Bool}{R:Bool→Prop}(h:Isi K H x n b)(q:R b):∃b,Isi K H x n b∧R b:=⟨b,h,q⟩
theorem len_goL{p:Addr}{xs:List V}{R:List V→Prop}(h:SqL K H p xs)(q:R xs):∃ys,(SqL K H p ys∨SqT K H p ys)∧R ys:=⟨xs,.inl h,q⟩
theorem len_goT{p:Addr}{xs:List V}{R:List V→Prop}(h:SqT K H p xs)(q:R xs):∃ys,(SqL K H p ys∨SqT K H p ys)∧R ys:=⟨xs,.inr h,q⟩
theorem ixT_of{p:Addr}{xs:List V}{i:Int}{v:V}{Q:VK}(h:SqT K H p xs)(e:atI xs i=some v)(q:Q v H):rIxT K (.ref p) (.int i) H Q:=⟨p,xs,i,v,rfl,rfl,h,e,q⟩
theorem ixL_of{p:Addr}{xs:List V}{i:Int}{v:V}{Q:VK}(h:SqL K H p xs)(e:atI xs i=some v)(q:Q v H):rIxL K (.ref p) (.int i) H Q:=⟨p,xs,i,v,rfl,rfl,h,e,q⟩
end
theorem while_d{c:TT}{tb:TS}{D:Ends}{σ:St}{H:Hp}{m0:Nat}(Pv:Nat→St→Hp→Prop)(h0:Pv m0 σ H)
 (hs:∀m σ H,Pv m σ H→c σ H fun b H1=>if b=true then ∃N:St→Hp→Prop,(∀σ' H',N σ' H'→∃m',m' < m∧Pv m' σ' H')∧tb {D with nx:=N,ct:=N,bk:=D.nx} σ H1 else D.nx σ H1):tWhile c tb D σ H:=⟨Pv,⟨m0,h0⟩,hs⟩
theorem atI_of{α:Type}{xs:List α}{i:Int}{v:α}(h0:0≤i)(h:xs[i.toNat]?=some v):atI xs i=some v:=by
 unfold atI ixN
 have hl:i.toNat < xs.length:=(List.getElem?_eq_some_iff.mp h).1
 rw [if_pos h0,if_pos (show i < xs.length by omega)]
 exact h
theorem cxOf_K{CX:CXT}{P:Program}{w:World}{K:PySem.W.Frag}{mg:Str→Option Value}{base:Heap}{N:List Str}{qual:Str}{scope:Scope}{f:Addr}{cd:Value}{A:Around}{outer:List Env}{s:Shared}{H:Hp}{E:XK}:
 (cxOf CX P w K mg base N qual scope f cd A outer s H E).K=K:=rfl
theorem getMap{ns:List Int}{k:Nat}(h:k < ns.length):(ns.map V.int)[k]?=some (V.int (ns.getD k 0)):=by
 rw [List.getElem?_map,List.getD_eq_getElem?_getD,List.getElem?_eq_getElem h];rfl
theorem Same.tup{K:PySem.W.Frag}{H H':Hp}{a:Addr}{xs:List V}(e:Same H H')(h:SqT K H a xs):SqT K H' a xs:=by
 rcases h with (h | ⟨o,h⟩) | h
 · exact .inl (.inl (e _ _ h))
 · exact .inl (.inr ⟨o,e _ _ h⟩)
 · exact .inr h
theorem Same.new{H:Hp}{p:Addr}{o:HO}(h:H p=none):Same H (upd H p o):=fun b u e=>by
 rw [upd_ne (ne_of_none e h)];exact e
section
variable {σ:St} {H:Hp} {Q:VK} {QT:Bool→Hp→Prop} {QA:List V→Hp→Prop} {D:Ends} {K:PySem.W.Frag}
theorem rd_asg{te:TE}{g:TG}:tAsg te g D σ H=te σ H fun x H1=>g x σ H1 D.nx:=rfl
theorem rd_var{i:Nat}:tVar i σ H Q=∃v,σ[i]?=some (some v)∧Q v H:=rfl
theorem rd_c{v:V}:tC v σ H Q=Q v H:=rfl
theorem rd_op{r:R2}{ta tb:TE}:tOp r ta tb σ H Q=ta σ H fun x H1=>tb σ H1 fun y H2=>r x y H2 Q:=rfl
theorem rd_I0{g:Int→Int→V}{x y:V}:rI0 g x y H Q=∃i j,x= .int i∧y= .int j∧Q (g i j) H:=rfl
theorem rd_I{C:Int→Int→Prop}{g:Int→Int→V}{x y:V}:rI C g x y H Q=∃i j,x= .int i∧y= .int j∧C i j∧Q (g i j) H:=rfl
theorem rd_U{g:Int→V}{x:V}:rU g x H Q=∃i,x= .int i∧Q (g i) H:=rfl
theorem rd_name{i:Nat}{v:V}{N:St→Hp→Prop}:gName i v σ H N=N (σ.set i (some v)) H:=rfl
theorem rd_ifS{c:TT}{t u:TS}:tIfS c t u D σ H=c σ H fun b H1=>if b=true then t D σ H1 else u D σ H1:=rfl
theorem rd_test{t:TE}:tTest t σ H QT=t σ H fun x H'=>∃k,x= .bl k∧QT k H':=rfl
theorem rd_b{t:TE}:tB t σ H QT=t σ H fun x H1=>∃c,x= .bl c∧QT c H1:=rfl
theorem rd_ret{te:TE}:tRet te D σ H=te σ H D.rt:=rfl
theorem rd_retN:tRetN D σ H=D.rt .non H:=rfl
theorem rd_next:tNext D σ H=D.nx σ H:=rfl
theorem rd_break:tBreak D σ H=D.bk σ H:=rfl
theorem rd_cont:tCont D σ H=D.ct σ H:=rfl
theorem rd_cb{r:List V→Hp→VK→Prop}{t:TA}:tCB r t σ H Q=t σ H fun vs H1=>r vs H1 Q:=rfl
theorem rd_cons{ta:TE}{tr:TA}:tCons ta tr σ H QA=ta σ H fun x H1=>tr σ H1 fun xs H2=>QA (x::xs) H2:=rfl
theorem rd_nil:tNil σ H QA=QA [] H:=rfl
theorem rd_call{sp:Sp}{E:XK}{t:TA}:tCallD sp E t σ H Q=t σ H fun vs H1=>sp vs H1 Q E:=rfl
theorem rd_not{t:TT}:tNot t σ H QT=t σ H fun c H1=>QT (!c) H1:=rfl
theorem rd_or{t u:TT}:tOr t u σ H QT=t σ H fun c H1=>if c=true then QT true H1 else u σ H1 QT:=rfl
theorem rd_and{t u:TT}:tAnd t u σ H QT=t σ H fun c H1=>if c=true then u σ H1 QT else QT false H1:=rfl
theorem rd_andV{ta tb:TE}:tAndV ta tb σ H Q=ta σ H fun x H1=>∃c,x= .bl c∧if c=true then tb σ H1 Q else Q (.bl false) H1:=rfl
theorem rd_orV{ta tb:TE}:tOrV ta tb σ H Q=ta σ H fun x H1=>∃c,x= .bl c∧if c=true then Q (.bl true) H1 else tb σ H1 Q:=rfl
theorem rd_notV{ta:TE}:tNotV ta σ H Q=ta σ H fun x H1=>∃c,x= .bl c∧Q (.bl (!c)) H1:=rfl
theorem rd_if{t:TT}{ta tb:TE}:tIf t ta tb σ H Q=t σ H fun c H1=>if c=true then ta σ H1 Q else tb σ H1 Q:=rfl
theorem rd_un{r:V→Hp→VK→Prop}{ta:TE}:tUn r ta σ H Q=ta σ H fun x H1=>r x H1 Q:=rfl
theorem rd_eq{x y:V}:rEq x y H Q=(scal x y=true∧Q (.bl (decide (x=y))) H):=rfl
theorem rd_ne{x y:V}:rNe x y H Q=(scal x y=true∧Q (.bl (!decide (x=y))) H):=rfl
theorem rd_par{i j:Nat}{ta:TA}:tPar i j ta D σ H=ta σ H fun vs H1=>∃v w,vs=[v,w]∧D.nx ((σ.set i (some v)).set j (some w)) H1:=rfl
theorem rd_tup{t:TA}:tTup t σ H Q=t σ H fun xs H1=>xs.length≤sizeLine∧∀p,H1 p=none→Q (.ref p) (upd H1 p (.tup xs)):=rfl
theorem rd_lst{t:TA}:tLst t σ H Q=t σ H fun xs H1=>xs.length≤sizeLine∧∀p,H1 p=none→Q (.ref p) (upd H1 p (.lst xs)):=rfl
theorem rd_never:tNever D σ H=False:=rfl
theorem rd_drop{te:TE}:tDrop te D σ H=te σ H fun _ H1=>D.nx σ H1:=rfl
theorem rd_gcons{t:TG}{u:TGs}{vs:List V}{N:St→Hp→Prop}:gCons t u vs σ H N=∃v r,vs=v::r∧t v σ H fun σ' H'=>u r σ' H' N:=rfl
theorem rd_gnil{vs:List V}{N:St→Hp→Prop}:gNil vs σ H N=(vs=[]∧N σ H):=rfl
theorem rd_gsub{to ti:TE}{t:TSet}{v:V}{N:St→Hp→Prop}:gSub to ti t v σ H N=to σ H fun o H1=>ti σ H1 fun i H2=>t o i v H2 fun H3=>N σ H3:=rfl
theorem rd_chain{r r':R2}{ta tb tc:TE}:tChain r r' ta tb tc σ H Q=ta σ H fun x H1=>tb σ H1 fun y H2=>r x y H2 fun z H3=>∃k,z= .bl k∧
 (if k=true then tc σ H3 fun w' H4=>r' y w' H4 Q else Q (.bl false) H3):=rfl
theorem rd_rng1{ta:TA}{R:It→Hp→Prop}:iRng1 ta σ H R=ta σ H fun vs H1=>∃j:Int,vs=[.int j]∧-(2 ^ 62)≤j∧j < 2 ^ 62∧R (Itr 0 j.toNat) H1:=rfl
theorem rd_rng2{ta:TA}{R:It→Hp→Prop}:iRng2 ta σ H R=ta σ H fun vs H1=>∃i j:Int,vs=[.int i,.int j]∧(-(2 ^ 62)≤i∧i < 2 ^ 62∧-(2 ^ 62)≤j∧j < 2 ^ 62)∧R (Itr i (j - i).toNat) H1:=rfl
theorem rd_ilist{tl:TE}{R:It→Hp→Prop}:iList K tl σ H R=tl σ H fun x H1=>∃a,x= .ref a∧(∃xs,SqL K H1 a xs)∧R (Itl K a) H1:=rfl
theorem rd_itup{tl:TE}{R:It→Hp→Prop}:iTup K tl σ H R=tl σ H fun x H1=>∃a,x= .ref a∧(∃xs,SqT K H1 a xs)∧R (Itt K a) H1:=rfl
noncomputable def ForTail(g:TG)(tb:TS)(D:Ends)(σ:St):It→Hp→Prop:=fun J H1=>∃W:Nat→Nat→St→Hp→Prop,(∃m,W 0 m σ H1)∧∀i m σ H,W i m σ H→
 (J.stop i H∧D.nx σ H)∨(J.go i H∧∃N:St→Hp→Prop,(∀σ' H',N σ' H'→∃m',m' < m∧W (i+1) m' σ' H')∧∀x H',J.yld i H x H'→g x σ H' fun σ2 H2=>tb {D with nx:=N,ct:=N,bk:=D.nx} σ2 H2)
theorem rd_for'{wi:TI}{g:TG}{tb:TS}:tFor wi g tb D σ H=wi σ H (ForTail g tb D σ):=rfl
theorem forR_by{lo:Int}{n:Nat}{g:TG}{tb:TS}(Pv:Nat→St→Hp→Prop)(h0:Pv 0 σ H)
 (hs:∀i σ H,i < n→Pv i σ H→g (.int (lo+i)) σ H fun σ2 H2=>tb {D with nx:=Pv (i+1),ct:=Pv (i+1),bk:=D.nx} σ2 H2) (hd:∀σ H,Pv n σ H→D.nx σ H):ForTail g tb D σ (Itr lo n) H:=for_range Pv h0 hs hd
theorem forL_by{a:Addr}{xs:List V}{g:TG}{tb:TS}(Pv:Nat→St→Hp→Prop)(h0:Pv 0 σ H)(hl:∀i σ H,i≤xs.length→Pv i σ H→SqL K H a xs)
 (hs:∀i x σ H,xs[i]?=some x→Pv i σ H→g x σ H fun σ2 H2=>tb {D with nx:=Pv (i+1),ct:=Pv (i+1),bk:=D.nx} σ2 H2) (hd:∀σ H,Pv xs.length σ H→D.nx σ H):ForTail g tb D σ (Itl K a) H:=for_list Pv h0 hl hs hd
theorem seq_go{t u:TS}(h:∀rest:St→Hp→Prop,rest=u D→t {D with nx:=rest} σ H):tSeq t u D σ H:=h _ rfl
theorem leaf_go{rest r:St→Hp→Prop}(h:rest=r)(q:r σ H):rest σ H:=by rw [h];exact q
theorem cell_go{a:Addr}{ns:List Int}{k:Int}{R:List Int→Prop}(h:SqL K H a (ns.map V.int))(h0:0≤k)(hl:ns.length≤63)(q:R ns):∃x:List Int,SqL K H a (x.map V.int)∧0≤k∧x.length≤63∧R x:=⟨ns,h,h0,hl,q⟩
theorem cdiv_of{i j:Int}(h1:0 < j)(h2:j < 1073741824):CDiv i j:=⟨h1,h2⟩
theorem cpow_of{i j:Int}(h1:0≤j)(h2:j≤1000000)(h3:i.natAbs < 2 ^ 64):CPow i j:=⟨h1,h2,h3⟩
theorem cmul_l{i j:Int}(h1:-(2 ^ 64) < i)(h2:i < 2 ^ 64):CMul i j:= .inl ⟨h1,h2⟩
theorem cmul_r{i j:Int}(h1:-(2 ^ 64) < j)(h2:j < 2 ^ 64):CMul i j:= .inr ⟨h1,h2⟩
end
end L2
namespace L2
section
variable {P:Program} {w:World} {H:Hp} {h:Heap} {a:Addr} {o:HO}
theorem ObjOk.there(x:ObjOk P w H h a o):∃ob,h.get? a=some ob:=by
 cases o with
 | lst xs=>obtain ⟨_,_,_,_,e⟩:=x;exact ⟨_,e⟩
 | tup xs=>obtain ⟨_,_,_,_,e,_⟩:=x;exact ⟨_,e⟩
 | dK kvs=>obtain ⟨_,_,_,_,_,_,_,e,_⟩:=x;exact ⟨_,e⟩
 | dT kvs=>obtain ⟨_,_,_,_,_,_,_,e,_⟩:=x;exact ⟨_,e⟩
 | set S n=>obtain ⟨_,_,_,_,e,_⟩:=x;exact ⟨_,e⟩
 | ins C dx fs=>obtain ⟨_,_,_,e,_⟩:=x;exact ⟨_,e⟩
 | own y=>exact x
 | xd fs=>obtain ⟨_,⟨_,_,_,e,_⟩,_⟩:=x;exact ⟨_,e⟩
 | rng lo hi=>obtain ⟨_,_,_,e⟩:=x;exact ⟨_,e⟩
 | frz ob u=>exact ⟨_,x.1⟩
 | tbl ps=>exact ⟨_,x⟩
 | met f y=>exact ⟨_,x⟩
 | ext φ=>exact x.2.1
theorem HOk.there(x:HOk P w H h)(e:H a=some o):∃ob,h.get? a=some ob:=(x a o e).there
end
noncomputable def Spares(fs:List Addr)(H':Hp)(g h B:Heap):Prop:=∀b o,h.get? b=some o→b∉fs→(H' b≠none∨∃u,g.get? b=some u)→B.get? b=some o
section
variable {P:Program} {w:World}
theorem stay_of{fs:List Addr}{H0 H':Hp}{g h h3 B:Heap}(u:Un fs [] H0 H' g h)(ok:HOk P w H' h)
 (hfr:∀b∈fs,∃o,g.get? b=some o∧∀vs,o.data≠ .fields vs) (hf0:∀b∈fs,H0 b=none) (hB:Spares fs H' g h B) (st:B.StaysIn h3) (up:h.UpToSlots h3):
 Un fs [] H0 H' g h3∧HOk P w H' h3∧Spares fs H' g h3 B:=by
 have fr':∀b∈fs,H' b=none:=fun b hb=>by
  obtain ⟨o,ho,_⟩:=hfr b hb
  exact u.free b o ho (hf0 b hb) (by simp)
 have tr:∀b o,H' b=some o→b∉fs:=fun b o e hb=>by rw [fr' b hb]at e;cases e
 have kp:∀b ob,h.get? b=some ob→b∉fs→(H' b≠none∨∃u,g.get? b=some u)→h3.get? b=some ob:=fun b ob e n c=>st b ob (hB b ob e n c)
 have sl:∀b o,g.get? b=some o→H0 b=none→b∈fs→b∉([]:List Addr)→∃sl,h3.get? b=some {o with slots:=sl}:=fun b o e n hb hx=>by
  obtain ⟨sl,e1⟩:=u.slot b o e n hb hx
  obtain ⟨o',e',d⟩:=hfr b hb
  rw [e]at e';cases e'
  obtain ⟨sl2,e2⟩:=up b _ e1 d
  exact ⟨sl2,e2⟩
 refine ⟨⟨fun b o e n hb hx=>kp b o (u.keep b o e n hb hx) hb (.inr ⟨o,e⟩),sl,u.free,fun b o e hx=>?_,u.tups,u.frzs,u.tbls⟩,fun a o e=>?_,fun b o e hb c=>?_⟩
 · by_cases hb:b∈fs
   · obtain ⟨s1,e1⟩:=sl b o e (hf0 b hb) hb hx
     exact ⟨_,e1⟩
   · obtain ⟨o',e1⟩:=u.there b o e hx
     exact ⟨o',kp b o' e1 hb (.inr ⟨o,e⟩)⟩
 · refine (ok a o e).stay (fun b v hc q=>kp b v q ?_ (.inl ?_)) (fun _ q=>q) fun _ _ q=>q
   · rcases hc with rfl | hc
     · exact tr _ _ e
     · exact tr _ _ hc
   · rcases hc with rfl | hc
     · rw [e];simp
     · rw [hc];simp
 · have z:∃o1,h.get? b=some o1:=by
    rcases c with c | ⟨u0,e0⟩
    · cases q:H' b with
      | none=>exact absurd q c
      | some v=>exact ok.there q
    · exact u.there b u0 e0 (by simp)
   obtain ⟨o1,e1⟩:=z
   have e2:=kp b o1 e1 hb c
   rw [e]at e2;cases e2
   exact hB b o e1 hb c
end
noncomputable def CXE(P:Program)(w:World):CXT:=fun outer H s E e s'=>∃(x:Addr) (cls a0:Value) (H':Hp) (B:Heap),e= .ref x∧s'.os=s.os∧AllBare s'.gens∧Un (frs outer) [] H H' s.heap s'.heap∧HOk P w H' s'.heap∧
 Heap.FlyingW B outer x cls a0 s'.heap∧Spares (frs outer) H' s.heap s'.heap B∧H' x=none∧s.heap.get? x=none∧E cls (some x) H'
section
variable {X:Cx} {pins:List (Addr×Obj)} {σ:St} {H1 H2:Hp} {s1:Shared} {h2 h3 B:Heap}
theorem Inv.frm(I:Inv X pins σ H1 s1):∀b∈frs X.stack,∃o,s1.heap.get? b=some o∧∀vs,o.data≠ .fields vs:=fun b hb=>(I.stack.mem hb).2
theorem leave_of(I:Inv X pins σ H1 s1)(hex:X.ex=[])(u:Un (frs X.stack) [] H1 H2 s1.heap h2)(ok:HOk X.prog X.w H2 h2)(hB:Spares (frs X.stack) H2 s1.heap h2 B)(st:B.StaysIn h3)(up:h2.UpToSlots h3):
 Un X.fs [] X.H₀ H2 X.s₀.heap h3∧HOk X.prog X.w H2 h3∧Spares X.fs H2 X.s₀.heap h3 B:=by
 obtain ⟨U,ok3,hB3⟩:=stay_of u ok I.frm I.stkFree hB st up
 have bs:=I.base
 rw [hex]at bs
 have nl:∀b o,X.s₀.heap.get? b=some o→b≠X.env.locals:=fun b o e=>Nat.ne_of_lt (Nat.lt_of_lt_of_le (Heap.lt_size e) I.ok.above)
 have ns:∀b o,X.s₀.heap.get? b=some o→b∉X.fs→b∉frs X.stack:=fun b o e n hb=>(List.mem_cons.mp (I.stkSub b hb)).elim (nl b o e) n
 have sub:∀b∈X.fs,b∈frs X.stack:=fun b hb=>by
  rcases I.ok.stk with e | ⟨e,hf⟩
  · rw [e];exact hb
  · rw [e];unfold frs;rw [List.filterMap_cons,hf];exact List.mem_cons_of_mem _ hb
 have nt:∀b,H2 b≠none→b∉frs X.stack:=fun b c hb=>by
  obtain ⟨o,ho,_⟩:=I.frm b hb
  exact c (U.free b o ho (I.stkFree b hb) (by simp))
 refine ⟨⟨fun b o e n hb hx=>?_,fun b o e n hb hx=>?_,fun b o e n hx=>?_,fun b o e hx=>?_,fun b xs e=>U.tups b xs (bs.tups b xs e),fun b o v e=>U.frzs b o v (bs.frzs b o v e),fun b ps e=>?_⟩,ok3,fun b o e hb c=>?_⟩
 · exact U.keep b o (bs.keep b o e n hb hx) (bs.free b o e n hx) (ns b o e hb) hx
 · obtain ⟨sl,e1⟩:=bs.slot b o e n hb hx
   obtain ⟨sl2,e2⟩:=U.slot b _ e1 (bs.free b o e n hx) (sub b hb) hx
   exact ⟨sl2,e2⟩
 · obtain ⟨o',e1⟩:=bs.there b o e hx
   exact U.free b o' e1 (bs.free b o e n hx) hx
 · obtain ⟨o',e1⟩:=bs.there b o e hx
   exact U.there b o' e1 hx
 · obtain ⟨m1,e1⟩:=bs.tbls b ps e
   obtain ⟨m2,e2⟩:=U.tbls b _ e1
   exact ⟨m1++m2,by rw [e2,Array.append_assoc]⟩
 · rcases c with c | ⟨v,e0⟩
   · exact hB3 b o e (nt b c) (.inl c)
   · obtain ⟨o',e1⟩:=bs.there b v e0 (by simp)
     exact hB3 b o e (ns b v e0 hb) (.inr ⟨o',e1⟩)
end
section
variable {P:Program} {w:World} {K:PySem.W.Frag} {mg:Str→Option Value} {base:Heap} {N:List Str} {qual:Str} {scope:Scope} {f:Addr} {cd:Value} {A:Around} {outer:List Env} {s:Shared} {H:Hp} {E:XK}
theorem raise_out{pins:List (Addr×Obj)}{σ:St}{H1:Hp}{s1:Shared}{h':Heap}{x:Addr}{cls:Value}{args:List Value}(I:Inv (cxOf (CXE P w) P w K mg base N qual scope f cd A outer s H E) pins σ H1 s1)
 (hx:Heap.MadeExcOf s1.heap h' x cls args) (q:E cls (some x) H1):(cxOf (CXE P w) P w K mg base N qual scope f cd A outer s H E).xe (.ref x) {s1 with heap:=h'}:=by
 have hin:∀env∈(cxOf (CXE P w) P w K mg base N qual scope f cd A outer s H E).stack,∀a,env.frame=some a→a∈frs (cxOf (CXE P w) P w K mg base N qual scope f cd A outer s H E).stack:=fun env he a ha=>List.mem_filterMap.mpr ⟨env,he,ha⟩
 have hB:Spares (frs (cxOf (CXE P w) P w K mg base N qual scope f cd A outer s H E).stack) H1 s1.heap h' (PySem.W.hideAll s1.heap (frs (cxOf (CXE P w) P w K mg base N qual scope f cd A outer s H E).stack)):=fun b o e hb c=>by
  have z:∃o1,s1.heap.get? b=some o1:=by
   rcases c with c | z
   · cases q:H1 b with
     | none=>exact absurd q c
     | some v=>exact I.hok.there q
   · exact z
  obtain ⟨o1,e1⟩:=z
  have e2:=hx.keeps b o1 e1
  rw [e]at e2;cases e2
  exact PySem.W.hideAll_get _ e1 hb
 refine wpAny_leaves_madeW (base:=PySem.W.hideAll s1.heap (frs (cxOf (CXE P w) P w K mg base N qual scope f cd A outer s H E).stack)) I.ok.frames rfl (fun b o e=>PySem.W.of_hideAll _ e) (PySem.W.funFrames_hide I.stack hin) hx fun h3 t fl tu bt up=>?_
 obtain ⟨U,ok3,hB3⟩:=leave_of I rfl (Un.kept hx.keeps) (I.hok.kept hx.keeps) hB fl.1 up
 refine ⟨x,cls,.ref t,H1,_,rfl,I.os,I.bare,U,ok3,fl,hB3,?_,?_,q⟩
 · cases z:H1 x with
   | none=>rfl
   | some v=>
    obtain ⟨o1,e1⟩:=I.hok.there z
    rw [hx.new]at e1;cases e1
 · cases z:s.heap.get? x with
   | none=>rfl
   | some v=>
    obtain ⟨o1,e1⟩:=I.base.there x v z (by intro c;exact absurd (show x∈([]:List Addr) from c) (by simp))
    rw [hx.new]at e1;cases e1
theorem pass_on:Passes (CXE P w) (cxOf (CXE P w) P w K mg base N qual scope f cd A outer s H E) E:=by
 intro pins σ H1 s1 e s2 I h
 obtain ⟨x,cls,a0,H2,B,rfl,os,bare,u,ok,fl,hB,hx,hnew,q⟩:=h
 refine wpAny_leaves_onW (base:=B) I.ok.frames rfl fl fun h3 fl3 up=>?_
 obtain ⟨U,ok3,hB3⟩:=leave_of I rfl u ok hB fl3.1 up
 refine ⟨x,cls,a0,H2,B,rfl,os.trans I.os,bare,U,ok3,fl3,hB3,hx,?_,q⟩
 cases z:s.heap.get? x with
 | none=>rfl
 | some v=>
  obtain ⟨o1,e1⟩:=I.base.there x v z (by intro c;exact absurd (show x∈([]:List Addr) from c) (by simp))
  rw [hnew]at e1;cases e1
theorem own_out:PassesOwn (model P w) (A.deeper (envOfC qual scope s.heap.objs.size f cd)) (envOfC qual scope s.heap.objs.size f cd) (cxOf (CXE P w) P w K mg base N qual scope f cd A outer s H E).xe:=PassesOwn.leaving
theorem Fun.okE{x:Str}{st:Stmt}{fd:FuncData}{ps:List Str}{k:Nat}{sp:Sp}(F:Fun K x qual st f fd)(S:FnScope N ps (defScope st))(len:∀vs H Q E,sp vs H Q E→vs.length=ps.length)
 (hbody:∀(cdv:Value) (A:Around) (outer:List Env) (s:Shared) (H:Hp) (vs:List V) (Q:VK) (E:XK),Room k (A.deeper (envOfC qual (defScope st) s.heap.objs.size f cdv))→sp vs H Q E→
  ∃t,PSs (cxOf (CXE P w) P w K mg base N qual (defScope st) f cdv A outer s H E) (defBody st) t∧t {nx:=fun _ H'=>Q .non H',rt:=Q} (start N vs) H):FnOk P w K mg base (CXE P w) (k+1) f fd ps sp:=by
 obtain ⟨oc,od,kV,doc,pm,an,cdv,ct,osl,rfl,lk,hcd⟩:=F.ex
 exact fn_of lk hcd S len fun A outer s H vs Q E hr hsp=>hbody cdv A outer s H vs Q E hr hsp
end
end L2
namespace L2
structure ExcC(K:PySem.W.Frag)(C:Addr):Prop where
 at_:∀h:Heap,K.In h→∃(nm q:Str) (N:Addr) (bs bm:List Value) (hdct:Bool) (sn:List Str) (sub:List Value) (ab:Bool) (col:Option Bool) (dd:Option Addr) (k0 k1 k2 k3 k5:Option Value) (mN:Str→Option Value),
  h.get? C=some (excClassObj nm q C N bs bm hdct sn sub ab col dd k0 k1 k2 k3 k5 "ValueError.__new__")∧h.Ns N mN∧mN "__init__"=none∧
  OwnTail h [.type "ValueError",.type "Exception",.type "BaseException",.type "object"] bm
noncomputable def RaisesTo(X:Cx)(EE:St→XK):Prop:=∀(pins:List (Addr×Obj)) (σ:St) (H:Hp) (s:Shared) (h':Heap) (x:Addr) (cls:Value) (args:List Value),
 Inv X pins σ H s→Heap.MadeExcOf s.heap h' x cls args→EE σ cls (some x) H→X.xe (.ref x) {s with heap:=h'}
noncomputable def tRaise(C:Addr)(EE:St→XK)(t:TA):TS:=fun _ σ H=>t σ H fun vs H1=>vs.length≤sizeLine∧∀x,H1 x=none→EE σ (.ref C) (some x) H1
section
variable {X:Cx} {EE:St→XK} {C:Addr} {x:Str} {np cpos pos:Pos} {e:Expr} {es:List Expr} {t:TA}
theorem ps_raise(M:ExcC X.K C)(hc:X.calm=true)(hg:Gl X x)(hm:X.mg x=some (.ref C))(hx:RaisesTo X EE)(ha:PA X (e::es) t)(hdb:(x==("__debug__":Str))=false:=by decide)
 (he:starEach (e::es) X.env=(false,eval e X.env)::starEach es X.env:=by rfl) (hpl:(backTo cpos (starEach (e::es) X.env)).any (·.1)=false:=by rfl):
 PS X (.Raise (some (.Call (.Name x np) (e::es) [] cpos)) none pos) (tRaise C EE t):=by
 intro pins s σ H D I h
 obtain ⟨nm,q,N,bs,bm,hdct,sn,sub,ab,col,dd,k0,k1,k2,k3,k5,mN,hC,hN,hi,hT⟩:=M.at_ X.base I.mod.kin
 refine wpAny_Raise_call_subT PySem.F.excBase_ValueError (mN:=mN) (bm:=bm) (nm:=nm) (q:=q) (N:=N) (bs:=bs) (hdct:=hdct) (sn:=sn) (sub:=sub) (ab:=ab) (col:=col) (dd:=dd) (k0:=k0) (k1:=k1) (k2:=k2) (k3:=k3) (k5:=k5) (C:=C) ?_ (I.ok.hd hc) hpl hi (ld_glob I hg hm ⟨rfl,?_⟩ hdb)
 · exact hT.hasType (by decide)
 have h2:=ha cpos pins s σ H _ I (show t σ H (fun vs H1=>vs.length≤sizeLine∧∀x,H1 x=none→EE σ (.ref C) (some x) H1) from h)
 rw [he]at h2 ⊢
 refine Calls.evalArgs_plain (thn h2 fun us s1 hq_=>?_)
 obtain ⟨vs,H1,I1,r,hl,q1⟩:=hq_
 refine ⟨rfl,by rw [← r.length];exact hl,I1.bk _ _ hC,hN.keeps I1.bk,hT.keeps I1.bk,fun h' y hy=>?_⟩
 refine hx pins σ H1 s1 h' y _ _ I1 hy (q1 y ?_)
 cases z:H1 y with
 | none=>rfl
 | some v=>
  obtain ⟨o1,e1⟩:=I1.hok.there z
  rw [hy.new]at e1;cases e1
end
section
variable {P:Program} {w:World} {K:PySem.W.Frag} {mg:Str→Option Value} {base:Heap} {N:List Str} {qual:Str} {scope:Scope} {f:Addr} {cd:Value} {A:Around} {outer:List Env} {s:Shared} {H:Hp} {E:XK}
theorem raises:RaisesTo (cxOf (CXE P w) P w K mg base N qual scope f cd A outer s H E) (fun _=>E):=fun _ _ _ _ _ _ _ _ I hx q=>raise_out I hx q
end
noncomputable def PassesS(CX:CXT)(X:Cx)(EE:St→XK):Prop:=∀(pins:List (Addr×Obj)) (σ:St) (H:Hp) (s:Shared) (e:Value) (s':Shared),Inv X pins σ H s→CX X.stack H s (EE σ) e s'→X.xe e s'
noncomputable def tCallE(sp:Sp)(EE:St→XK)(t:TA):TE:=fun σ H Q=>t σ H fun vs H1=>sp vs H1 Q (EE σ)
section
variable {X:Cx} {CX:CXT} {k j:Nat} {ps:List Str} {sp:Sp} {EE:St→XK} {x:Str} {p pos:Pos} {e:Expr} {es:List Expr} {t:TA}
theorem pe_callE(D:Def X.prog X.w X.K X.mg X.base CX j x ps sp)(hr:Room k X.A)(hg:Gl X x)(hx:PassesS CX X EE)(ha:PA X (e::es) t)(hj:j≤k:=by decide)
 (hdb:(x==("__debug__":Str))=false:=by decide) (he:starEach (e::es) X.env=(false,eval e X.env)::starEach es X.env:=by rfl) (hpl:(backTo pos (starEach es X.env)).any (·.1)=false:=by rfl):
 PE X (.Call (.Name x p) (e::es) [] pos) (tCallE sp EE t):=by
 obtain ⟨f,fd,F,hm,hk,hb⟩:=D.ex
 intro pins s σ H Q I h
 refine wpAny_Call_Name_kw (ld_glob I hg hm ?_ hdb)
 refine PySem.W.callWith_K (h₀:=X.base) I.ok.mod.kin hk (thn (ha pos pins s σ H _ I h) fun us s1 ⟨vs,H1,I1,r,q⟩=>⟨I1.kIn,?_⟩) he hpl
 have hl:us.length=ps.length:=by rw [← r.length];exact F.len _ _ _ _ q
 have hb':BindsTo s1 fd ⟨us,[]⟩ (ps.zip us):=by
  have z:=hb s1 us I1.kIn (by rw [List.append_nil];exact hl)
  rw [List.append_nil]at z
  exact z
 refine wpAny_call (codeAny_mono (F.run X.A X.stack s1 H1 ⟨us,[]⟩ us vs Q (EE σ) (hr.mono hj) I1.env0 hb' r q) fun rs s' hq=>?_)
 cases rs with
 | error ev=>exact hx pins σ H1 s1 ev s' I1 hq
 | ok fl=>
  cases fl with
  | ret u=>exact I1.after hq
  | next=>exact False.elim hq
  | brk=>exact False.elim hq
  | cont=>exact False.elim hq
end
structure Air(X:Cx)(pins:List (Addr×Obj))(σ:St)(H:Hp)(x:Addr)(cls:Value)(s:Shared):Prop where
 ex:∃(H0:Hp) (s0:Shared) (a0:Value) (B:Heap),Inv X pins σ H0 s0∧s.os=s0.os∧AllBare s.gens∧Un (frs X.stack) [] H0 H s0.heap s.heap∧HOk X.prog X.w H s.heap∧
  Heap.FlyingW B X.stack x cls a0 s.heap∧Spares (frs X.stack) H s0.heap s.heap B∧H x=none∧s0.heap.get? x=none
section
variable {X:Cx} {pins:List (Addr×Obj)} {σ:St} {H:Hp} {x:Addr} {cls:Value} {s:Shared}
theorem Air.inv(Z:Air X pins σ H x cls s):Inv X pins σ H s:=by
 obtain ⟨H0,s0,a0,B,I,os,bare,u,ok,fl,hB,hx,hn⟩:=Z.ex
 exact I.call' os u ok bare fun b hb=>absurd hb (by simp)
theorem Air.obj(Z:Air X pins σ H x cls s):∃ob vs,s.heap.get? x=some ob∧ob.cls=cls∧ob.data= .fields vs:=by
 obtain ⟨H0,s0,a0,B,I,os,bare,u,ok,fl,hB,hx,hn⟩:=Z.ex
 obtain ⟨oe,vs,h1,h2,h3,_⟩:=fl.first
 exact ⟨oe,vs,h1,h2,h3⟩
theorem Air.turn(Z:Air X pins σ H x cls s){M:Model}{A:Around}{t:Sem Unit}{Q:Unit→Shared→Prop}{E:Value→Shared→Prop}
 (ht:∀(B:Heap) (a0:Value),Heap.FlyingW B X.stack x cls a0 s.heap→∀Q':Unit→Shared→Prop,(∀h',Heap.FlyingW B X.stack x cls a0 h'→s.heap.UpToSlots h'→Q' () {s with heap:=h'})→wpAny M A t Q' E s)
 (h:∀s',Air X pins σ H x cls s'→Q () s'):wpAny M A t Q E s:=by
 obtain ⟨H0,s0,a0,B,I,os,bare,u,ok,fl,hB,hx,hn⟩:=Z.ex
 refine ht B a0 fl Q fun h' fl' up=>h _ ?_
 obtain ⟨U,ok3,hB3⟩:=stay_of u ok I.frm I.stkFree hB fl'.1 up
 exact ⟨H0,s0,a0,B,I,os,bare,U,ok3,fl',hB3,hx,hn⟩
theorem Air.land(Z:Air X pins σ H x cls s){M:Model}{A:Around}{Q:Unit→Shared→Prop}{E:Value→Shared→Prop}(h:∀s',Air X pins σ H x cls s'→Q () s'):wpAny M A (setFlight (.ref x) none) Q E s:=
 Z.turn (fun B a0 fl Q' hq=>lands_againW fl hq) h
end
noncomputable abbrev Cx.sui(X:Cx)(x:Addr):Cx:={X with A:=X.A.mark (some (.ref x)),calm:=false,xe:=fun _ _=>False}
section
variable {X:Cx} {pins:List (Addr×Obj)} {σ:St} {H:Hp} {x:Addr} {cls:Value} {s:Shared}
theorem Cx.Ok.sui(ok:X.Ok)(x:Addr):(X.sui x).Ok:=
 ⟨ok.mod,ok.kind,ok.glob,ok.blt,ok.above,ok.inj,ok.has,ok.cab,fun z=>(by cases z),ok.frames,ok.stk,ok.exf,ok.bs,ok.bsz,ok.noex,ok.exfs,ok.funs,ok.frf⟩
theorem Inv.sui(I:Inv X pins σ H s)(x:Addr):Inv (X.sui x) pins σ H s:=⟨I.ok.sui x,I.os,I.bare,I.base,I.loc,I.cell,I.free,I.freeC,I.pin,I.hok,I.len⟩
theorem Inv.unsui(I0:X.Ok)(I:Inv (X.sui x) pins σ H s):Inv X pins σ H s:=⟨I0,I.os,I.bare,I.base,I.loc,I.cell,I.free,I.freeC,I.pin,I.hok,I.len⟩
theorem SP.unsui(I0:X.Ok){D:Ends}{f:Flow}{s':Shared}(h:SP (X.sui x) pins D f s'):SP X pins D f s':=by
 cases f with
 | next=>obtain ⟨σ',H',I,q⟩:=h;exact ⟨σ',H',I.unsui I0,q⟩
 | brk=>obtain ⟨σ',H',I,q⟩:=h;exact ⟨σ',H',I.unsui I0,q⟩
 | cont=>obtain ⟨σ',H',I,q⟩:=h;exact ⟨σ',H',I.unsui I0,q⟩
 | ret u=>obtain ⟨v,σ',H',I,r,q⟩:=h;exact ⟨v,σ',H',I.unsui I0,r,q⟩
end
noncomputable abbrev TH:=Value→Addr→TS
noncomputable def PH(X:Cx)(hs:List ExceptHandler)(th:TH):Prop:=∀(pins:List (Addr×Obj)) (s:Shared) (σ:St) (H:Hp) (x:Addr) (cls:Value) (D:Ends),Air X pins σ H x cls s→th cls x D σ H→
 wpAny (model X.prog X.w) X.A (handleBy (.ref x) X.env hs) (SP X pins D) X.xe s
noncomputable def hNil:TH:=fun _ _ _ _ _=>False
section
variable {X:Cx} {C:Str} {c:Value} {np pos:Pos} {b₀:Stmt} {suite:List Stmt} {rest:List ExceptHandler} {ts:TS} {tr:TH}
theorem ph_nil:PH X [] hNil:=fun _ _ _ _ _ _ _ _ h=>h.elim
theorem clause_test{pins:List (Addr×Obj)}{s:Shared}{σ:St}{H:Hp}{x:Addr}{cls:Value}{b:Bool}{R:Result→Shared→Prop}(Z:Air X pins σ H x cls s)(hv:∀(Q:Value→Shared→Prop) (E:Value→Shared→Prop),Q c s→wpAny (model X.prog X.w) (X.A.mark (some (.ref x))) (eval (.Name C np) X.env) Q E s)
 (e:PySem.W.exmOne X.K cls c=some b) (h:R (.ok (if b then .brk else .next)) s):
 codeAny (model X.prog X.w) (X.A.mark (some (.ref x))) (.handlers (.ref x) [.ExceptHandler (some (.Name C np)) none [] pos] X.env) R s:=by
 refine codeAny_handlers_test (hv _ _ ?_)
 obtain ⟨ob,vs,h1,h2,_⟩:=Z.obj
 have LT:PySem.W.Looks (model X.prog X.w) s.heap (typeOf (.ref x)) cls:=h2▸(PySem.W.Looks.ld h1).andThen .now
 exact (PySem.W.exm_one Z.inv.kIn LT e).here h
end
noncomputable def excO(x:Addr)(cls:Value):HO:= .ext fun h=>∃ob vs,h.get? x=some ob∧ob.cls=cls∧ob.data= .fields vs
section
variable {X:Cx} {pins:List (Addr×Obj)} {σ:St} {H:Hp} {x:Addr} {cls:Value} {s:Shared}
theorem Air.track(Z:Air X pins σ H x cls s)(hex:X.ex=[]):Inv X pins σ (upd H x (excO x cls)) s:=by
 have I:=Z.inv
 obtain ⟨ob,vs,h1,h2,h3⟩:=Z.obj
 obtain ⟨H0,s0,a0,B,I0,os,bare,u,ok,fl,hB,hx,hn⟩:=Z.ex
 have n0:X.s₀.heap.get? x=none:=by
  cases q:X.s₀.heap.get? x with
  | none=>rfl
  | some o=>
   obtain ⟨o',e⟩:=I0.base.there x o q (by rw [hex];simp)
   rw [hn]at e;cases e
 have nl:x≠X.env.locals:=by
  rintro rfl
  obtain ⟨m,⟨o,es,ep,e,_⟩,_⟩:=I0.loc
  rw [hn]at e;cases e
 have nc:∀y c,X.env.cells.lookup y=some c→c≠x:=by
  rintro y c hc rfl
  obtain ⟨v,o,e,_⟩:=I0.cell y c hc
  rw [hn]at e;cases e
 have np:∀p∈X.pn++pins,p.1≠x:=fun p hp z=>by
  have e:=(I0.pin p hp).1
  rw [z,hn]at e;cases e
 refine ⟨I.ok,I.os,I.bare,⟨I.base.keep,I.base.slot,fun b o e n hb=>?_,I.base.there,fun b xs e=>?_,fun b o v e=>?_,fun b ps e=>?_⟩,I.loc,I.cell,?_,fun y c hc=>?_,fun p hp=>?_,fun b o e=>?_,I.len⟩
 · rw [upd_ne (by rintro rfl;rw [n0]at e;cases e)]
   exact I.base.free b o e n hb
 · have e1:=I.base.tups b xs e
   rw [upd_ne (ne_of_none e1 hx)];exact e1
 · have e1:=I.base.frzs b o v e
   rw [upd_ne (ne_of_none e1 hx)];exact e1
 · obtain ⟨m,e1⟩:=I.base.tbls b ps e
   exact ⟨m,by rw [upd_ne (ne_of_none e1 hx)];exact e1⟩
 · rw [upd_ne nl.symm];exact I.free
 · rw [upd_ne (nc y c hc)];exact I.freeC y c hc
 · obtain ⟨a1,a2,a3,a4,a5⟩:=I.pin p hp
   exact ⟨a1,by rw [upd_ne (np p hp)];exact a2,a3,a4,a5⟩
 · by_cases hb:b=x
   · subst hb
     rw [upd_same]at e;cases e
     refine ⟨⟨ob,vs,h1,h2,h3⟩,⟨ob,h1⟩,fun g1 g2 ⟨o1,v1,e1,e2,e3⟩ k=>⟨o1,v1,k o1 e1,e2,e3⟩⟩
   · rw [upd_ne hb]at e
     exact (I.hok b o e).stay (fun _ _ _ q=>q) (fun c q=>by rw [upd_ne (ne_of_none q hx)];exact q) fun c xs q=>by rw [upd_ne (ne_of_none q hx)];exact q
theorem name_goes{i:Nat}{n:Str}{M:Model}{A:Around}{E:Value→Shared→Prop}{pos:Pos}{Q:Unit→Shared→Prop}(I:Inv X pins σ H s)(hN:X.N.Nodup)(hi:X.N[i]?=some n)(hl:X.env.kindOf n=some .local)
 (h:∀s',Inv X pins (σ.set i none) H s'→Q () s'):wpAny M A (do bindName X.env n .none;unbindBehindTheSuite X.env n pos) Q E s:=by
 obtain ⟨m,hn,hm⟩:=id I.loc
 refine wpAny_nameGoes_keeps hl hn (by rw [I.ok.kind];rfl) fun h' v hn' hs=>h _ ?_
 obtain ⟨oL,_,_,hoL,_⟩:=id hn
 have nL:∀b o,X.s₀.heap.get? b=some o→b≠X.env.locals:=fun b o e=>Nat.ne_of_lt (Nat.lt_of_lt_of_le (Heap.lt_size e) I.ok.above)
 refine ⟨I.ok,I.os,I.bare,⟨fun b o e n hb hx=>(hs.2 b (nL b o e)).trans (I.base.keep b o e n hb hx),fun b o e n hb hx=>?_,I.base.free,fun b o e hx=>?_,I.base.tups,I.base.frzs,I.base.tbls⟩,⟨_,hn',fun j y v' e1 e2 e3=>?_⟩,fun y c e=>?_,I.free,I.freeC,fun p hp=>?_,fun b o e=>?_,by simpa using I.len⟩
 · obtain ⟨sl,e1⟩:=I.base.slot b o e n hb hx
   exact ⟨sl,(hs.2 b (nL b o e)).trans e1⟩
 · obtain ⟨o',e1⟩:=I.base.there b o e hx
   exact ⟨o',(hs.2 b (nL b o e)).trans e1⟩
 · have hj:j≠i:=by
    rintro rfl
    by_cases hlt:j < σ.length
    · rw [List.getElem?_set_self hlt]at e2;cases e2
    · rw [List.getElem?_eq_none (by rw [List.length_set];omega)]at e2;cases e2
   rw [List.getElem?_set_ne (Ne.symm hj)]at e2
   obtain ⟨u',r',q⟩:=hm j y v' e1 e2 e3
   refine ⟨u',r',?_⟩
   rcases q with ⟨k,e⟩ | ⟨k,c,e,z⟩
   · have ny:y≠n:=fun z=>hj (nodup_ix hN e1 (z▸hi))
     exact .inl ⟨k,by simp [ny,e]⟩
   · exact .inr ⟨k,c,e,z.sameBut hs (I.cne y c e)⟩
 · obtain ⟨w',z⟩:=I.cell y c e
   exact ⟨w',z.sameBut hs (I.cne y c e)⟩
 · obtain ⟨e,n1,ne,nf,d⟩:=I.pin p hp
   exact ⟨(hs.2 p.1 ne).trans e,n1,ne,nf,d⟩
 · refine (I.hok b o e).stay (fun c w' hc q=>(hs.2 c ?_).trans q) (fun _ q=>q) fun _ _ q=>q
   rintro rfl
   rcases hc with z | hc
   · rw [← z,I.free]at e;cases e
   · rw [I.free]at hc;cases hc
end
noncomputable def endsAs(i:Nat)(D:Ends):Ends:={nx:=fun σ H=>D.nx (σ.set i none) H,rt:=D.rt,bk:=fun σ H=>D.bk (σ.set i none) H,ct:=fun σ H=>D.ct (σ.set i none) H}
noncomputable abbrev Cx.tryX(X:Cx)(pn:List (Addr×Obj))(xe:Value→Shared→Prop):Cx:={X with pn:=pn,xe:=xe}
section
variable {X:Cx} {body:List Stmt} {h₀:ExceptHandler} {hs:List ExceptHandler} {pos:Pos} {tb:(St→XK)→TS} {th:TH} {pins:List (Addr×Obj)} {σ:St} {H:Hp} {s:Shared} {pn:List (Addr×Obj)} {xe:Value→Shared→Prop}
theorem Inv.tryIn(I:Inv X pins σ H s)(xe:Value→Shared→Prop):Inv (X.tryX (X.pn++pins) xe) [] σ H s:=
 ⟨⟨I.ok.mod,I.ok.kind,I.ok.glob,I.ok.blt,I.ok.above,I.ok.inj,I.ok.has,I.ok.cab,I.ok.hd,I.ok.frames,I.ok.stk,I.ok.exf,I.ok.bs,I.ok.bsz,I.ok.noex,I.ok.exfs,I.ok.funs,I.ok.frf⟩,I.os,I.bare,I.base,I.loc,I.cell,I.free,I.freeC,fun p hp=>I.pin p (by simpa using hp),I.hok,I.len⟩
theorem Inv.tryOut{pl:List (Addr×Obj)}(I0:X.Ok)(I:Inv (X.tryX (X.pn++pins) xe) pl σ H s):Inv X pins σ H s:=
 ⟨I0,I.os,I.bare,I.base,I.loc,I.cell,I.free,I.freeC,fun p hp=>I.pin p (List.mem_append_left _ hp),I.hok,I.len⟩
theorem SP.tryOut{pl:List (Addr×Obj)}(I0:X.Ok){D:Ends}{f:Flow}{s':Shared}(h:SP (X.tryX (X.pn++pins) xe) pl D f s'):SP X pins D f s':=by
 cases f with
 | next=>obtain ⟨σ',H',I,q⟩:=h;exact ⟨σ',H',I.tryOut I0,q⟩
 | brk=>obtain ⟨σ',H',I,q⟩:=h;exact ⟨σ',H',I.tryOut I0,q⟩
 | cont=>obtain ⟨σ',H',I,q⟩:=h;exact ⟨σ',H',I.tryOut I0,q⟩
 | ret u=>obtain ⟨v,σ',H',I,r,q⟩:=h;exact ⟨v,σ',H',I.tryOut I0,r,q⟩
end
end L2
namespace L2
open PySem.W
theorem ans_yes{K:Frag}{y c t:Value}{G:Heap→Prop}(LT:∀(M:Model) (h:Heap),K.In h→G h→Looks M h (typeOf y) t)(e:kitOne K t c=some true):Answers (fun s=>K.In s.heap∧G s.heap) y c true:=by
 intro dep tk prog w A R s hs
 obtain ⟨h0,g,d,tt,os⟩:=s
 obtain ⟨⟨kin,gp⟩,hq⟩:=hs
 have lk0:=LT (model prog w) h0 kin gp
 (unfold Builtin.«isinstance.nested»;refine wpAny_bind (lk0.at ?_));unfold kitOne at e
 by_cases z:(t==c)=true
 · rw [if_pos z]at e ⊢
   first
    | exact wpAny_bind (wpAny_rule (hq tt))
    | exact wpAny_bind (wpAny_rule (wpAny_pure (hq tt)))
    | ((repeat lk);exact hq tt)
 · rw [if_neg z]at e ⊢
   obtain ⟨i1,i2,i3⟩:=kit_cls (M:=model prog w) kin e
   have li:Looks (model prog w) h0 (isInstance y c) true:=lk0.andThen i3
   (refine wpAny_bind (i1.at ?_);rw [if_pos (by decide)]);k_delta "plainIsInstance"
   refine wpAny_bind (wpAny_bind (i2.at ?_));(simp only [Bool.not_true,Bool.false_eq_true,if_false])
   refine wpAny_bind (li.at ?_)
   first
    | exact wpAny_pure (wpAny_pure (hq tt))
    | (simp only [if_true];first | exact wpAny_pure (wpAny_pure (hq tt)) | exact wpAny_pure (hq tt) | exact wpAny_bind (wpAny_pure (wpAny_pure (hq tt))))
noncomputable def rIsiE(K:Frag):List V→Hp→VK→Prop:=fun xs H Q=>∃p cls n,xs=[.ref p,.ty n]∧H p=some (excO p cls)∧kitOne K cls (.type n)=some true∧Q (.bl true) H
noncomputable def strKeysB(es:Array DictEntry):Bool:=es.toList.all fun e=>match e.key with
 | .str _ _=>true
 | _=>false
theorem strKeys_of{es:Array DictEntry}(h:strKeysB es=true):StrKeys es:=fun e he=>by
 have z:=List.all_eq_true.mp h e (by simpa using he)
 cases k:e.key with
 | str n t=>exact ⟨n,t,rfl⟩
 | _=>rw [k]at z;cases z
theorem ns_of{K:Frag}{h:Heap}{N:Addr}{oc:Value}{od:Option Addr}{es:Array DictEntry}{ep:Nat}{sl:Array (Option Value)}(X:K.In h)(l:K.lookup N=some ⟨oc,od,.dict es ep,sl⟩)(k:strKeysB es=true):h.Ns N (nsFind es):=
 ⟨_,es,ep,X _ _ l,rfl,strKeys_of k,fun _=>rfl⟩
theorem excC_of{K:Frag}{C N A:Addr}{nm q:Str}{bs:List Value}{hdct:Bool}{sn:List Str}{sub:List Value}{ab:Bool}{col:Option Bool}{dd:Option Addr}{k0 k1 k2 k3 k5:Option Value}{oc c0 oc2:Value}{od dA od2:Option Addr}{es es2:Array DictEntry}{ep ep2:Nat}{sl slA sl2:Array (Option Value)}{cdA:ClassData}
 (lC:K.lookup C=some (excClassObj nm q C N bs [.ref A,.type "ValueError",.type "Exception",.type "BaseException",.type "object"] hdct sn sub ab col dd k0 k1 k2 k3 k5 "ValueError.__new__"))
 (lN:K.lookup N=some ⟨oc,od,.dict es ep,sl⟩) (sN:strKeysB es=true) (iN:nsFind es "__init__"=none) (lA:K.lookup A=some ⟨c0,dA,.cls cdA,slA⟩) (lNA:K.lookup cdA.ns=some ⟨oc2,od2,.dict es2 ep2,sl2⟩) (sNA:strKeysB es2=true) (iNA:nsFind es2 "__init__"=none):ExcC K C:=
 ⟨fun h X=>⟨nm,q,N,bs,_,hdct,sn,sub,ab,col,dd,k0,k1,k2,k3,k5,nsFind es,X _ _ lC,ns_of X lN sN,iN,.own (X _ _ lA) (ns_of X lNA sNA) iNA .base⟩⟩
theorem exm_ref{K:Frag}{C:Addr}{cls:Value}{b:Bool}{cd:ClassData}(s1:subIn K (.ref C) (.type "BaseException")=some true)(c1:clsIn K C=some cd)(t1:typeIn K (.ref C)=some (.type "type"))(s2:subIn K cls (.ref C)=some b):exmOne K cls (.ref C)=some b:=by
 unfold exmOne kitCls
 dsimp only
 rw [s1,c1,t1]
 exact s2
section
variable {σ:St} {H:Hp} {Q:VK} {D:Ends} {K:Frag}
theorem rd_raise{C:Addr}{EE:St→XK}{t:TA}:tRaise C EE t D σ H=t σ H fun vs H1=>vs.length≤sizeLine∧∀x,H1 x=none→EE σ (.ref C) (some x) H1:=rfl
theorem rd_callE{sp:Sp}{EE:St→XK}{t:TA}:tCallE sp EE t σ H Q=t σ H fun vs H1=>sp vs H1 Q (EE σ):=rfl
theorem rd_hnil{cls:Value}{x:Addr}:hNil cls x D σ H=False:=rfl
theorem rd_ends{i:Nat}:endsAs i D={nx:=fun σ H=>D.nx (σ.set i none) H,rt:=D.rt,bk:=fun σ H=>D.bk (σ.set i none) H,ct:=fun σ H=>D.ct (σ.set i none) H}:=rfl
theorem rd_isiE{xs:List V}:rIsiE K xs H Q=∃p cls n,xs=[.ref p,.ty n]∧H p=some (excO p cls)∧kitOne K cls (.type n)=some true∧Q (.bl true) H:=rfl
theorem exm_go{cls c:Value}{b:Bool}{R:Bool→Prop}(h:exmOne K cls c=some b)(q:R b):∃b,exmOne K cls c=some b∧R b:=⟨b,h,q⟩
end
theorem walk_ofKE{l:OpenLaw}{n k:Nat}{q:Program}{loose:List Str}{XP:(Str→Option Value)→Heap→Prop}{YP:World→Heap→Prop}{d:DefRec}{K:Params→Frag}{sp:Frag→Sp}{x:Str}
 (hn:l.most=some n) (hn2:n≤sizeLine) (hdf:d.params.defaults=[]) (hr:Room k callerA) (hY:∀(w:World) (h:Heap),YP w h→(K w.params).In h)
 (F:∀(w:World) (mg:Str→Option Value) (fa:Addr) (h:Heap),(K w.params).In h→h.Ns mainGlobals mg→mg d.name=some (.ref fa)→
  ∃fd:FuncData,(∀(s:Shared) (u:Value),BindsTo s fd ⟨[u],[]⟩ [(x,u)])∧∀base:Heap,(K w.params).In base→base.Ns mainGlobals mg→FnOk l.prog w (K w.params) mg base (CXE l.prog w) k fa fd [x] (sp (K w.params)))
 (hsp:∀(K:Frag) (H:Hp) (a:Addr) (ns:List Int),ns.length≤n→Only H→SqL K H a (ns.map V.int)→sp K [.ref a] H (fun v _=>v= .bl true) fun _ _ _=>False):
 WalkO q loose XP YP l.row.toRowW d [] (fun f vs=>PySem.call f vs):=
 walk_of (K:=K) (CX:=fun w=>CXE l.prog w) (sp:=fun w=>sp (K w.params)) hn hn2 hdf hr hY F (fun w H a ns h1 h2 h3=>hsp (K w.params) H a ns h1 h2 h3) fun _ _ _ _ _ ⟨_,_,_,_,_,_,_,_,_,_,_,_,_,_,z⟩=>z
end L2
namespace L2
theorem compLoop_any{prog:Program}{w:World}{A:Around}{R:Result→Shared→Prop}{s:Shared}{elt target iter:Expr}{ifs:List Expr}{scope:Scope}{pos:Pos}{it acc:Value}{env:Env}(I:Nat→Shared→Prop)
 (turn:∀n s,I n s→wpAny (model prog w) A (pyNext it) (fun r s₁=>match r with
  | none=>R (.ok .next) s₁
  | some v=>wpAny (model prog w) A (letOwnedTupleGo target it v) (fun _ s₁=>wpAny (model prog w) A (assign target env v) (fun _ s₂=>
   wpAny (model prog w) A (forIn ifs true fun c r=>if r=true then do let ok ← isTrue c env (eval c env);pure (ForInStep.yield ok) else pure (ForInStep.yield r)) (fun ok s₃=>
    if ok=true then wpAny (model prog w) A (eval elt env) (fun x s₄=>
     wpAny (model prog w) A (call (.builtin "list.append") [acc,x]) (fun _ s₅=>∃m,m < n∧I m s₅) (notedBy (model prog w) A env fun e s'=>R (.error e) s') s₄) (notedBy (model prog w) A env fun e s'=>R (.error e) s') s₃
    else ∃m,m < n∧I m s₃) (notedBy (model prog w) A env fun e s'=>R (.error e) s') s₂) (notedBy (model prog w) A env fun e s'=>R (.error e) s') s₁) (notedBy (model prog w) A env fun e s'=>R (.error e) s') s₁) (notedBy (model prog w) A env fun e s'=>R (.error e) s') s)
 (n:Nat) (h:I n s):
 codeAny (model prog w) A (.compLoop (.ListComp elt [⟨target,iter,ifs,0⟩] scope pos) 0 it acc env) R s:=by
 refine codeAny_loop rfl I (fun n s hI=>?_) n h
 show wpAny _ A ((compTurn (.ListComp elt [⟨target,iter,ifs,0⟩] scope pos) 0 it acc env).onRaise (fun x=>do noteFrame x env;theTreesLotGoes x)) _ _ s
 refine wpAny_noted ?_
 rw [compTurn_list]
 refine wpAny_bind (wpAny_standAt (wpAny_bind (wpAny_mono (turn n s hI) (fun r s₁ h₁=>?_) fun _ _ h'=>h')))
 cases r with
 | none=>exact wpAny_pure h₁
 | some v=>
  refine wpAny_bind (wpAny_mono h₁ (fun _ s₁ h₁=>?_) fun _ _ h'=>h')
  refine wpAny_bind (wpAny_mono h₁ (fun _ s₂ h₂=>wpAny_bind (wpAny_mono h₂ (fun ok s₃ h₃=>?_) fun _ _ h'=>h')) fun _ _ h'=>h')
  cases ok with
  | false=>exact wpAny_pure ⟨rfl,h₃⟩
  | true=>
   exact wpAny_bind (wpAny_bind (wpAny_mono h₃ (fun x s₄ h₄=>wpAny_bind (wpAny_mono h₄ (fun _ s₅ h₅=>wpAny_pure (wpAny_pure ⟨rfl,h₅⟩)) fun _ _ h'=>h')) fun _ _ h'=>h'))
noncomputable def clo(env:Env):List (Str×NameKind)→List (Str×Addr)→List (Str×Addr)
 | [],cs=>cs
 | (n,k)::r,cs=>clo env r (if (k== .free)=true then (match env.cells.lookup n with | some c=>(n,c)::cs | none=>cs) else cs)
theorem clo_loop{env:Env}:∀(names:List (Str×NameKind)) (cs:List (Str×Addr)),(∀y∈names,y.2= .free→∃c,env.cells.lookup y.1=some c)→
 (forIn (m:=Sem) names cs fun (x:Str×NameKind) (r:List (Str×Addr))=>match x with | (name,kind)=>if (kind== .free)=true then do let c ← cellOf env name;pure (ForInStep.yield ((name,c)::r)) else pure (ForInStep.yield r))=pure (clo env names cs)
 | [],cs,_=>rfl
 | (n,k)::r,cs,h=>by
  rw [List.forIn_cons]
  have ih:=fun cs=>clo_loop r cs fun y hy=>h y (List.mem_cons_of_mem _ hy)
  by_cases hk:(k==NameKind.free)=true
  · obtain ⟨c,hc⟩:=h (n,k) List.mem_cons_self (by simpa using hk)
    have e:cellOf env n=pure c:=by unfold cellOf;rw [show env.cells.lookup n=some c from hc]
    simp only [hk,if_true,e,clo]
    rw [show env.cells.lookup n=some c from hc]
    exact ih _
  · simp only [hk,clo]
    exact ih _
theorem clo_closure{scope:Scope}{env:Env}(h:∀y∈scope.names,y.2= .free→∃c,env.cells.lookup y.1=some c):closureFor scope env=pure (clo env scope.names []):=by
 unfold closureFor
 show (forIn (m:=Sem) scope.names ([]:List (Str×Addr)) _ >>=fun r=>pure r)=_
 rw [clo_loop scope.names [] h]
 rfl
theorem clo_cells{env:Env}{x:Str}{c:Addr}:∀(names:List (Str×NameKind)) (cs:List (Str×Addr)),(clo env names cs).lookup x=some c→env.cells.lookup x=some c∨cs.lookup x=some c
 | [],cs,h=> .inr h
 | (n,k)::r,cs,h=>by
  unfold clo at h
  rcases clo_cells r _ h with q | q
  · exact .inl q
  · split at q
    · split at q
      · rename_i c' hc
        rw [List.lookup_cons]at q
        cases hx:x==n with
        | true=>
         rw [hx]at q
         have e:x=n:=by simpa using hx
         subst e
         simp only [Option.some.injEq]at q
         subst q
         exact .inl hc
        | false=>rw [hx]at q;exact .inr q
      · exact .inr q
    · exact .inr q
theorem clo_has{env:Env}{x:Str}{c:Addr}(hc:env.cells.lookup x=some c):∀(names:List (Str×NameKind)) (cs:List (Str×Addr)),(cs.lookup x=some c∨(cs.lookup x=none∧(x,NameKind.free)∈names))→(clo env names cs).lookup x=some c
 | [],cs,h=>by
  rcases h with h | ⟨_,h⟩
  · exact h
  · cases h
 | (n,k)::r,cs,h=>by
  unfold clo
  refine clo_has hc r _ ?_
  by_cases hx:x=n
  · subst hx
    by_cases hk:(k==NameKind.free)=true
    · rw [if_pos hk,hc]
      exact .inl (by simp [List.lookup_cons])
    · rw [if_neg hk]
      rcases h with h | ⟨h1,h2⟩
      · exact .inl h
      · refine .inr ⟨h1,?_⟩
        rcases List.mem_cons.mp h2 with e | e
        · cases e;exact absurd rfl hk
        · exact e
  · have hb:(x==n)=false:=by simpa using hx
    have key:∀cs':List (Str×Addr),cs'.lookup x=cs.lookup x→(cs'.lookup x=some c∨(cs'.lookup x=none∧(x,NameKind.free)∈r)):=fun cs' e=>by
     rw [e]
     rcases h with h | ⟨h1,h2⟩
     · exact .inl h
     · refine .inr ⟨h1,?_⟩
       rcases List.mem_cons.mp h2 with e | e
       · cases e;exact absurd rfl hx
       · exact e
    refine key _ ?_
    split
    · split
      · simp [List.lookup_cons,hb]
      · rfl
    · rfl
theorem relabel_kind{env:Env}{k':NameKind}:∀{names:List (Str×NameKind)} {x:Str},(∀y∈names,y.2≠ .cell)→
 (names.map fun (n,k)=>if (k==NameKind.free && env.scope.kind== .function && env.kindOf n==some .cell) then (n,NameKind.cell) else (n,k)).lookup x=some k'→(k'= .cell∨k'= .free)→(x,NameKind.free)∈names
 | [],_,_,h,_=>by simp at h
 | (n,k)::r,x,hc,h,hk=>by
  have ih:=@relabel_kind env k' r x (fun y hy=>hc y (List.mem_cons_of_mem _ hy))
  have h':List.lookup x ((if (k==NameKind.free && env.scope.kind== .function && env.kindOf n==some .cell)=true then (n,NameKind.cell) else (n,k))::(r.map fun (n,k)=>if (k==NameKind.free && env.scope.kind== .function && env.kindOf n==some .cell) then (n,NameKind.cell) else (n,k)))=some k':=h
  by_cases hx:x=n
  · subst hx
    by_cases q:(k==NameKind.free && env.scope.kind== .function && env.kindOf x==some .cell)=true
    · have:k= .free:=by simp only [Bool.and_eq_true,beq_iff_eq]at q;exact q.1.1
      subst this
      exact List.mem_cons_self
    · rw [if_neg q,List.lookup_cons]at h'
      simp only [beq_self_eq_true]at h'
      have e:k=k':=Option.some.inj h'
      rcases hk with z | z
      · exact absurd (e.trans z) (hc (x,k) List.mem_cons_self)
      · rw [e.trans z];exact List.mem_cons_self
  · have hb:(x==n)=false:=by simpa using hx
    refine List.mem_cons_of_mem _ (ih ?_ hk)
    split at h'
    · rw [List.lookup_cons,hb]at h';exact h'
    · rw [List.lookup_cons,hb]at h';exact h'
theorem lookup_relabel_free{env:Env}:∀{names:List (Str×NameKind)} {x:Str},names.lookup x=some .free→
 (names.map fun (n,k)=>if (k==NameKind.free && env.scope.kind== .function && env.kindOf n==some .cell) then (n,NameKind.cell) else (n,k)).lookup x=some .cell∨
 (names.map fun (n,k)=>if (k==NameKind.free && env.scope.kind== .function && env.kindOf n==some .cell) then (n,NameKind.cell) else (n,k)).lookup x=some .free
 | [],_,h=>by simp at h
 | (n,k)::r,x,h=>by
  have ih:=@lookup_relabel_free env r x
  show List.lookup x ((if (k==NameKind.free && env.scope.kind== .function && env.kindOf n==some .cell)=true then (n,NameKind.cell) else (n,k))::_)=_∨List.lookup x ((if (k==NameKind.free && env.scope.kind== .function && env.kindOf n==some .cell)=true then (n,NameKind.cell) else (n,k))::_)=_
  cases hx:x==n with
  | true=>
   simp only [List.lookup_cons,hx]at h
   cases h
   split
   · left;simp [List.lookup_cons,hx]
   · right;simp [List.lookup_cons,hx]
  | false=>
   simp only [List.lookup_cons,hx]at h
   split
   · simp only [List.lookup_cons,hx];exact ih h
   · simp only [List.lookup_cons,hx];exact ih h
structure Blk where
 s:Shared
 H:Hp
 C:Addr
 fp:List Addr
noncomputable abbrev Cx.blk(X:Cx)(scope:Scope)(N':List Str)(b:Blk):Cx:=
 {X with N:=N',s₀:=b.s,H₀:=b.H,env:=compEnvC scope (clo X.env scope.names []) b.C X.env,outer:=X.stack,ex:=b.fp,fn:=fun _=>false,pn:=[],xe:=fun _ _=>False}
noncomputable def around(N:List Str)(fs:List Nat):List Str:=fs.map fun j=>N.getD j ""
noncomputable def compOkB(N:List Str)(esc scope:Scope)(xs:List Str)(fs:List Nat):Bool:=
 decide (xs++around N fs).Nodup && (match scope.kind with | .function=>true | _=>false) && xs.all (fun x=>decide (scope.names.lookup x=some .local)) &&
 scope.names.all (fun y=>decide (y.2≠ .cell) && (!decide (y.2= .local) || decide (scope.names.lookup y.1=some .local)) && (!decide (y.2= .free) || decide (esc.names.lookup y.1=some .cell) || decide (esc.names.lookup y.1=some .free))) &&
 fs.all fun j=>decide (j < N.length) && decide (scope.names.lookup (N.getD j "")=some .free)
structure CompOk(N:List Str)(esc scope:Scope)(xs:List Str)(fs:List Nat):Prop where
 nd:(xs++around N fs).Nodup
 kind:scope.kind= .function
 own:∀x∈xs,scope.names.lookup x=some .local
 cell:∀y∈scope.names,y.2≠ .cell
 names:∀y∈scope.names,y.2= .local→scope.names.lookup y.1=some .local
 free:∀y∈scope.names,y.2= .free→esc.names.lookup y.1=some .cell∨esc.names.lookup y.1=some .free
 fs:∀j∈fs,j < N.length∧scope.names.lookup (N.getD j "")=some .free
theorem compOk_of{N:List Str}{esc scope:Scope}{xs:List Str}{fs:List Nat}(h:compOkB N esc scope xs fs=true):CompOk N esc scope xs fs:=by
 unfold compOkB at h
 simp only [Bool.and_eq_true,decide_eq_true_eq,List.all_eq_true]at h
 obtain ⟨⟨⟨⟨h1,h2⟩,h3⟩,h4⟩,h5⟩:=h
 refine ⟨h1,?_,h3,fun y hy=>(h4 y hy).1.1,fun y hy e=>?_,fun y hy e=>?_,h5⟩
 · split at h2
   · assumption
   · cases h2
 · have:=(h4 y hy).1.2
   simpa [e] using this
 · have:=(h4 y hy).2
   simpa [e] using this
section
variable {X:Cx} {pins:List (Addr×Obj)} {σ:St} {H:Hp} {s:Shared} {scope:Scope} {xs:List Str} {fs:List Nat} {fp:List Addr} {C:Addr}
theorem blk_ok(I:Inv X pins σ H s)(O:CompOk X.N X.env.scope scope xs fs)(hf:∀b∈fp,FpOk X pins H b)(hC:s.heap.objs.size≤C)(hfp:∀b∈fp,b < s.heap.objs.size):(X.blk scope (xs++around X.N fs) ⟨s,H,C,fp⟩).Ok:=by
 have hcl:∀x c,(clo X.env scope.names []).lookup x=some c→X.env.cells.lookup x=some c:=fun x c e=>by
  rcases clo_cells _ _ e with q | q
  · exact q
  · cases q
 have hsz:∀b o,X.base.get? b=some o→b < X.s₀.heap.objs.size:=fun b o e=>Nat.lt_of_lt_of_le (Heap.lt_size e) I.ok.bsz
 refine ⟨I.ok.mod,O.kind,I.ok.glob,I.ok.blt,hC,fun x y c h1 h2=>I.ok.inj x y c (hcl x c h1) (hcl y c h2),fun x hx=>?_,fun x c z=>(by cases z),I.ok.hd,I.ok.frames,.inl rfl,fun b hb=>⟨Nat.ne_of_lt (Nat.lt_of_lt_of_le (hfp b hb) hC),fun x c e=>(hf b hb).2.2.2.2.1 x c (hcl x c e)⟩,I.bs,Nat.le_trans I.ok.bsz I.sz,fun b o e hb=>?_,fun b hb hs=>?_,I.stack,I.stkFree⟩
 · have hm:(x,NameKind.free)∈scope.names:=by
    rcases hx with hx | hx
    · exact relabel_kind (env:=X.env) O.cell (show (scope.names.map _).lookup x=some NameKind.cell from hx) (.inl rfl)
    · exact relabel_kind (env:=X.env) O.cell (show (scope.names.map _).lookup x=some NameKind.free from hx) (.inr rfl)
   obtain ⟨c,hc⟩:=I.ok.has x (O.free _ hm rfl)
   exact ⟨c,clo_has hc _ _ (.inr ⟨rfl,hm⟩)⟩
 · obtain ⟨_,_,_,h4,_⟩:=hf b hb
   rcases h4 with h4 | h4
   · exact I.ok.noex b o e h4
   · exact absurd (Nat.lt_of_lt_of_le (hsz b o e) h4) (Nat.lt_irrefl _)
 · obtain ⟨_,h2,h3,_⟩:=hf b hb
   exact (List.mem_cons.mp (I.stkSub b hs)).elim h2 h3
theorem blk_in{h1:Heap}{t:Nat}{D:Addr}{m:Str→Option Value}(I:Inv X pins σ H s)(O:CompOk X.N X.env.scope scope xs fs)(hf:∀b∈fp,FpOk X pins H b)(hD:s.heap.objs.size≤D)(hC:s.heap.objs.size≤C)(hfp:∀b∈fp,b < s.heap.objs.size)(hDC:D≠C)
 (k:∀b u,s.heap.get? b=some u→h1.get? b=some u) (hDo:h1.get? D=some {cls:= .type "list",data:= .seq #[] 0}) (hn:h1.Ns C m):
 Inv (X.blk scope (xs++around X.N fs) ⟨s,H,C,fp⟩) [] (xs.map (fun _=>none)++fs.map fun j=>σ.getD j none) (upd H D (.lst [])) {s with heap:=h1,toks:=t}:=by
 have hcl:∀x c,(clo X.env scope.names []).lookup x=some c→X.env.cells.lookup x=some c:=fun x c e=>by
  rcases clo_cells _ _ e with q | q
  · exact q
  · cases q
 have ok:=blk_ok (C:=C) I O hf hC hfp
 have hnD:H D=none:=I.hok.fresh hD
 refine ⟨ok,rfl,I.bare,Un.laid k hD hnD,⟨m,hn,fun i x v e1 e2 e3=>?_⟩,fun x c e=>?_,?_,fun x c e=>?_,fun p hp=>absurd (show p∈([]:List (Addr×Obj)) from hp) (by simp),I.hok.laid k hD ⟨Nat.zero_le _,[],0,.nil,hDo⟩,by simp [around]⟩
 · by_cases hi:i < xs.length
   · rw [List.getElem?_append_left (by simpa using hi),List.getElem?_map]at e2
     cases q:xs[i]? with
     | none=>rw [q]at e2;cases e2
     | some a=>rw [q]at e2;cases e2
   · have hi:xs.length≤i:=Nat.le_of_not_lt hi
     rw [List.getElem?_append_right (by simpa using hi)]at e1 e2
     unfold around at e1
     rw [List.length_map]at e2
     rw [List.getElem?_map]at e1 e2
     cases q:fs[i - xs.length]? with
     | none=>rw [q]at e2;cases e2
     | some j=>
      rw [q]at e1 e2
      simp only [Option.map_some,Option.some.injEq]at e1 e2
      obtain ⟨hj,hl⟩:=O.fs j (List.mem_of_getElem? q)
      obtain ⟨m0,_,hl0⟩:=I.loc
      have e1':X.N[j]?=some x:=by rw [← e1,List.getD_eq_getElem?_getD,List.getElem?_eq_getElem hj];rfl
      have e2':σ[j]?=some (some v):=by
       rw [List.getD_eq_getElem?_getD]at e2
       cases z:σ[j]? with
       | none=>rw [z]at e2;cases e2
       | some y=>rw [z]at e2;simp only [Option.getD_some]at e2;rw [e2]
      rw [e1]at hl
      have hm:(x,NameKind.free)∈scope.names:=PySem.mem_of_lookup hl
      have hk:=O.free _ hm rfl
      obtain ⟨u,r,l⟩:=hl0 j x v e1' e2' (hk.elim (fun z=> .inr (.inl z)) fun z=> .inr (.inr z))
      refine ⟨u,r,?_⟩
      rcases l with ⟨z,_⟩ | ⟨_,c,hc,cell⟩
      · have z':X.env.scope.names.lookup x=some .local:=z
        rcases hk with hk | hk <;> (rw [z']at hk;cases hk)
      · refine .inr ⟨?_,c,clo_has hc _ _ (.inr ⟨rfl,hm⟩),?_⟩
        · exact lookup_relabel_free (env:=X.env) hl
        · obtain ⟨o,ho,hd⟩:=cell
          exact ⟨o,k _ _ ho,hd⟩
 · obtain ⟨v,o,ho,hd⟩:=I.cell x c (hcl x c e)
   exact ⟨v,o,k _ _ ho,hd⟩
 · show upd H D (.lst []) C=none
   rw [upd_ne (Ne.symm hDC)];exact I.hok.fresh hC
 · obtain ⟨v,q⟩:=I.cell x c (hcl x c e)
   rw [upd_ne (Nat.ne_of_lt (Nat.lt_of_lt_of_le q.lt hD))]
   exact I.freeC x c (hcl x c e)
theorem blk_out{N':List Str}{σ':St}{H':Hp}{s':Shared}{h2:Heap}{pl:List (Addr×Obj)}(I:Inv X pins σ H s)(hf:∀b∈fp,FpOk X pins H b)(hC:s.heap.objs.size≤C)(J:Inv (X.blk scope N' ⟨s,H,C,fp⟩) pl σ' H' s')(sb:Heap.SameBut C s'.heap h2):
 Inv X pins σ H' {s' with heap:=h2}:=by
 have u:=J.base
 have ne:∀b o,s.heap.get? b=some o→b≠C:=fun b o e=>Nat.ne_of_lt (Nat.lt_of_lt_of_le (Heap.lt_size e) hC)
 refine I.call' (ch:=fp) J.os ⟨fun b o e n h1 h2=>(sb.2 b (ne b o e)).trans (u.keep b o e n h1 h2),fun b o e n h1 h2=>?_,u.free,fun b o e hx=>?_,u.tups,u.frzs,u.tbls⟩ (fun a o e=>?_) J.bare fun b hb=>?_
 · obtain ⟨sl,q⟩:=u.slot b o e n h1 h2
   exact ⟨sl,(sb.2 b (ne b o e)).trans q⟩
 · obtain ⟨o',q⟩:=u.there b o e hx
   exact ⟨o',(sb.2 b (ne b o e)).trans q⟩
 · have fr:H' C=none:=J.free
   refine (J.hok a o e).stay (fun b v hc q=>(sb.2 b ?_).trans q) (fun _ q=>q) fun _ _ q=>q
   rcases hc with rfl | hc
   · exact ne_of_none e fr
   · exact ne_of_none hc fr
 · obtain ⟨_,h2,h3,h4,h5,h6⟩:=hf b hb
   exact ⟨h4,h2,h5,h6⟩
end
end L2
namespace L2
noncomputable def Kept(σ σ':St):Prop:=∀(i:Nat) (v:V),σ[i]?=some (some v)→σ'[i]?=some (some v)
noncomputable def PTs(X:Cx)(ifs:List Expr)(t:TT):Prop:=
 ∀(pins:List (Addr×Obj)) (s:Shared) (σ:St) (H:Hp) (Q:Bool→Hp→Prop),Inv X pins σ H s→t σ H Q→
   wpAny (model X.prog X.w) X.A (forIn ifs true fun c r=>if r=true then do let ok ← isTrue c X.env (eval c X.env);pure (ForInStep.yield ok) else pure (ForInStep.yield r)) (TP X pins σ Q) X.xe s
noncomputable def tYes:TT:=fun _ H Q=>Q true H
theorem pts_nil{X:Cx}:PTs X [] tYes:=fun _ _ _ H _ I h=>wpAny_tests_nil ⟨H,I,h⟩
theorem pts_one{X:Cx}{c:Expr}{t:TT}(hc:PT X c t):PTs X [c] t:=fun pins s σ H Q I h=>wpAny_tests_one (hc pins s σ H Q I h)
noncomputable def CompTail(σ0:St)(g:Blk→TG)(tt:Blk→TT)(te:Blk→TE)(Q:VK)(J:It)(H1:Hp):Prop:=∀(b:Blk) (D:Addr),H1 D=none→∃W:Nat→Nat→List V→Hp→Prop,(∃m,W 0 m [] (upd H1 D (.lst [])))∧∀i m ys H2,W i m ys H2→H2 D=some (.lst ys)∧
 ((J.stop i H2∧Q (.ref D) H2)∨(J.go i H2∧∀x H3,J.yld i H2 x H3→g b x σ0 H3 fun σ6 H6=>Kept σ0 σ6∧tt b σ6 H6 fun ok H7=>
   if ok=true then te b σ6 H7 fun y H8=>H8 D=some (.lst ys)∧ys.length < sizeLine∧∃m',m' < m∧W (i+1) m' (ys++[y]) (upd H8 D (.lst (ys++[y])))
   else ∃m',m' < m∧W (i+1) m' ys H7))
noncomputable def tComp(wi:TI)(n:Nat)(fs:List Nat)(g:Blk→TG)(tt:Blk→TT)(te:Blk→TE):TE:=fun σ H Q=>wi σ H (CompTail (List.replicate n none++fs.map fun j=>σ.getD j none) g tt te Q)
section
variable {X:Cx} {pins:List (Addr×Obj)} {σ:St} {scope:Scope} {xs:List Str} {fs:List Nat} {elt tg iter:Expr} {ifs:List Expr} {pos:Pos} {wi:TI} {g:Blk→TG} {tt:Blk→TT} {te:Blk→TE}
theorem turned_of{H:Hp}{s:Shared}{C:Addr}{h2:Heap}(I:Inv X pins σ H s)(F:FpOk X pins H C)(sb:Heap.SameBut C s.heap h2):Inv X pins σ H {s with heap:=h2}:=
 I.turned (t':=s.toks) (fun b o hb e=>(sb.2 b hb).trans e) F.1 F.2.1 F.2.2.2.1 F.2.2.2.2.1 F.2.2.2.2.2
theorem comp_run{Q:VK}{itv:Value}{s2:Shared}{E:Value→Shared→Prop}{RR:Value→Addr→Result→Shared→Prop}(hc:X.calm=true)(O:CompOk X.N X.env.scope scope xs fs)
 (hg:∀b,PG (X.blk scope (xs++around X.N fs) b) tg (g b)) (ht:∀b,PTs (X.blk scope (xs++around X.N fs) b) ifs (tt b)) (he:∀b,PE (X.blk scope (xs++around X.N fs) b) elt (te b))
 (h:PIE X pins σ tg (CompTail (List.replicate xs.length none++fs.map fun j=>σ.getD j none) g tt te Q) itv s2)
 (hR:∀D C s' m H',s'.heap.Ns C m→Inv X pins σ H' s'→Q (.ref D) H'→FpOk X pins H' C→RR (.ref D) C (.ok .next) s'):
 wpAny (model X.prog X.w) X.A (newList []) (fun acc s₃=>wpAny (model X.prog X.w) X.A (newFunctionEnv scope X.env.globals (clo X.env scope.names []) [] X.env.qual none .none (some X.env)) (fun cenv s₄=>
  codeAny (model X.prog X.w) X.A (.compStart (.ListComp elt [⟨tg,iter,ifs,0⟩] scope pos) 0 itv acc {cenv with scope:=relabel scope X.env}) (RR acc cenv.locals) s₄) E s₃) E s2:=by
 obtain ⟨it,fp,tn,J,H2,rfl,I2,T,st2,f2,rd⟩:=h
 have hfp:∀b∈fp,b < s2.heap.objs.size:=fun b hb=>by
  obtain ⟨o,e,_⟩:=T.obj _ _ st2 b hb
  exact Heap.lt_size e
 refine wpAny_newObj_type (wpAny_newFunctionEnv O.cell (by intro y hy;simp at hy) (fun h₁ hns₁ hsb₁=>?_) O.kind)
 dsimp only at hns₁ hsb₁ ⊢
 generalize hH2:s2.heap.push {cls:= .type "list",dict:=none,data:= .seq ([]:List Value).toArray}=HH at hns₁ hsb₁ ⊢
 have hC:HH.objs.size=s2.heap.objs.size+1:=by rw [← hH2,Heap.size_push]
 have hDC:s2.heap.objs.size≠HH.objs.size:=by rw [hC];exact Nat.ne_of_lt (Nat.lt_succ_self _)
 have hCle:s2.heap.objs.size≤HH.objs.size:=by rw [hC];exact Nat.le_succ _
 have old:∀b o,s2.heap.get? b=some o→h₁.get? b=some o:=fun b o e=>hsb₁.extBut b o (by rw [hC];exact Nat.ne_of_lt (Nat.lt_succ_of_lt (Heap.lt_size e))) (Heap.get?_push_of_some _ (hH2▸Heap.get?_push_of_some _ e))
 have hacc:h₁.get? s2.heap.objs.size=some {cls:= .type "list",data:= .seq #[] 0}:=hsb₁.extBut _ _ hDC (Heap.get?_push_of_some _ (hH2▸Heap.get?_push_size _ rfl))
 obtain ⟨W,⟨m0,w0⟩,turn⟩:=rd ⟨s2,H2,HH.objs.size,fp⟩ s2.heap.objs.size I2.fresh
 have I3:=blk_in (t:=s2.toks+([]:List (Str×Value)).length) I2 O f2 (Nat.le_refl _) hCle hfp hDC old hacc hns₁
 rw [show xs.map (fun _=>(none:Option V))=List.replicate xs.length none from List.map_const' ..]at I3
 generalize hX:X.blk scope (xs++around X.N fs) ⟨s2,H2,HH.objs.size,fp⟩=X' at I3
 have stat:∀{H':Hp},(∀b∈fp,H' b=none)→∀b∈fp,FpOk X' [] H' b:=fun hn b hb=>by
  subst hX
  refine ⟨hn b hb,?_,?_,.inl hb,fun x c e=>?_,fun p hp=>absurd hp (by simp)⟩
  · exact (I3.ok.exf b hb).1
  · exact I3.ok.exfs b hb
  · exact (I3.ok.exf b hb).2 x c e
 have fr3:∀b∈fp,upd H2 s2.heap.objs.size (.lst []) b=none:=fun b hb=>by
  rw [upd_ne (Nat.ne_of_lt (hfp b hb))];exact (f2 b hb).1
 have ccell:∀y c,X.env.cells.lookup y=some c→c≠HH.objs.size:=fun y c e=>by
  obtain ⟨v,q⟩:=I2.cell y c e
  exact Nat.ne_of_lt (Nat.lt_of_lt_of_le q.lt hCle)
 have cloc:HH.objs.size≠X.env.locals:=(Nat.ne_of_lt (Nat.lt_of_lt_of_le I2.lt hCle)).symm
 have eP:X'.prog=X.prog:=by rw [← hX]
 have ew:X'.w=X.w:=by rw [← hX]
 have eK:X'.K=X.K:=by rw [← hX]
 have eA:X'.A=X.A:=by rw [← hX]
 have ec:X'.calm=true:=by rw [← hX];exact hc
 have ex:X'.xe=fun _ _=>False:=by rw [← hX]
 have een:X'.env=compEnvC scope (clo X.env scope.names []) HH.objs.size X.env:=by rw [← hX]
 have hg':=hg ⟨s2,H2,HH.objs.size,fp⟩
 have ht':=ht ⟨s2,H2,HH.objs.size,fp⟩
 have he':=he ⟨s2,H2,HH.objs.size,fp⟩
 rw [hX]at hg' ht' he'
 have st1:tn 0 h₁:=T.keep _ _ _ st2 fun b hb o e=>old b o e
 have loop:∀s₃:Shared,s₃={s2 with heap:=h₁,toks:=s2.toks+([]:List (Str×Value)).length}→
  codeAny (model X.prog X.w) X.A (.compLoop (.ListComp elt [⟨tg,iter,ifs,0⟩] scope pos) 0 (.ref it) (.ref s2.heap.objs.size) (compEnvC scope (clo X.env scope.names []) HH.objs.size X.env))
   (RR (.ref s2.heap.objs.size) HH.objs.size) s₃:=by
  rintro s₃ rfl
  refine compLoop_any (fun n s'=>∃i ys H',Inv X' [] (List.replicate xs.length none++fs.map fun j=>σ.getD j none) H' s'∧tn i s'.heap∧(∀b∈fp,H' b=none)∧W i n ys H') ?_ m0 ⟨0,[],_,I3,st1,fr3,w0⟩
  rintro n s4 ⟨i,ys,H4,I4,st4,fr4,w4⟩
  obtain ⟨hD4,tn4⟩:=turn i n ys H4 w4
  rcases tn4 with ⟨stop,qn⟩ | ⟨go,step⟩
  · have td:=T.done X' eP ew eK ec i [] s4 _ H4 (notedBy (model X.prog X.w) X.A (compEnvC scope (clo X.env scope.names []) HH.objs.size X.env) fun e s'=>RR (.ref s2.heap.objs.size) HH.objs.size (.error e) s') I4 (stat fr4) st4 stop
    rw [eA]at td
    refine thn td fun r s5 ⟨hr,I5⟩=>?_
    subst hr
    obtain ⟨m5,hn5,_⟩:=I5.loc
    rw [een]at hn5
    have fr5:H4 HH.objs.size=none:=by have:=I5.free;rw [een]at this;exact this
    rw [← hX]at I5
    exact hR _ _ _ m5 H4 hn5 (blk_out I2 f2 hCle I5 (Heap.SameBut.refl ..)) qn (I2.fpOk hCle fr5)
  · have ti:=T.item X' eP ew eK ec i [] s4 _ H4 (notedBy (model X.prog X.w) X.A (compEnvC scope (clo X.env scope.names []) HH.objs.size X.env) fun e s'=>RR (.ref s2.heap.objs.size) HH.objs.size (.error e) s') I4 (stat fr4) st4 go
    rw [eA]at ti
    refine thn ti fun r s5 ⟨u,hr,h5⟩=>?_
    subst hr
    refine thn h5 fun _ s6 hq_=>?_
    obtain ⟨x,H6,I6,r6,y6,st6,fr6⟩:=hq_
    have I6':=I6.pinned (stat fr6) (T.obj _ _ st6)
    have g1:=hg' _ s6 _ H6 x u _ I6' r6 (step x H6 y6)
    rw [eP,ew,eA,een,ex]at g1
    refine wpAny_mono g1 (fun _ s7 hq_=>?_) fun _ _ z=>z.elim
    obtain ⟨σ7,H7,I7,kp7,q7⟩:=hq_
    have t1:=ht' _ s7 σ7 H7 _ I7 q7
    rw [eP,ew,eA,een,ex]at t1
    have back:∀{H9:Hp} {s9:Shared},Inv X' ([]++pinsAt fp s6.heap) σ7 H9 s9→Inv X' [] (List.replicate xs.length none++fs.map fun j=>σ.getD j none) H9 s9∧tn (i+1) s9.heap∧∀b∈fp,H9 b=none:=fun {H9 s9} I9=>by
     refine ⟨I9.unpinned.weak ?_ kp7,T.keep _ _ _ st6 fun b hb o e=>(I9.pin (b,o) (List.mem_append_right _ (List.mem_append_right _ (mem_pinsAt hb e)))).1,fun b hb=>?_⟩
     · rw [I9.len,I4.len]
     · obtain ⟨o,e,d⟩:=T.obj _ _ st6 b hb
       exact (I9.pin (b,o) (List.mem_append_right _ (List.mem_append_right _ (mem_pinsAt hb e)))).2.1
    refine wpAny_mono t1 (fun ok s8 ⟨H8,I8,q8⟩=>?_) fun _ _ z=>z.elim
    cases ok with
    | false=>
     rw [if_neg Bool.false_ne_true]at q8 ⊢
     obtain ⟨m',hm,w8⟩:=q8
     obtain ⟨b1,b2,b3⟩:=back I8
     exact ⟨m',hm,i+1,ys,H8,b1,b2,b3,w8⟩
    | true=>
     rw [if_pos rfl]at q8 ⊢
     have e1:=he' _ s8 σ7 H8 _ I8 q8
     rw [eP,ew,eA,een,ex]at e1
     refine wpAny_mono e1 (fun uy s9 hq_=>?_) fun _ _ z=>z.elim
     obtain ⟨y,H9,I9,r9,hD9,hz,m',hm,w9⟩:=hq_
     have a1:=mt_append (X:=X') (pins:=[]++pinsAt fp s6.heap) (s:=s9) (σ:=σ7) (H:=H9) (x:= .ref s2.heap.objs.size) (xs:=[y]) (v:= .ref s2.heap.objs.size) (us:=[uy]) (Q:=fun _ H'=>H'=upd H9 s2.heap.objs.size (.lst (ys++[y]))) I9 rfl (.cons r9 .nil) ⟨_,ys,y,rfl,rfl,hD9,hz,rfl⟩
     rw [eP,ew,eA,ex]at a1
     refine wpAny_mono a1 (fun _ s10 hq_=>?_) fun _ _ z=>z.elim
     obtain ⟨_,H10,I10,_,e10⟩:=hq_
     subst e10
     obtain ⟨b1,b2,b3⟩:=back I10
     exact ⟨m',hm,i+1,_,_,b1,b2,b3,w9⟩
 exact codeAny_compStart_list (loop _ rfl) (T.self _ 0 _ _ _ st1 (loop _ rfl))
theorem pe_compG(hc:X.calm=true)(hok:compOkB X.N X.env.scope scope xs fs=true)(hi:PI X tg iter wi)
 (hg:∀b,PG (X.blk scope (xs++around X.N fs) b) tg (g b)) (ht:∀b,PTs (X.blk scope (xs++around X.N fs) b) ifs (tt b)) (he:∀b,PE (X.blk scope (xs++around X.N fs) b) elt (te b))
 (hs:∀x,foldedSetIterable iter X.env x=pure x:=by intro _;rfl):
 PE X (.ListComp elt [⟨tg,iter,ifs,0⟩] scope pos) (tComp wi xs.length fs g tt te):=by
 intro pins s σ H Q I h
 have O:=compOk_of hok
 rw [eval_ListComp]
 refine wpAny_comprehension_free (use:=none) rfl hs (clo_closure fun y hy hf=>I.ok.has _ (O.free y hy hf)) O.kind O.names (thn (hi pins s σ H _ I h) fun v s1 h1=>thn h1 fun itv s2 h2=>?_)
 exact comp_run (RR:=fun acc C=>compPost (model X.prog X.w) X.A X.xe none (EP X pins σ Q) acc C) hc O hg ht he h2 fun D C s' m H' hn I' q F=>⟨m,hn,fun h2 sb=>⟨.ref D,H',turned_of I' F sb,rfl,q⟩⟩
theorem ps_comp{y:Str}{py:Pos}{i:Nat}(hN:X.N.Nodup)(hy:X.N[i]?=some y)(hyl:X.env.kindOf y=some .local)(hc:X.calm=true)(hok:compOkB X.N X.env.scope scope xs fs=true)(hi:PI X tg iter wi)
 (hg:∀b,PG (X.blk scope (xs++around X.N fs) b) tg (g b)) (ht:∀b,PTs (X.blk scope (xs++around X.N fs) b) ifs (tt b)) (he:∀b,PE (X.blk scope (xs++around X.N fs) b) elt (te b)) {spos:Pos}
 (hsw:swapsWith (.ListComp elt [⟨tg,iter,ifs,0⟩] scope pos) (some (.Name y py)) spos.line X.env=pure true:=by rfl)
 (hs:∀x,foldedSetIterable iter X.env x=pure x:=by intro _;rfl):
 PS X (.Assign [.Name y py] (.ListComp elt [⟨tg,iter,ifs,0⟩] scope pos) spos) (tAsg (tComp wi xs.length fs g tt te) (gName i)):=by
 intro pins s σ H D I h
 have O:=compOk_of hok
 rw [exec_Assign_Name_used _ _ _ _ hsw]
 refine wpAny_bind (wpAny_standAt (wpAny_bind ?_))
 show wpAny _ X.A (do let _ ← comprehension (.ListComp elt [⟨tg,iter,ifs,0⟩] scope pos) scope X.env _ (newList []) false (eval iter X.env) (some (assign (.Name y py) X.env))) _ _ s
 refine wpAny_bind (wpAny_mono (wpAny_comprehension_free (use:=some (assign (.Name y py) X.env)) (Q:=fun _ s'=>SP X pins D .next s') rfl hs (clo_closure fun y hy hf=>I.ok.has _ (O.free y hy hf)) O.kind O.names
  (thn (hi pins s σ H _ I h) fun v s1 h1=>thn h1 fun itv s2 h2=>?_)) (fun _ s' hq=>wpAny_pure (wpAny_pure hq)) fun _ _ e=>e)
 refine comp_run (RR:=fun acc C=>compPost (model X.prog X.w) X.A X.xe (some (assign (.Name y py) X.env)) (fun _ s'=>SP X pins D .next s') acc C) hc O hg ht he h2 fun D' C s' m H' hn I0 q0 F=>?_
 show wpAny _ X.A (assign (.Name y py) X.env (.ref D')) _ _ _
 refine wpAny_assign_Name (store_ok2 I0 hN hy (.inl hyl) (v:= .ref D') rfl (fun s3 I3 hsb=>?_) (.inr hyl))
 obtain ⟨a,sb3,ha⟩:=hsb
 have haC:C≠a:=by
  rcases ha with rfl | ha
  · exact F.2.1
  · exact (F.2.2.2.2.1 y a ha).symm
 exact ⟨m,hn.sameBut sb3 haC,fun h4 sb4=>⟨_,H',turned_of I3 F sb4,q0⟩⟩
end
end L2
namespace L2
noncomputable def Its(z:Str):It:=⟨fun i _=>i < z.cps.size,fun i H x H'=>H'=H∧∃c,z.cps[i]?=some c∧x= .str ⟨#[c]⟩,fun i _=>z.cps.size≤i⟩
noncomputable def iStr(tl:TE):TI:=fun σ H R=>tl σ H fun x H1=>∃z,x= .str z∧R (Its z) H1
section
variable {P:Program} {w:World} {K:PySem.W.Frag} {tg:Expr}
theorem turn_str(ty:String)(hty:ty="str_ascii_iterator"∨ty="str_iterator")(z:Str)(t:Tok)(it:Addr):Turn P w K tg (Its z) [it] it (fun i h=>i≤z.cps.size∧h.IsStrIter it ty z t i) where
 mem:=by simp
 obj:=fun i h st b hb=>by
  have e:b=it:=by simpa using hb
  subst e
  obtain ⟨o,e,c,d⟩:=st.2
  exact ⟨o,e,fun v z=>by rw [d]at z;cases z⟩
 keep:=fun i h h' st k=>⟨st.1,by obtain ⟨o,e,r⟩:=st.2;exact ⟨o,k it (by simp) o e,r⟩⟩
 item:=by
  intro X hP hw hK hc i pins s σ H E I hf st hg
  subst hP hw hK
  obtain ⟨f0,f1,f2,f3,f4,f5⟩:=hf it (by simp)
  have W:Walks X.prog X.w X.A it [it] [it] z.cps.size (SignAt z) (fun i h=>h.IsStrIter it ty z t i):=by
   rcases hty with rfl | rfl
   · exact Walks.strAscii (I.ok.hd hc) it z t
   · exact Walks.strWide (I.ok.hd hc) it z t
  refine W.item i s _ _ hg st.2 fun v h' tk hv st' kk=>?_
  obtain ⟨c,u,hcc,rfl⟩:=hv
  have I1:Inv X pins σ H {s with heap:=h',toks:=tk}:=I.turned (fun b o hb e=>kk b o (by simpa using hb) e) f0 f1 f3 f4 f5
  obtain ⟨o,e,cc,d⟩:=id st'
  refine ⟨_,rfl,go_of (s:={s with heap:=h',toks:=tk}) (n:=ty) e cc d (by rcases hty with rfl | rfl <;> decide) ⟨.str ⟨#[c]⟩,H,I1,⟨u,rfl⟩,⟨rfl,c,hcc,rfl⟩,⟨hg,st'⟩,fun b hb=>(hf b hb).1⟩⟩
 done:=by
   intro X hP hw hK hc i pins s σ H E I hf st hg
   subst hP hw hK
   obtain ⟨f0,f1,f2,f3,f4,f5⟩:=hf it (by simp)
   have W:Walks X.prog X.w X.A it [it] [it] z.cps.size (SignAt z) (fun i h=>h.IsStrIter it ty z t i):=by
    rcases hty with rfl | rfl
    · exact Walks.strAscii (I.ok.hd hc) it z t
    · exact Walks.strWide (I.ok.hd hc) it z t
   have hi:i=z.cps.size:=Nat.le_antisymm st.1 hg
   subst hi
   exact W.done s _ _ st.2 fun h' tk kk=>⟨rfl,I.turned (fun b o hb e=>kk b o (by simpa using hb) e) f0 f1 f3 f4 f5⟩
 self:=fun _ _ _ _ _ st h=>by
  rcases hty with rfl | rfl
  · exact wpAny_pyIter_striter_ascii st.2 h
  · exact wpAny_pyIter_striter_wide st.2 h
end
section
variable {X:Cx} {tg:Expr}
theorem pi_str{l:Expr}{tl:TE}(hl:PE X l tl):PI X tg l (iStr tl):=by
 intro pins s σ H R I h
 refine thn (hl pins s σ H _ I h) fun v s1 hq_=>?_
 obtain ⟨x,H1,I1,r1,q1⟩:=hq_
 obtain ⟨z,e,q⟩:=q1
 subst e
 obtain ⟨t,rfl⟩:=r1
 have fin:∀ty,(ty="str_ascii_iterator"∨ty="str_iterator")→PIE X pins σ tg R (.ref s1.heap.objs.size) {s1 with heap:=s1.heap.push {cls:= .type ty,data:= .fields #[.str z t,.int 0 0]}}:=fun ty hty=>by
  refine ⟨s1.heap.objs.size,[s1.heap.objs.size],_,_,H1,rfl,I1.kept (t':=s1.toks) fun b o e=>Heap.get?_push_of_some _ e,turn_str ty hty z t _,⟨Nat.zero_le _,_,Heap.get?_push_size _ rfl,rfl,rfl⟩,fun b hb=>?_,q⟩
  have e:b=s1.heap.objs.size:=by simpa using hb
  subst e
  exact I1.fpOk (Nat.le_refl _) I1.fresh
 cases ha:z.cps.all (· < 128)
 · exact wpAny_pyIter_wide ha (fin _ (.inr rfl))
 · exact wpAny_pyIter_ascii ha (fin _ (.inl rfl))
noncomputable def rSlS:V→Option Int→Option Int→Hp→VK→Prop:=fun x lo hi H Q=>∃z,x= .str z∧z.length≤sizeLine∧Q (.str (Txt.slice z lo hi)) H
theorem sl_str:SlR X rSlS:=by
 intro pins s σ H x v vl vu lo hi sl Q I rx hs pl pu h
 obtain ⟨z,rfl,hz,q⟩:=h
 obtain ⟨t,rfl⟩:=rx
 obtain ⟨o,ho,hc,hd⟩:=hs
 refine ⟨"str",_,F.slot_str_getitem.lookup,typeIs_str _ _ _,?_⟩
 have fin:∀(l u:Option (Int×Tok)),s.heap.IsSlice sl l u none→l.map (·.1)=lo→u.map (·.1)=hi→wpAny (model X.prog X.w) X.A (getItem (.str z t) (.ref sl)) (EP X pins σ Q) X.xe s:=fun l u hsl hl hu=>by
  subst hl hu
  exact wpAny_getItem_str_slice (l:=l) (u:=u) (st:=none) hsl rfl (post_val_or_str ⟨Nat.le_trans (Txt.slice_le z _ _) hz,fun t' k=>⟨.str _,H,I.tok k,⟨t',rfl⟩,q⟩⟩)
 cases pl <;> cases pu
 · exact fin none none ⟨o,ho,hc,hd⟩ rfl rfl
 · exact fin none (some (_,_)) ⟨o,ho,hc,hd⟩ rfl rfl
 · exact fin (some (_,_)) none ⟨o,ho,hc,hd⟩ rfl rfl
 · exact fin (some (_,_)) (some (_,_)) ⟨o,ho,hc,hd⟩ rfl rfl
noncomputable def rJoin(K:PySem.W.Frag):V→List V→Hp→VK→Prop:=fun x vs H Q=>∃z p ys,x= .str z∧vs=[.ref p]∧SqL K H p (ys.map V.str)∧(ys.map (·.length)).sum+ys.length * z.length≤16777216∧Q (.str (Txt.join z ys)) H
noncomputable def rFind:V→List V→Hp→VK→Prop:=fun x vs H Q=>∃z y,x= .str z∧vs=[.str y]∧Q (.int (Txt.find z y)) H
noncomputable def rSplit:V→List V→Hp→VK→Prop:=fun x vs H Q=>∃z y,x= .str z∧vs=[.str y]∧(y.length==0)=false∧z.length+2≤sizeLine∧∀p,H p=none→Q (.ref p) (upd H p (.lst ((Txt.split z y).map V.str)))
noncomputable def rMulS:R2:=fun x y H Q=>∃z n,x= .str z∧y= .int n∧MulOk z n∧Q (.str (Txt.mul z n)) H
noncomputable def rAll(K:PySem.W.Frag):List V→Hp→VK→Prop:=fun xs H Q=>∃(p:Addr) (bs:List Bool),xs=[.ref p]∧SqL K H p (bs.map V.bl)∧Q (.bl (bs.all id)) H
theorem call_all(hc:X.calm=true):CallR X (.builtin "all") (rAll X.K):=by
 intro pins s σ H xs us Q I r h
 obtain ⟨p,bs,rfl,hp,q⟩:=h
 obtain ⟨u,rfl,ru⟩:=vals1 r
 cases ru
 obtain ⟨its,r,pl,hz⟩:=I.list hp
 have hlt:p < s.heap.objs.size:=by obtain ⟨o,n,e,_⟩:=pl;exact Heap.lt_size e
 refine call_all_walk (wpAny_pyIter_list pl.isList ⟨s.heap.objs.size,_,_,_,_,_,fun i=>bs.getD i true,rfl,Walks.list (show X.A.in1.handled=none from I.ok.hd hc) s.heap.objs.size p (Nat.ne_of_lt hlt) its.toArray,⟨⟨_,Heap.get?_push_size _ rfl,rfl,rfl⟩,pl.isList.push _⟩,?_,fun h' tk kk=>?_⟩)
 · intro i v s' Q' E' hP hQ'
   have hP:its.toArray[i]?=some v:=hP
   have hlen:=r.length
   rw [List.length_map]at hlen
   have hi:i < bs.length:=by
    have:=(Array.getElem?_eq_some_iff.mp hP).1
    rw [List.size_toArray]at this
    omega
   obtain ⟨u,hu,ru⟩:=r.get (i:=i) (x:=V.bl (bs[i])) (by simp [hi])
   have e:u=v:=by
    have:its[i]?=some v:=by simpa using hP
    rw [hu]at this;exact Option.some.inj this
   subst e
   cases ru
   dsimp only at hQ'
   rw [List.getD_eq_getElem?_getD,List.getElem?_eq_getElem hi]at hQ'
   exact wpAny_pure hQ'
 · refine ⟨.bl _,H,I.kept (t':=tk) fun b o e=>kk b o ?_ (Heap.get?_push_of_some _ e),rfl,?_⟩
   · simpa using Nat.ne_of_lt (Heap.lt_size e)
   · have hlen:=r.length
     rw [List.length_map]at hlen
     have:((List.range its.toArray.size).all fun i=>bs.getD i true)=bs.all id:=by
      rw [List.size_toArray,← hlen]
      rw [Bool.eq_iff_iff,List.all_eq_true,List.all_eq_true]
      constructor
      · intro h x hx
        obtain ⟨i,hi,rfl⟩:=List.mem_iff_getElem.mp hx
        have:=h i (by simpa using hi)
        simpa [List.getD_eq_getElem?_getD,List.getElem?_eq_getElem hi] using this
      · intro h i hi
        have hi:i < bs.length:=by simpa using hi
        rw [List.getD_eq_getElem?_getD,List.getElem?_eq_getElem hi]
        exact h _ (List.getElem_mem hi)
     rw [this];exact q
end
noncomputable abbrev TJ:=Str→St→Hp→(Str→Hp→Prop)→Prop
noncomputable def jNil:TJ:=fun acc _ H Q=>Q acc H
noncomputable def jCons(te:TE)(tr:TJ):TJ:=fun acc σ H Q=>te σ H fun x H1=>∃y,x= .str y∧(acc++y).length≤sizeLine∧tr (acc++y) σ H1 Q
noncomputable def tFstr(t:TJ):TE:=fun σ H Q=>t Str.empty σ H fun out H1=>out.length≤sizeLine∧Q (.str out) H1
noncomputable def tFmt(te:TE):TE:=fun σ H Q=>te σ H fun x H1=>(∃z,x= .str z∧z.length≤sizeLine∧Q (.str z) H1)∨∃i,x= .int i∧i.natAbs.log2 < 1920∧Q (.str (toString i)) H1
noncomputable def tFmtR(te:TE):TE:=fun σ H Q=>te σ H fun x H1=>∃z,x= .str z∧(PySem.reprText z).length≤sizeLine∧Q (.str (PySem.reprText z)) H1
end L2
namespace L2
noncomputable abbrev tComp1(wi:TI)(fs:List Nat)(te:Blk→TE):TE:=tComp wi 1 fs (fun _=>gName 0) (fun _=>tYes) te
section
variable {X:Cx} {scope:Scope} {x:Str} {px:Pos} {fs:List Nat} {elt iter:Expr} {pos:Pos} {wi:TI} {te:Blk→TE}
theorem pg_own(hok:compOkB X.N X.env.scope scope [x] fs=true)(b:Blk):PG (X.blk scope ([x]++around X.N fs) b) (.Name x px) (gName 0):=
 pg_name (compOk_of hok).nd rfl (.inl (lookup_relabel_local ((compOk_of hok).own x (by simp)))) (.inr (lookup_relabel_local ((compOk_of hok).own x (by simp))))
theorem pe_comp1(x:Str)(fs:List Nat)(hc:X.calm=true)(hok:compOkB X.N X.env.scope scope [x] fs=true)(hi:PI X (.Name x px) iter wi)(he:∀b,PE (X.blk scope ([x]++around X.N fs) b) elt (te b))
 (hs:∀x,foldedSetIterable iter X.env x=pure x:=by intro _;rfl):PE X (.ListComp elt [⟨.Name x px,iter,[],0⟩] scope pos) (tComp1 wi fs te):=
 pe_compG (xs:=[x]) (g:=fun _=>gName 0) (tt:=fun _=>tYes) hc hok hi (pg_own hok) (fun _=>pts_nil) he hs
theorem ps_comp1{y:Str}{py:Pos}{i:Nat}{spos:Pos}(x:Str)(fs:List Nat)(hN:X.N.Nodup)(hy:X.N[i]?=some y)(hyl:X.env.kindOf y=some .local)(hc:X.calm=true)(hok:compOkB X.N X.env.scope scope [x] fs=true)(hi:PI X (.Name x px) iter wi)(he:∀b,PE (X.blk scope ([x]++around X.N fs) b) elt (te b))
 (hsw:swapsWith (.ListComp elt [⟨.Name x px,iter,[],0⟩] scope pos) (some (.Name y py)) spos.line X.env=pure true:=by rfl)
 (hs:∀x,foldedSetIterable iter X.env x=pure x:=by intro _;rfl):PS X (.Assign [.Name y py] (.ListComp elt [⟨.Name x px,iter,[],0⟩] scope pos) spos) (tAsg (tComp1 wi fs te) (gName i)):=
 ps_comp (xs:=[x]) (g:=fun _=>gName 0) (tt:=fun _=>tYes) hN hy hyl hc hok hi (pg_own hok) (fun _=>pts_nil) he hsw hs
theorem pass_no{P:Program}{w:World}{Y:Cx}:Passes (CXE P w) Y fun _ _ _=>False:=fun _ _ _ _ _ _ _ h=>by
 obtain ⟨_,_,_,_,_,_,_,_,_,_,_,_,_,_,z⟩:=h
 exact z.elim
end
theorem kept0{x:Option V}{r:St}:Kept (none::r) (x::r):=fun i v e=>by
 cases i with
 | zero=>cases e
 | succ i=>exact e
section
variable {K:PySem.W.Frag} {tail:St} {te:Blk→TE} {Q:VK} {H1:Hp}
noncomputable def CompNext(D:Addr)(n i:Nat)(ys:List V)(Pv:Nat→List V→Hp→Prop):VK:=fun y H4=>H4 D=some (.lst ys)∧ys.length < sizeLine∧∃m',m' < n - i∧(m'=n - (i+1)∧i+1≤n∧Pv (i+1) (ys++[y]) (upd H4 D (.lst (ys++[y]))))
theorem compNext{D:Addr}{n i:Nat}{ys:List V}{Pv:Nat→List V→Hp→Prop}{y:V}{H4:Hp}(h1:H4 D=some (.lst ys))(h2:ys.length < sizeLine)(h3:i < n)(h4:Pv (i+1) (ys++[y]) (upd H4 D (.lst (ys++[y])))):CompNext D n i ys Pv y H4:=
 ⟨h1,h2,n - (i+1),by omega,rfl,h3,h4⟩
theorem comp_by{J:It}(n:Nat)
 (h:∀(b:Blk) (D:Addr),H1 D=none→∃Pv:Nat→List V→Hp→Prop,Pv 0 [] (upd H1 D (.lst []))∧(∀i ys H,Pv i ys H→H D=some (.lst ys))∧(∀ys H,Pv n ys H→J.stop n H∧Q (.ref D) H)∧
  ∀i ys H,i < n→Pv i ys H→J.go i H∧∀x H3,J.yld i H x H3→te b (some x::tail) H3 (CompNext D n i ys Pv)):CompTail (none::tail) (fun _=>gName 0) (fun _=>tYes) te Q J H1:=by
 intro b D hD
 obtain ⟨Pv,p0,p1,p2,p3⟩:=h b D hD
 refine ⟨fun i m ys H=>m=n - i∧i≤n∧Pv i ys H,⟨n,rfl,Nat.zero_le _,p0⟩,?_⟩
 rintro i m ys H ⟨rfl,hi,p⟩
 refine ⟨p1 i ys H p,?_⟩
 by_cases hlt:i < n
 · obtain ⟨go,st⟩:=p3 i ys H hlt p
   refine .inr ⟨go,fun x H3 y=>⟨kept0,?_⟩⟩
   exact st x H3 y
 · have e:i=n:=by omega
   subst e
   exact .inl (p2 ys H p)
theorem same_new{D:Addr}{o:HO}(h:H1 D=none):Same H1 (upd H1 D o):=fun b u e=>by rw [upd_ne (ne_of_none e h)];exact e
theorem compS_pure{z:Str}(f:Nat→V)(hz:z.cps.size≤sizeLine)(he:∀b c H Q',c∈z.cps.toList→Same H1 H→Q' (f c) H→te b (some (.str ⟨#[c]⟩)::tail) H Q')
 (q:∀D,H1 D=none→Q (.ref D) (upd H1 D (.lst (z.cps.toList.map f)))):CompTail (none::tail) (fun _=>gName 0) (fun _=>tYes) te Q (Its z) H1:=by
 refine comp_by z.cps.size (fun b D hD=>⟨fun i ys H=>i≤z.cps.size∧ys=(z.cps.toList.take i).map f∧H=upd H1 D (.lst ys),⟨Nat.zero_le _,rfl,rfl⟩,?_,?_,?_⟩)
 · rintro i ys H ⟨hi,rfl,rfl⟩
   exact upd_same
 · rintro ys H ⟨_,rfl,rfl⟩
   refine ⟨Nat.le_refl _,?_⟩
   have e:z.cps.toList.take z.cps.size=z.cps.toList:=List.take_of_length_le (by simp)
   rw [e];exact q D hD
 · rintro i ys H hi ⟨_,rfl,rfl⟩
   refine ⟨hi,fun x H3 ⟨e3,c,hc,ex⟩=>?_⟩
   subst e3 ex
   have hc':z.cps.toList[i]?=some c:=by simpa using hc
   refine he b c _ _ (List.mem_of_getElem? hc') (same_new hD) (compNext upd_same (by rw [List.length_map,List.length_take,Array.length_toList];omega) hi ⟨hi,?_,?_⟩)
   · rw [List.take_add_one,hc'];simp
   · funext a;by_cases ha:a=D <;> simp [upd,ha]
theorem compL_pure{a:Addr}{xs:List V}(f:V→V)(hS:SqL K H1 a xs)(hz:xs.length≤sizeLine)(he:∀b x H Q',x∈xs→Same H1 H→Q' (f x) H→te b (some x::tail) H Q')
 (q:∀D,H1 D=none→Q (.ref D) (upd H1 D (.lst (xs.map f)))):CompTail (none::tail) (fun _=>gName 0) (fun _=>tYes) te Q (Itl K a) H1:=by
 refine comp_by xs.length (fun b D hD=>⟨fun i ys H=>i≤xs.length∧ys=(xs.take i).map f∧H=upd H1 D (.lst ys),⟨Nat.zero_le _,rfl,rfl⟩,?_,?_,?_⟩)
 · rintro i ys H ⟨hi,rfl,rfl⟩
   exact upd_same
 · rintro ys H ⟨_,rfl,rfl⟩
   refine ⟨⟨xs,(same_new hD).seq hS,Nat.le_refl _⟩,?_⟩
   rw [List.take_length];exact q D hD
 · rintro i ys H hi ⟨_,rfl,rfl⟩
   refine ⟨⟨xs,xs[i],(same_new hD).seq hS,by simp [hi]⟩,fun x H3 ⟨e3,ex⟩=>?_⟩
   subst e3
   have hc':=ex xs ((same_new hD).seq hS)
   refine he b x _ _ (List.mem_of_getElem? hc') (same_new hD) (compNext upd_same (by rw [List.length_map,List.length_take];omega) hi ⟨hi,?_,?_⟩)
   · rw [List.take_add_one,hc'];simp
   · funext a;by_cases ha:a=D <;> simp [upd,ha]
theorem compR_pure{lo:Int}{n:Nat}(f:Int→V)(hz:n≤sizeLine)(he:∀b (i:Nat) H Q',i < n→Same H1 H→Q' (f (lo+i)) H→te b (some (.int (lo+i))::tail) H Q')
 (q:∀D,H1 D=none→Q (.ref D) (upd H1 D (.lst ((List.range n).map fun (i:Nat)=>f (lo+(i:Int)))))):CompTail (none::tail) (fun _=>gName 0) (fun _=>tYes) te Q (Itr lo n) H1:=by
 refine comp_by n (fun b D hD=>⟨fun i ys H=>i≤n∧ys=(List.range i).map (fun (i:Nat)=>f (lo+(i:Int)))∧H=upd H1 D (.lst ys),⟨Nat.zero_le _,rfl,rfl⟩,?_,?_,?_⟩)
 · rintro i ys H ⟨hi,rfl,rfl⟩
   exact upd_same
 · rintro ys H ⟨_,rfl,rfl⟩
   exact ⟨Nat.le_refl _,q D hD⟩
 · rintro i ys H hi ⟨_,rfl,rfl⟩
   refine ⟨hi,fun x H3 ⟨e3,ex⟩=>?_⟩
   subst e3 ex
   refine he b i _ _ hi (same_new hD) (compNext upd_same (by rw [List.length_map,List.length_range];omega) hi ⟨hi,?_,?_⟩)
   · rw [List.range_succ];simp
   · funext a;by_cases ha:a=D <;> simp [upd,ha]
end
section
variable {σ:St} {H:Hp} {Q:VK} {D:Ends} {K:PySem.W.Frag}
theorem rd_comp{wi:TI}{fs:List Nat}{te:Blk→TE}:tComp1 wi fs te σ H Q=wi σ H (CompTail (none::fs.map fun j=>σ.getD j none) (fun _=>gName 0) (fun _=>tYes) te Q):=rfl
theorem rd_istr{tl:TE}{R:It→Hp→Prop}:iStr tl σ H R=tl σ H fun x H1=>∃z,x= .str z∧R (Its z) H1:=rfl
theorem rd_sl{r:V→Option Int→Option Int→Hp→VK→Prop}{te:TE}{tl th:TO}:tSl r te tl th σ H Q=te σ H fun x H1=>tl σ H1 fun l H2=>th σ H2 fun u H3=>r x l u H3 Q:=rfl
theorem rd_noPart{QO:Option Int→Hp→Prop}:tNoPart σ H QO=QO none H:=rfl
theorem rd_part{t:TE}{QO:Option Int→Hp→Prop}:tPart t σ H QO=t σ H fun x H1=>∃i,x= .int i∧QO (some i) H1:=rfl
theorem rd_slS{x:V}{lo hi:Option Int}:rSlS x lo hi H Q=∃z,x= .str z∧z.length≤sizeLine∧Q (.str (Txt.slice z lo hi)) H:=rfl
theorem rd_slL{x:V}{lo hi:Option Int}:rSlL K x lo hi H Q=∃a xs,x= .ref a∧SqL K H a xs∧∀p,H p=none→Q (.ref p) (upd H p (.lst (cutV xs lo hi))):=rfl
theorem rd_bm{T:String}{r:V→List V→Hp→VK→Prop}{to:TE}{t:TA}:tBM K T r to t σ H Q=to σ H fun x H1=>tyV K T x H1∧t σ H1 fun xs H2=>r x xs H2 Q:=rfl
theorem rd_bm0{T:String}{r:V→List V→Hp→VK→Prop}{to:TE}:tBM0 K T r to σ H Q=to σ H fun x H1=>tyV K T x H1∧r x [] H1 Q:=rfl
theorem tyV_str{z:Str}:tyV K "str" (.str z) H=True:=eq_true rfl
theorem rd_join{x:V}{vs:List V}:rJoin K x vs H Q=∃z p ys,x= .str z∧vs=[.ref p]∧SqL K H p (ys.map V.str)∧(ys.map (·.length)).sum+ys.length * z.length≤16777216∧Q (.str (Txt.join z ys)) H:=rfl
theorem rd_find{x:V}{vs:List V}:rFind x vs H Q=∃z y,x= .str z∧vs=[.str y]∧Q (.int (Txt.find z y)) H:=rfl
theorem rd_split{x:V}{vs:List V}:rSplit x vs H Q=∃z y,x= .str z∧vs=[.str y]∧(y.length==0)=false∧z.length+2≤sizeLine∧∀p,H p=none→Q (.ref p) (upd H p (.lst ((Txt.split z y).map V.str))):=rfl
theorem rd_all{xs:List V}:rAll K xs H Q=∃(p:Addr) (bs:List Bool),xs=[.ref p]∧SqL K H p (bs.map V.bl)∧Q (.bl (bs.all id)) H:=rfl
theorem rd_mulS{x y:V}:rMulS x y H Q=∃z n,x= .str z∧y= .int n∧MulOk z n∧Q (.str (Txt.mul z n)) H:=rfl
theorem rd_jnil{acc:Str}{QS:Str→Hp→Prop}:jNil acc σ H QS=QS acc H:=rfl
theorem rd_jcons{te:TE}{tr:TJ}{acc:Str}{QS:Str→Hp→Prop}:jCons te tr acc σ H QS=te σ H fun x H1=>∃y,x= .str y∧(acc++y).length≤sizeLine∧tr (acc++y) σ H1 QS:=rfl
theorem rd_fstr{t:TJ}:tFstr t σ H Q=t Str.empty σ H fun out H1=>out.length≤sizeLine∧Q (.str out) H1:=rfl
theorem rd_fmtR{te:TE}:tFmtR te σ H Q=te σ H fun x H1=>∃z,x= .str z∧(PySem.reprText z).length≤sizeLine∧Q (.str (PySem.reprText z)) H1:=rfl
theorem rd_fmt{te:TE}:tFmt te σ H Q=te σ H fun x H1=>(∃z,x= .str z∧z.length≤sizeLine∧Q (.str z) H1)∨∃i,x= .int i∧i.natAbs.log2 < 1920∧Q (.str (toString i)) H1:=rfl
theorem rd_dnewK:tDNewK σ H Q=∀p,H p=none→Q (.ref p) (upd H p (.dK [])):=rfl
theorem ixS_of{z:Str}{i:Int}{c:Nat}(hz:z.length≤sizeLine)(e:atI z.cps.toList i=some c)(q:Q (.str ⟨#[c]⟩) H):rIxS (.str z) (.int i) H Q:=⟨z,i,c,rfl,rfl,hz,e,q⟩
theorem blk_K{X:Cx}{scope:Scope}{N':List Str}{b:Blk}:(X.blk scope N' b).K=X.K:=rfl
end
section
variable {X:Cx} {x:Str} {pos:Pos}
theorem pe_gint{i:Int}(hg:Gl X x)(hm:∃t,X.mg x=some (.int i t))(hd:(x==("__debug__":Str))=false:=by decide):PE X (.Name x pos) (tC (.int i)):=by
 obtain ⟨t,hm⟩:=hm
 exact pe_glob hg hm ⟨t,rfl⟩ hd
theorem pe_gstr{z:Str}(hg:Gl X x)(hm:∃t,X.mg x=some (.str z t))(hd:(x==("__debug__":Str))=false:=by decide):PE X (.Name x pos) (tC (.str z)):=by
 obtain ⟨t,hm⟩:=hm
 exact pe_glob hg hm ⟨t,rfl⟩ hd
end
theorem line_val:sizeLine=16777216:=by decide
theorem len_app{a b:Str}:(a++b).length=a.length+b.length:=strLen_append a b
theorem len_one{c:Nat}:(⟨#[c]⟩:Str).length=1:=rfl
theorem str_len{z:Str}:z.cps.toList.length=z.length:=by simp [Str.length]
theorem app_list{a b:Str}:(a++b).cps.toList=a.cps.toList++b.cps.toList:=by
 show (a.cps++b.cps).toList=_
 simp
theorem atI_in{α:Type}{xs:List α}{i:Int}(h0:0≤i)(h1:i < xs.length):∃v,atI xs i=some v∧v∈xs:=by
 refine ⟨xs[i.toNat],?_,List.getElem_mem (by omega)⟩
 exact atI_of h0 (by rw [List.getElem?_eq_getElem (by omega)])
theorem script_go{K:PySem.W.Frag}{H:Hp}{a:Addr}{ns:List Int}{R:List Int→Prop}(h:SqL K H a (ns.map V.int))(hl:ns.length≤63)(q:R ns):∃x:List Int,SqL K H a (x.map V.int)∧x.length≤63∧R x:=⟨ns,h,hl,q⟩
noncomputable def hasS(z y:Str):Bool:=!(Builtin.Str.occurrences z y 0 z.length 1).isEmpty
theorem hasS_one{z:Str}{c:Nat}:hasS z ⟨#[c]⟩=decide (c∈z.cps.toList):=StrLaws.found_one z c
noncomputable def rInS:R2:=fun x y H Q=>∃i j,x= .str i∧y= .str j∧Q (.bl (hasS j i)) H
noncomputable def rNotInS:R2:=fun x y H Q=>∃i j,x= .str i∧y= .str j∧Q (.bl (!hasS j i)) H
theorem op_inS{X:Cx}:OpR X (compareOp .In) rInS:=op_in_str
theorem rd_inS{x y:V}{H:Hp}{Q:VK}:rInS x y H Q=∃i j,x= .str i∧y= .str j∧Q (.bl (hasS j i)) H:=rfl
theorem rd_notinS{x y:V}{H:Hp}{Q:VK}:rNotInS x y H Q=∃i j,x= .str i∧y= .str j∧Q (.bl (!hasS j i)) H:=rfl
theorem at_0{α:Type}{c:α}{r:List α}:atI (c::r) 0=some c:=atI_of (by decide) rfl
end L2
namespace L2
noncomputable def flatEq(xs ys:List V):Bool:=match xs,ys with
 | [],[]=>true
 | x::xs,y::ys=>eqV x y && flatEq xs ys
 | _,_=>false
theorem flatEq_len:∀{xs ys:List V},xs.length≠ys.length→flatEq xs ys=false
 | [],[],h=>absurd rfl h
 | [],_::_,_=>rfl
 | _::_,[],_=>rfl
 | x::xs,y::ys,h=>by
  unfold flatEq
  rw [flatEq_len (fun e=>h (by simp [e])),Bool.and_false]
theorem flatEq_all:∀{xs ys:List V},xs.length=ys.length→flatEq xs ys=(List.range xs.length).all fun i=>eqV (xs.getD i .non) (ys.getD i .non)
 | [],[],_=>rfl
 | [],_::_,h=>by cases h
 | _::_,[],h=>by cases h
 | x::xs,y::ys,h=>by
  unfold flatEq
  rw [flatEq_all (by simpa using h),List.length_cons,List.range_succ_eq_map,List.all_cons,List.all_map]
  rfl
theorem eqV_str{x y:Str}:eqV (.str x) (.str y)=decide (x=y):=rfl
theorem flatEq_strs:∀{xs ys:List Str},flatEq (xs.map V.str) (ys.map V.str)=decide (xs=ys)
 | [],[]=>rfl
 | [],_::_=>rfl
 | _::_,[]=>rfl
 | x::xs,y::ys=>by
  show (eqV (.str x) (.str y) && flatEq (xs.map V.str) (ys.map V.str))=_
  rw [flatEq_strs,eqV_str]
  by_cases h:x=y
  · subst h;simp
  · simp [h]
noncomputable def EqQ(K:PySem.W.Frag)(H:Hp)(x y:V)(r:Bool):Prop:=∃a b xs ys,x= .ref a∧y= .ref b∧((SqL K H a xs∧SqL K H b ys)∨(SqT K H a xs∧SqT K H b ys))∧xs.all flatV=true∧ys.all flatV=true∧r=flatEq xs ys
section
variable {X:Cx} {pins:List (Addr×Obj)} {σ:St} {H:Hp} {s:Shared}
theorem flat_items{xs ys:List V}{us ws:List Value}{A:Around}(rx:Vals xs us)(ry:Vals ys ws)(fx:xs.all flatV=true)(fy:ys.all flatV=true):
 ∀j (h1:j < us.toArray.size) (h2:j < ws.toArray.size),SeqAt.EqAt A s us.toArray[j] ws.toArray[j] (eqV (xs.getD j .non) (ys.getD j .non)):=by
 intro j h1 h2
 have lx:=rx.length
 have ly:=ry.length
 rw [List.size_toArray]at h1 h2
 have hx:j < xs.length:=by omega
 have hy:j < ys.length:=by omega
 obtain ⟨u,hu,ru⟩:=rx.get (i:=j) (x:=xs[j]) (by simp [hx])
 obtain ⟨w,hw,rw'⟩:=ry.get (i:=j) (x:=ys[j]) (by simp [hy])
 have eu:us.toArray[j]=u:=by
  have:=List.getElem?_eq_getElem h1
  rw [this]at hu
  simpa using hu
 have ew:ws.toArray[j]=w:=by
  have:=List.getElem?_eq_getElem h2
  rw [this]at hw
  simpa using hw
 rw [eu,ew,List.getD_eq_getElem?_getD,List.getD_eq_getElem?_getD,List.getElem?_eq_getElem hx,List.getElem?_eq_getElem hy]
 exact eqAt_V ru rw' (List.all_eq_true.mp fx _ (List.getElem_mem hx)) (List.all_eq_true.mp fy _ (List.getElem_mem hy))
theorem eqQ_rc{x y:V}{u v:Value}{r:Bool}{A:Around}(I:Inv X pins σ H s)(rx:RelV x u)(ry:RelV y v)(h:EqQ X.K H x y r)(hu:A.units < cLine):SeqAt.RcAt A s u v r:=by
 obtain ⟨a,b,xs,ys,rfl,rfl,hq,fx,fy,rfl⟩:=h
 cases rx
 cases ry
 rcases hq with ⟨h1,h2⟩ | ⟨h1,h2⟩
 · obtain ⟨us,r1,p1,z1⟩:=I.list h1
   obtain ⟨ws,r2,p2,z2⟩:=I.list h2
   have lx:=r1.length
   have ly:=r2.length
   by_cases hl:xs.length=ys.length
   · rw [flatEq_all hl]
     have:=SeqAt.RcAt.lists p1.isList p2.isList (by simp;omega) hu (flat_items r1 r2 fx fy)
     rw [List.size_toArray,← lx]at this
     exact this
   · rw [flatEq_len hl]
     exact SeqAt.RcAt.lists_lengths p1.isList p2.isList (by simp;omega) hu
 · obtain ⟨us,r1,p1,z1⟩:=I.tuple h1
   obtain ⟨ws,r2,p2,z2⟩:=I.tuple h2
   have lx:=r1.length
   have ly:=r2.length
   have:=SeqAt.RcAt.tuples (show s.heap.IsTuple a us.toArray from p1) (show s.heap.IsTuple b ws.toArray from p2) hu (flat_items r1 r2 fx fy)
   rw [List.size_toArray,List.size_toArray,← lx,← ly]at this
   by_cases hl:xs.length=ys.length
   · rw [flatEq_all hl]
     rw [hl,Nat.min_self,beq_self_eq_true,Bool.and_true]at this
     rw [hl];exact this
   · rw [flatEq_len hl]
     rw [beq_eq_false_iff_ne.mpr hl,Bool.and_false]at this
     exact this
theorem eqQ_ne{x y:V}{u v:Value}{r:Bool}{A:Around}(I:Inv X pins σ H s)(rx:RelV x u)(ry:RelV y v)(h:EqQ X.K H x y r)(hu:A.units < cLine):SeqAt.RcNeAt A s u v (!r):=by
 obtain ⟨a,b,xs,ys,rfl,rfl,hq,fx,fy,rfl⟩:=h
 cases rx
 cases ry
 rcases hq with ⟨h1,h2⟩ | ⟨h1,h2⟩
 · obtain ⟨us,r1,p1,z1⟩:=I.list h1
   obtain ⟨ws,r2,p2,z2⟩:=I.list h2
   have lx:=r1.length
   have ly:=r2.length
   by_cases hl:xs.length=ys.length
   · rw [flatEq_all hl]
     have:=SeqAt.RcNeAt.lists p1.isList p2.isList (by simp;omega) hu (flat_items r1 r2 fx fy)
     rw [List.size_toArray,← lx]at this
     exact this
   · rw [flatEq_len hl]
     exact SeqAt.RcNeAt.lists_lengths p1.isList p2.isList (by simp;omega) hu
 · obtain ⟨us,r1,p1,z1⟩:=I.tuple h1
   obtain ⟨ws,r2,p2,z2⟩:=I.tuple h2
   have lx:=r1.length
   have ly:=r2.length
   have:=SeqAt.RcNeAt.tuples (show s.heap.IsTuple a us.toArray from p1) (show s.heap.IsTuple b ws.toArray from p2) hu (flat_items r1 r2 fx fy)
   rw [List.size_toArray,List.size_toArray,← lx,← ly]at this
   by_cases hl:xs.length=ys.length
   · rw [flatEq_all hl]
     rw [hl,Nat.min_self,beq_self_eq_true,Bool.and_true]at this
     rw [hl];exact this
   · rw [flatEq_len hl]
     rw [beq_eq_false_iff_ne.mpr hl,Bool.and_false]at this
     exact this
noncomputable def rEqQ(K:PySem.W.Frag):R2:=fun x y H Q=>∃r,EqQ K H x y r∧Q (.bl r) H
noncomputable def rNeQ(K:PySem.W.Frag):R2:=fun x y H Q=>∃r,EqQ K H x y r∧Q (.bl (!r)) H
theorem op_eqQ{k:Nat}(hr:Room k X.A):OpR X (compareOp .Eq) (rEqQ X.K):=by
 intro pins s σ H x y v u Q I rx ry h
 obtain ⟨r,e,q⟩:=h
 exact eqQ_rc I rx ry e (Nat.lt_of_le_of_lt (by omega) hr.un) X.prog X.w X.xe _ ⟨.bl r,H,I,rfl,q⟩
theorem op_neQ{k:Nat}(hr:Room k X.A):OpR X (compareOp .NotEq) (rNeQ X.K):=by
 intro pins s σ H x y v u Q I rx ry h
 obtain ⟨r,e,q⟩:=h
 exact eqQ_ne I rx ry e (Nat.lt_of_le_of_lt (by omega) hr.un) X.prog X.w X.xe _ ⟨.bl (!r),H,I,rfl,q⟩
end
section
variable {K:PySem.W.Frag} {H:Hp} {Q:VK} {x y:V}
theorem rd_eqQ:rEqQ K x y H Q=∃r,EqQ K H x y r∧Q (.bl r) H:=rfl
theorem rd_neQ:rNeQ K x y H Q=∃r,EqQ K H x y r∧Q (.bl (!r)) H:=rfl
theorem all_strs{xs:List Str}:(xs.map V.str).all flatV=true:=by
 rw [List.all_map]
 exact List.all_eq_true.mpr fun _ _=>rfl
theorem eqQ_strs{a b:Addr}{xs ys:List Str}(h1:SqL K H a (xs.map V.str))(h2:SqL K H b (ys.map V.str)):EqQ K H (.ref a) (.ref b) (decide (xs=ys)):=⟨a,b,_,_,rfl,rfl,.inl ⟨h1,h2⟩,all_strs,all_strs,flatEq_strs.symm⟩
end
end L2
namespace L2
structure TryB where
 pn:List (Addr×Obj)
 xe:Value→Shared→Prop
 EE:St→XK
noncomputable def tTryV(tb:TryB→TS)(th:TH):TS:=fun D σ H=>∀(pn:List (Addr×Obj)) (xe:Value→Shared→Prop),tb ⟨pn,xe,fun σ' cls ox H'=>∃x,ox=some x∧th cls x D σ' H'⟩ D σ H
noncomputable def hClsV(K:PySem.W.Frag)(c:Value)(ts:Addr→TS)(tr:TH):TH:=fun cls x D σ H=>∃b,PySem.W.exmOne K cls c=some b∧if b=true then ts x D σ H else tr cls x D σ H
noncomputable def hAsV(K:PySem.W.Frag)(c:Value)(i:Nat)(ts:Addr→TS)(tr:TH):TH:=fun cls x D σ H=>∃b,PySem.W.exmOne K cls c=some b∧if b=true then ts x (endsAs i D) (σ.set i (some (.ref x))) (upd H x (excO x cls)) else tr cls x D σ H
section
variable {X:Cx} {C n:Str} {c:Value} {i:Nat} {np pos:Pos} {b₀:Stmt} {suite:List Stmt} {rest:List ExceptHandler} {ts:Addr→TS} {tr:TH}
theorem ph_asV(hex:X.ex=[])(hN:X.N.Nodup)(hi:X.N[i]?=some n)(hl:X.env.kindOf n=some .local)(hg:Gl X C)(hm:X.mg C=some c)(hs:∀x,PSs (X.sui x) (b₀::suite) (ts x))(hr:PH X rest tr)(hdb:(C==("__debug__":Str))=false:=by decide):
 PH X (.ExceptHandler (some (.Name C np)) (some n) (b₀::suite) pos::rest) (hAsV X.K c i ts tr):=by
 intro pins s σ H x cls D Z h
 obtain ⟨b,e,h⟩:=h
 refine wpAny_handleBy_cons (clause_test (c:=c) Z (fun Q E q=>ld_glob (X:=X.sui x) (Z.inv.sui x) hg hm q hdb) e ?_) (by intro q;cases q)
 cases b with
 | false=>exact hr pins s σ H x cls D Z h
 | true=>
  refine codeAny_handlers_suite_as (Z.land fun s' Z'=>?_)
  refine store_ok (X:=X) (Z'.track hex) hN hi (.inl hl) (v:= .ref x) rfl (fun s2 I2=>?_) (.inr hl)
  refine wpAny_mono (hs x pins s2 _ _ _ (I2.sui x) h) (fun f s3 q=>?_) fun _ _ q=>False.elim q
  have q':=q.unsui Z.inv.ok
  show wpAny _ _ _ _ _ _
  cases f with
  | next=>obtain ⟨σ',H',I3,q3⟩:=q';exact name_goes I3 hN hi hl fun s4 I4=>⟨_,H',I4,q3⟩
  | brk=>obtain ⟨σ',H',I3,q3⟩:=q';exact name_goes I3 hN hi hl fun s4 I4=>⟨_,H',I4,q3⟩
  | cont=>obtain ⟨σ',H',I3,q3⟩:=q';exact name_goes I3 hN hi hl fun s4 I4=>⟨_,H',I4,q3⟩
  | ret u=>obtain ⟨v,σ',H',I3,r3,q3⟩:=q';exact name_goes I3 hN hi hl fun s4 I4=>⟨v,_,H',I4,r3,q3⟩
theorem ps_tryV{body:List Stmt}{h₀:ExceptHandler}{hs:List ExceptHandler}{tb:TryB→TS}{th:TH}(hst:X.stack=X.env::X.outer)(hfr:X.env.frame=some X.env.locals)
 (hb:∀t:TryB,PassesS (CXE X.prog X.w) (X.tryX t.pn t.xe) t.EE→PSs (X.tryX t.pn t.xe) body (tb t)) (hh:PH X (h₀::hs) th):
 PS X (.Try body (h₀::hs) [] [] pos) (tTryV tb th):=by
 intro pins s σ H D I h
 refine wpAny_Try_except ?_
 have P1:PassesS (CXE X.prog X.w) (X.tryX (X.pn++pins) (fun e s'=>∃σ H' x cls,e= .ref x∧Air X pins σ H' x cls s'∧th cls x D σ H')) (fun σ' cls ox H'=>∃x,ox=some x∧th cls x D σ' H'):=by
  intro pl σ1 H1 s1 e s2 I1 hc
  obtain ⟨x,cls,a0,H2,B,rfl,os,bare,u,ok,fl,hB,hx,hn,⟨y,hy,q⟩⟩:=hc
  cases hy
  exact ⟨σ1,H2,x,cls,rfl,⟨H1,s1,a0,B,I1.tryOut I.ok,os,bare,u,ok,fl,hB,hx,hn⟩,q⟩
 refine wpAny_mono (hb ⟨_,_,_⟩ P1 [] s σ H D (I.tryIn _) (h _ _)) (fun f s1 q=>?_) fun e s1 q=>?_
 · have q':=q.tryOut I.ok
   cases f with
   | next=>exact wpAny_execs_nil q'
   | brk=>exact q'
   | cont=>exact q'
   | ret u=>exact q'
 · obtain ⟨σ1,H1,x,cls,rfl,Z,q⟩:=q
   have fr:X.A.frames=some (X.env::X.outer):=by rw [← hst];exact I.ok.frames
   obtain ⟨H0,s0,a0,B,I0,os,bare,u,ok,fl,hB,hx,hn⟩:=Z.ex
   have fl':=fl
   rw [hst]at fl'
   refine wpAny_looks_onW fr hfr fl' fun h2 held up2=>wpAny_landsW held fun h3 fl3 up3=>?_
   rw [← hst]at fl3
   obtain ⟨U,ok3,hB3⟩:=stay_of u ok I0.frm I0.stkFree hB fl3.1 (up2.trans up3)
   exact hh pins _ σ1 H1 x cls D ⟨H0,s0,a0,B,I0,os,bare,U,ok3,fl3,hB3,hx,hn⟩ q
end
section
variable {σ:St} {H:Hp} {D:Ends} {K:PySem.W.Frag}
theorem rd_tryV{tb:TryB→TS}{th:TH}:tTryV tb th D σ H=∀(pn:List (Addr×Obj)) (xe:Value→Shared→Prop),tb ⟨pn,xe,fun σ' cls ox H'=>∃x,ox=some x∧th cls x D σ' H'⟩ D σ H:=rfl
theorem rd_hclsV{c cls:Value}{x:Addr}{ts:Addr→TS}{tr:TH}:hClsV K c ts tr cls x D σ H=∃b,PySem.W.exmOne K cls c=some b∧if b=true then ts x D σ H else tr cls x D σ H:=rfl
theorem rd_hasV{c cls:Value}{i:Nat}{x:Addr}{ts:Addr→TS}{tr:TH}:hAsV K c i ts tr cls x D σ H=∃b,PySem.W.exmOne K cls c=some b∧if b=true then ts x (endsAs i D) (σ.set i (some (.ref x))) (upd H x (excO x cls)) else tr cls x D σ H:=rfl
theorem tryX_K{X:Cx}{pn:List (Addr×Obj)}{xe:Value→Shared→Prop}:(X.tryX pn xe).K=X.K:=rfl
theorem sui_K{X:Cx}{x:Addr}:(X.sui x).K=X.K:=rfl
end
end L2
namespace L2
structure DefM(P:Program)(w:World)(K:PySem.W.Frag)(mg:Str→Option Value)(base:Heap)(CX:CXT)(k:Nat)(C:Addr)(m:Str)(ps:List Str)(sp:Sp):Prop where
 ex:∃(f:Addr) (fd:FuncData),FnOk P w K mg base CX k f fd ps sp∧Meth K C m f∧Binds K fd ps []
structure DefI(P:Program)(w:World)(K:PySem.W.Frag)(mg:Str→Option Value)(base:Heap)(CX:CXT)(k:Nat)(x:Str)(C:Addr)(ps:List Str)(sp:Sp):Prop where
 ex:∃(f:Addr) (fd:FuncData),FnOk P w K mg base CX k f fd ps sp∧Mk K C f∧mg x=some (.ref C)∧Binds K fd ps []
noncomputable def tMethE(C:Addr)(m:Str)(sp:Sp)(EE:St→XK)(ta:TE)(t:TA):TE:=fun σ H Q=>ta σ H fun x H1=>∃a dx fs,x= .ref a∧H1 a=some (.ins C dx fs)∧fs.lookup m=none∧t σ H1 fun vs H2=>sp (x::vs) H2 Q (EE σ)
noncomputable def tMakeE(C:Addr)(sp:Sp)(EE:St→XK)(t:TA):TE:=fun σ H Q=>t σ H fun vs H1=>∀x dx,H1 x=none→H1 dx=none→dx≠x→sp (.ref x::vs) (upd (upd H1 dx (.own x)) x (.ins C dx [])) (fun v H2=>v= .non∧Q (.ref x) H2) (EE σ)
section
variable {X:Cx} {CX:CXT} {k j:Nat} {f C:Addr} {fd:FuncData} {ps:List Str} {sp:Sp} {EE:St→XK} {E:XK} {x m:Str} {p pos apos:Pos} {e o:Expr} {es:List Expr} {ta:TE} {t:TA}
theorem passS(h:Passes CX X E):PassesS CX X fun _=>E:=fun pins σ H s e s' I hc=>h pins σ H s e s' I hc
theorem run_fnS{pins:List (Addr×Obj)}{σ:St}{H:Hp}{s:Shared}{Q:VK}{us:List Value}{vs:List V}(F:FnOk X.prog X.w X.K X.mg X.base CX k f fd ps sp)(hr:Room k X.A)(hb:Binds X.K fd ps [])(hx:PassesS CX X EE)
 (I:Inv X pins σ H s) (r:Vals vs us) (h:sp vs H Q (EE σ)):wpAny (model X.prog X.w) X.A (call (.ref f) us) (EP X pins σ Q) X.xe s:=by
 have hl:us.length=ps.length:=by rw [← r.length];exact F.len _ _ _ _ h
 have hb':=hb s us I.kIn (by simpa using hl)
 rw [List.append_nil]at hb'
 refine wpAny_call (codeAny_mono (F.run X.A X.stack s H ⟨us,[]⟩ us vs Q (EE σ) hr I.env0 hb' r h) fun r s' hq=>?_)
 cases r with
 | error e=>exact hx pins σ H s e s' I hq
 | ok fl=>
  cases fl with
  | ret u=>exact I.after hq
  | next=>exact False.elim hq
  | brk=>exact False.elim hq
  | cont=>exact False.elim hq
theorem pe_methS{pl:Sem Bool}(D:DefM X.prog X.w X.K X.mg X.base CX j C m ps sp)(c:Cls X.K C)(hr:Room k X.A)(hx:PassesS CX X EE)(he:PE X o ta)(ha:PA X (e::es) t)(hj:j≤k:=by decide)
 (hst:starEach (e::es) X.env=(false,eval e X.env)::starEach es X.env:=by rfl) (hpl:(backTo pos (starEach es X.env)).any (·.1)=false:=by rfl)
 (ht:eval (.Call (.Attribute o m apos) (e::es) [] pos) X.env=(do
  let ov ← eval o X.env
  standAt apos.atName
  let (f,first) ← holding [ov] (getMethod ov m pl)
  callWith pos f first (backTo pos (starEach (e::es) X.env)) (backToKw pos (keywordEach [] X.env))):=by rfl):
 PE X (.Call (.Attribute o m apos) (e::es) [] pos) (tMethE C m sp EE ta t):=by
 obtain ⟨f,fd,F,hm,hb⟩:=D.ex
 intro pins s σ H Q I h
 refine PySem.W.methodCall_KW (pl:=pl) (thn (he pins s σ H _ I h) fun u s1 hq_=>?_) ht
 obtain ⟨x,H1,I1,rx,a,dx,fs,ex,ea,l,q⟩:=hq_
 subst ex
 obtain rfl:u=Value.ref a:=rx
 refine getmeth_ok I1 ea c hm l ?_
 refine PySem.W.callWith_K (first:=[.ref a]) (h₀:=X.base) I.ok.mod.kin hm.kp (thn (ha pos pins s1 σ H1 _ I1 q) fun us s2 ⟨vs,H2,I2,r,q2⟩=>⟨I2.kIn,?_⟩) hst hpl
 exact run_fnS (us:= .ref a::us) (vs:= .ref a::vs) (F.mono hj) hr hb hx I2 (.cons rfl r) q2
theorem pe_makeS(D:DefI X.prog X.w X.K X.mg X.base CX j x C ps sp)(hr:Room k X.A)(hg:Gl X x)(hx:PassesS CX X EE)(ha:PA X (e::es) t)(hj:j+1≤k:=by decide)(hdb:(x==("__debug__":Str))=false:=by decide)
 (he:starEach (e::es) X.env=(false,eval e X.env)::starEach es X.env:=by rfl) (hpl:(backTo pos (starEach es X.env)).any (·.1)=false:=by rfl):
 PE X (.Call (.Name x p) (e::es) [] pos) (tMakeE C sp EE t):=by
 obtain ⟨f,fd,F,M,hm,hb⟩:=D.ex
 intro pins s0 σ H0 Q I0 h
 refine wpAny_Call_Name_kw (ld_glob I0 hg hm ?_ hdb)
 refine PySem.W.callWith_K (h₀:=X.base) I0.ok.mod.kin M.kp (thn (ha pos pins s0 σ H0 _ I0 h) fun us s ⟨vs,H,I,r,q⟩=>⟨I.kIn,?_⟩) he hpl
 have hq:=q (s.heap.objs.size+1) s.heap.objs.size (I.hok.fresh (Nat.le_succ _)) (I.hok.fresh (Nat.le_refl _)) (Nat.ne_of_lt (Nat.lt_succ_self _))
 have I2:=Inv.made (C:=C) I
 have r2:Vals (V.ref (s.heap.objs.size+1)::vs) (Value.ref (s.heap.objs.size+1)::us):= .cons rfl r
 have hl:(Value.ref (s.heap.objs.size+1)::us).length=ps.length:=by
  rw [← r2.length];exact F.len _ _ _ _ hq
 have hb':=fun s' (h':X.K.In s'.heap)=>hb s' (Value.ref (s.heap.objs.size+1)::us) h' (by simpa using hl)
 have hr':Room (j+1) X.A:=hr.mono hj
 refine wpAny_call (make_map (f:=f) I.kIn M.makes M.init (beq_iff_eq.mp M.fn) (codeAny_mono (F.run _ X.stack _ _ ⟨Value.ref (s.heap.objs.size+1)::us,[]⟩ (Value.ref (s.heap.objs.size+1)::us) _ _ (EE σ) (hr'.make C us [])
  (I2.env0.make C us []) (by have:=hb' _ I2.kIn;rw [List.append_nil]at this;exact this) r2 hq) fun r s' hq'=>?_))
 cases r with
 | error e=>exact hx pins σ _ _ e s' I2 hq'
 | ok fl=>
  cases fl with
  | ret u=>
   obtain ⟨v,H',I3,rv,ev,q3⟩:=I2.after hq'
   subst ev
   exact ⟨rv,⟨V.ref (s.heap.objs.size+1),H',I3,rfl,q3⟩⟩
  | next=>exact False.elim hq'
  | brk=>exact False.elim hq'
  | cont=>exact False.elim hq'
end
section
variable {σ:St} {H:Hp} {Q:VK} {D:Ends} {K:PySem.W.Frag}
theorem rd_methE{C:Addr}{m:Str}{sp:Sp}{EE:St→XK}{ta:TE}{t:TA}:tMethE C m sp EE ta t σ H Q=ta σ H fun x H1=>∃a dx fs,x= .ref a∧H1 a=some (.ins C dx fs)∧fs.lookup m=none∧t σ H1 fun vs H2=>sp (x::vs) H2 Q (EE σ):=rfl
theorem rd_makeE{C:Addr}{sp:Sp}{EE:St→XK}{t:TA}:tMakeE C sp EE t σ H Q=t σ H fun vs H1=>∀x dx,H1 x=none→H1 dx=none→dx≠x→sp (.ref x::vs) (upd (upd H1 dx (.own x)) x (.ins C dx [])) (fun v H2=>v= .non∧Q (.ref x) H2) (EE σ):=rfl
theorem rd_fld{ta:TE}{f:Str}:tFld K ta f σ H Q=ta σ H fun x H1=>∃a C dx fs v,x= .ref a∧H1 a=some (.ins C dx fs)∧Cls K C∧NoAttr K C f∧fs.lookup f=some v∧Q v H1:=rfl
theorem rd_sfld{ta tv:TE}{f:Str}:sFld K ta tv f D σ H=tv σ H fun y H1=>ta σ H1 fun x H2=>∃a C dx fs,x= .ref a∧H2 a=some (.ins C dx fs)∧Cls K C∧NoAttr K C f∧fs.length < 1000∧D.nx σ (upd H2 a (.ins C dx (putF f y fs))):=rfl
theorem rd_din{ty td:TE}:tDIn ty td σ H Q=ty σ H fun y H1=>td σ H1 fun x H2=>∃a o,x= .ref a∧DGet H2 a y o∧Q (.bl o.isSome) H2:=rfl
theorem rd_dnotin{ty td:TE}:tDNotIn ty td σ H Q=ty σ H fun y H1=>td σ H1 fun x H2=>∃a o,x= .ref a∧DGet H2 a y o∧Q (.bl (!o.isSome)) H2:=rfl
theorem rd_dget{td ty:TE}:tDGet td ty σ H Q=td σ H fun x H1=>ty σ H1 fun y H2=>∃a v,x= .ref a∧DGet H2 a y (some v)∧Q v H2:=rfl
theorem rd_dput{td ty tv:TE}:sDPut td ty tv D σ H=tv σ H fun v H1=>td σ H1 fun x H2=>ty σ H2 fun y H3=>∃a H4,x= .ref a∧DPut H3 a y v H4∧D.nx σ H4:=rfl
theorem rd_gtup{n:Nat}{t:TGs}{v:V}{N:St→Hp→Prop}:gTup K n t v σ H N=∃a xs,v= .ref a∧SqT K H a xs∧xs.length=n∧t xs σ H N:=rfl
end
theorem le_app{a b:Str}{n:Nat}(h1:a.length≤n / 2)(h2:b.length≤n / 2):(a++b).length≤n:=by
 rw [len_app];omega
end L2
namespace L2
open Sem (wp)
section
variable {Pg:Program} {w:World} {A:Around} {E:Value→Shared→Prop} {h:Heap} {g:Array GenState} {d:Drawn} {t:Nat} {os:OsState}
variable {nm q:Str} {C N:Addr} {bs bm bmB:List Value} {hd:Bool} {sn:List Str} {su:List Value} {ab:Bool} {co:Option Bool} {dd:Option Addr} {k0 k1 k2 k3 k5:Option Value} {B nw ni:String}
noncomputable abbrev bareExc(h:Heap)(C:Addr):Obj:={cls:= .ref C,data:= .fields #[.ref h.objs.size,.none,.none,.none,.bool false,.none]}
noncomputable abbrev twoMore(h:Heap)(C:Addr)(rest:List Value):Heap:=(h.push {cls:= .type "tuple",data:= .seq rest.toArray}).push (bareExc h C)
theorem keep2{rest:List Value}:∀b o,h.get? b=some o→(twoMore h C rest).get? b=some o:=fun _ _ e=>Heap.get?_push_of_some _ (Heap.get?_push_of_some _ e)
end
end L2
namespace L2
theorem kV_of{P:Program}{w:World}{k:Key}{u:Value}(h:(mixKind P w).is k u=true):RelV (kV k) u:=by
 cases k with
 | inl i=>
  cases u <;> first | (exact absurd h (by intro z;cases z)) | skip
  rename_i j t
  have e:j=i:=by simpa [mixKind,keyIs,Value.isInt] using h
  exact ⟨t,by rw [e]⟩
 | inr x=>
  cases u <;> first | (exact absurd h (by intro z;cases z)) | skip
  rename_i j t
  have e:j=x:=by simpa [mixKind,keyIs,Value.isStrOf] using h
  exact ⟨t,by rw [e]⟩
theorem paired_get{α β:Type}{F:α→β→Prop}:∀{l:List α} {m:List β},Paired F l m→∀{i:Nat} {b:β},m[i]?=some b→∃a,l[i]?=some a∧F a b
 | _,_,.cons r t,0,b,e=>by cases e;exact ⟨_,rfl,r⟩
 | _,_,.cons r t,i+1,b,e=>paired_get t (i:=i) e
end L2
namespace N1
open PySem L2
noncomputable def letters:List Nat:=List.range' 97 26
noncomputable def figures:List Nat:=List.range' 48 10
theorem let_list:(Str.ofString "abcdefghijklmnopqrstuvwxyz").cps.toList=letters:=by decide+kernel
theorem fig_list:(Str.ofString "0123456789").cps.toList=figures:=by decide+kernel
theorem both_list:(Str.ofString "abcdefghijklmnopqrstuvwxyz0123456789").cps.toList=letters++figures:=by decide+kernel
theorem both_len:(letters++figures).length=36:=by decide
noncomputable def headIn(l:List Nat)(s:List Nat):Bool:=match l with
 | []=>false
 | c::_=>decide (c∈s)
noncomputable def nameB(l:List Nat):Bool:=decide (1≤l.length) && decide (l.length≤8) && headIn l letters && l.all fun c=>decide (c∈letters++figures)
end N1
namespace N1
open PySem L2
noncomputable def tx(l:List Nat):Str:=⟨l.toArray⟩
theorem T_list{l:List Nat}:(tx l).cps.toList=l:=by simp [tx]
theorem T_eq{z:Str}:tx z.cps.toList=z:=by cases z;simp [tx]
theorem T_inj{a b:List Nat}(h:tx a=tx b):a=b:=by rw [← T_list (l:=a),h,T_list]
theorem T_app{a b:List Nat}:tx a++tx b=tx (a++b):=by
 have h:=app_list (a:=tx a) (b:=tx b)
 rw [T_list,T_list]at h
 rw [← T_eq (z:=tx a++tx b),h]
theorem T_len{l:List Nat}:(tx l).length=l.length:=by rw [← str_len,T_list]
theorem T_one{c:Nat}:(⟨#[c]⟩:Str)=tx [c]:=rfl
theorem both_length:(Str.ofString "abcdefghijklmnopqrstuvwxyz0123456789").length=36:=by decide+kernel
noncomputable def bc(i:Int):Nat:=(letters++figures).getD i.toNat 0
theorem ix_bc(i:Int){k:Int}(h0:0 < k)(h1:k≤36):atI (Str.ofString "abcdefghijklmnopqrstuvwxyz0123456789").cps.toList (i % k)=some (bc (i % k)):=by
 have h2:=Int.emod_lt_of_pos i h0
 have h3:=Int.emod_nonneg i (show k≠0 by omega)
 refine atI_of h3 ?_
 have h4:(i % k).toNat < (letters++figures).length:=by rw [both_len];omega
 unfold bc
 rw [both_list,List.getD_eq_getElem?_getD,List.getElem?_eq_getElem h4]
 rfl
end N1
namespace N1
open L2
noncomputable def sp_cell(K:PySem.W.Frag):Sp:=fun vs H Q _=>∃(a:Addr) (ns:List Int) (k:Int),vs=[.ref a,.int k]∧SqL K H a (ns.map V.int)∧0≤k∧ns.length≤63∧Q (.int (ns.getD k.toNat 0)) H
noncomputable def sp_made:Sp:=fun vs H Q _=>∃(z w:Str),vs=[.str z,.str w]∧z.length≤sizeLine∧∀H',Same H H'→Q (.bl (z.cps.toList.all fun c=>decide (c∈w.cps.toList))) H'
noncomputable def sp_is_name(K:PySem.W.Frag):Sp:=fun vs H Q _=>∃(x:V),vs=[x]∧((∃z:Str,x= .str z∧z.length≤sizeLine∧∀H',Same H H'→Q (.bl (nameB z.cps.toList)) H')∨(Isi K H x "str" false∧Q (.bl false) H))
noncomputable def sp_law(K:PySem.W.Frag):Sp:=fun vs H Q _=>∃(a:Addr) (ns:List Int),vs=[.ref a]∧SqL K H a (ns.map V.int)∧ns.length≤63∧∀H',Q (.bl true) H'
end N1
namespace N1
open L2
inductive StE where
 | noname | twice | nonum | many
noncomputable def nOk:V→Bool
 | .str z=>nameB z.cps.toList
 | _=>false
noncomputable def sOf:V→Str
 | .str z=>z
 | _=>Str.empty
noncomputable def wIn(lo hi:Int):V→Bool
 | .int i=>decide (lo≤i) && decide (i≤hi)
 | _=>false
noncomputable abbrev Rw:=Addr×V×V×V
noncomputable def rowR(ks:List Str)(n c r:V):Option StE:=if nOk n=false then some .noname else if sOf n∈ks then some .twice else if wIn 0 (10 ^ 30) c=false then some .nonum else if wIn 1 1000 r=false then some .nonum else none
noncomputable def stockR(ks:List Str):List Rw→Option StE
 | []=>none
 | t::rs=>match rowR ks t.2.1 t.2.2.1 t.2.2.2 with
  | some e=>some e
  | none=>stockR (ks++[sOf t.2.1]) rs
noncomputable def initR(rs:List Rw):Option StE:=if 60 < rs.length then some .many else stockR [] rs
theorem num_isi{K:PySem.W.Frag}{H:Hp}{v:V}(h:flatV v=true):∃b c,Isi K H v "int" b∧(b=true→Isi K H v "bool" c)∧((b && !c)=true→∃i,v= .int i)∧((b && !c)=false→∀i,v≠ .int i):=by
 cases v with
 | non=>exact ⟨false,false,isi_ni,fun h=>by (cases h),fun h=>by (cases h),fun _ i h=>by cases h⟩
 | bl b=>exact ⟨true,true,isi_bi,fun _=>isi_bb,fun h=>by (cases h),fun _ i h=>by cases h⟩
 | int i=>exact ⟨true,false,isi_ii,fun _=>isi_ib,fun _=>⟨i,rfl⟩,fun h=>by cases h⟩
 | str z=>exact ⟨false,false,isi_si,fun h=>by (cases h),fun h=>by (cases h),fun _ i h=>by cases h⟩
 | _=>cases h
noncomputable def sp_is_whole(K:PySem.W.Frag):Sp:=fun vs H Q _=>∃(x:V) (b c:Bool),vs=[x]∧Isi K H x "int" b∧(b=true→Isi K H x "bool" c)∧Q (.bl (b && !c)) H
noncomputable def sp_within(K:PySem.W.Frag):Sp:=fun vs H Q _=>∃(v:V) (lo hi:Int),vs=[v,.int lo,.int hi]∧flatV v=true∧Q (.bl (wIn lo hi v)) H
noncomputable def SameBut(p:Addr)(H H':Hp):Prop:=∀b o,H b=some o→b≠p→H' b=some o
theorem sameBut_upd{p:Addr}{H:Hp}{o:HO}:SameBut p H (upd H p o):=fun b u e n=>by rw [upd_ne n];exact e
noncomputable abbrev Th:=Str×Int×Int
noncomputable def flds(d:Addr):List (Str×V):=putF "things" (.ref d) []
structure StockAt(K:PySem.W.Frag)(C:Addr)(H:Hp)(p:Addr)(ts:List Th):Prop where
 ex:∃(dx d:Addr) (kvs:List (Key×V)),H p=some (.ins C dx (flds d))∧H d=some (.dK kvs)∧kvs.map (·.1)=ts.map (fun t=>Sum.inr t.1)∧
  ∀(i:Nat) (t:Th),ts[i]?=some t→∃a,kvs[i]?=some (Sum.inr t.1,.ref a)∧SqT K H a [.int i,.int t.2.1,.int t.2.2]
theorem StockAt.same{K:PySem.W.Frag}{C:Addr}{H H':Hp}{p:Addr}{ts:List Th}(s:Same H H')(h:StockAt K C H p ts):StockAt K C H' p ts:=by
 obtain ⟨dx,d,kvs,h1,h2,h3,h4⟩:=h.ex
 refine ⟨dx,d,kvs,s _ _ h1,s _ _ h2,h3,fun i t e=>?_⟩
 obtain ⟨a,e1,e2⟩:=h4 i t e
 exact ⟨a,e1,s.tup e2⟩
noncomputable def iOf:V→Int
 | .int i=>i
 | _=>0
noncomputable def thOf(t:Rw):Th:=(sOf t.2.1,iOf t.2.2.1,iOf t.2.2.2)
theorem SqT.but{K:PySem.W.Frag}{H H':Hp}{p a C dx:Addr}{fs:List (Str×V)}{xs:List V}(s:SameBut p H H')(hp:H p=some (.ins C dx fs))(h:SqT K H a xs):SqT K H' a xs:=by
 rcases h with (h | ⟨o,h⟩) | h
 · exact .inl (.inl (s _ _ h (ne_of h hp (by intro z;cases z))))
 · exact .inl (.inr ⟨o,s _ _ h (ne_of h hp (by intro z;cases z))⟩)
 · exact .inr h
theorem SqL.but{K:PySem.W.Frag}{H H':Hp}{p a C dx:Addr}{fs:List (Str×V)}{xs:List V}(s:SameBut p H H')(hp:H p=some (.ins C dx fs))(h:SqL K H a xs):SqL K H' a xs:=by
 rcases h with (h | ⟨o,h⟩) | h
 · exact .inl (.inl (s _ _ h (ne_of h hp (by intro z;cases z))))
 · exact .inl (.inr ⟨o,s _ _ h (ne_of h hp (by intro z;cases z))⟩)
 · exact .inr h
theorem key_mem{kvs:List (Key×V)}{ks:List Str}{z:Str}(h:kvs.map (·.1)=ks.map Sum.inr):(valV kvs (Sum.inr z)).isSome=decide (z∈ks):=by
 have e:(Sum.inr z:Key)∈kvs.map (·.1)↔z∈ks:=by
  rw [h,List.mem_map]
  constructor
  · rintro ⟨a,ha,e⟩;injection e with e;subst e;exact ha
  · intro h;exact ⟨z,h,rfl⟩
 cases hv:valV kvs (Sum.inr z:Key) with
 | none=>rw [decide_eq_false fun q=>valV_not hv (e.mpr q)];rfl
 | some v=>rw [decide_eq_true (e.mp (valV_in hv))];rfl
theorem flds_things{d:Addr}:(flds d).lookup ("things":Str)=some (V.ref d):=by
 unfold flds
 rw [lookup_putF,if_pos rfl]
theorem rowR_none{ks:List Str}{n co r:V}(h:rowR ks n co r=none):∃z c q,n= .str z∧co= .int c∧r= .int q∧¬z∈ks∧nameB z.cps.toList=true∧0≤c∧c≤10 ^ 30∧1≤q∧q≤1000:=by
 unfold rowR at h
 split at h
 · cases h
 rename_i h1
 split at h
 · cases h
 rename_i h2
 split at h
 · cases h
 rename_i h3
 split at h
 · cases h
 rename_i h4
 cases n with
 | str z=>
  cases co with
  | int c=>
   cases r with
   | int q=>
    simp only [wIn,Bool.and_eq_false_iff,decide_eq_false_iff_not,not_or,Decidable.not_not]at h3 h4
    exact ⟨z,c,q,rfl,rfl,rfl,h2,by simpa [nOk] using h1,h3.1,h3.2,h4.1,h4.2⟩
   | _=>exact absurd rfl h4
  | _=>exact absurd rfl h3
 | _=>exact absurd rfl h1
theorem stockR_step{ks:List Str}{rs:List Rw}{i:Nat}{t:Rw}(h:rs[i]?=some t):stockR ks (rs.drop i)=match rowR ks t.2.1 t.2.2.1 t.2.2.2 with
 | some e=>some e
 | none=>stockR (ks++[sOf t.2.1]) (rs.drop (i+1)):=by
 have e:rs.drop i=t::rs.drop (i+1):=by
  obtain ⟨hi,rfl⟩:=List.getElem?_eq_some_iff.mp h
  exact List.drop_eq_getElem_cons hi
 rw [e]
 rfl
noncomputable def nmsOf(rs:List Rw):List Str:=rs.map fun t=>sOf t.2.1
structure MidAt(K:PySem.W.Frag)(H:Hp)(d:Addr)(rs:List Rw):Prop where
 ex:∃kvs:List (Key×V),H d=some (.dK kvs)∧kvs.map (·.1)=(nmsOf rs).map Sum.inr∧∀(j:Nat) (t:Rw),rs[j]?=some t→∃a,kvs[j]?=some (Sum.inr (sOf t.2.1),.ref a)∧SqT K H a [.int j,.int (iOf t.2.2.1),.int (iOf t.2.2.2)]
theorem MidAt.snoc{K:PySem.W.Frag}{H:Hp}{d a:Addr}{rs:List Rw}{t:Rw}{kvs:List (Key×V)}{c q:Int}{z:Str}(h1:H d=some (.dK kvs))(h2:kvs.map (·.1)=(nmsOf rs).map Sum.inr)
 (h3:∀(j:Nat) (t:Rw),rs[j]?=some t→∃a,kvs[j]?=some (Sum.inr (sOf t.2.1),.ref a)∧SqT K H a [.int j,.int (iOf t.2.2.1),.int (iOf t.2.2.2)])
 (e1:t.2.1= .str z) (e2:t.2.2.1= .int c) (e3:t.2.2.2= .int q) (nz:¬z∈nmsOf rs) (ha:H a=some (.tup [.int kvs.length,.int c,.int q])):
 MidAt K (upd H d (.dK (putK kvs (Sum.inr z) (.ref a)))) d (rs++[t]):=by
 have hl:kvs.length=rs.length:=by
  have:=congrArg List.length h2
  simpa [nmsOf] using this
 have hv:valV kvs (Sum.inr z:Key)=none:=by
  have:=key_mem (z:=z) h2
  rw [decide_eq_false nz]at this
  cases h:valV kvs (Sum.inr z:Key) with
  | none=>rfl
  | some v=>rw [h]at this;cases this
 have keep2:∀{b:Addr} {xs:List V} {o:List (Key×V)},SqT K H b xs→SqT K (upd H d (.dK o)) b xs:=fun {b xs o} h=>by
  rcases h with (h | ⟨o',h⟩) | h
  · exact .inl (.inl (by rw [upd_ne (ne_of h h1 (by intro z;cases z))];exact h))
  · exact .inl (.inr ⟨_,by rw [upd_ne (ne_of h h1 (by intro z;cases z))];exact h⟩)
  · exact .inr h
 refine ⟨_,upd_same,?_,fun j t' hj=>?_⟩
 · rw [putK_new _ hv,List.map_append,h2]
   simp [nmsOf,e1,sOf]
 · rw [putK_new _ hv]
   by_cases hlt:j < rs.length
   · rw [List.getElem?_append_left hlt]at hj
     obtain ⟨b,e,hb⟩:=h3 j t' hj
     exact ⟨b,by rw [List.getElem?_append_left (by omega)];exact e,keep2 hb⟩
   · rw [List.getElem?_append_right (by omega)]at hj
     have hj0:j - rs.length=0:=by
      have:=(List.getElem?_eq_some_iff.mp hj).1
      simp at this;omega
     rw [hj0]at hj
     cases hj
     have ej:j=rs.length:=by omega
     subst ej
     refine ⟨a,?_,?_⟩
     · rw [← hl,List.getElem?_append_right (by omega)];simp [e1,sOf]
     · rw [e2,e3]
       refine keep2 (SqT.of ?_)
       rw [ha,hl];rfl
end N1
namespace L2
theorem rd_setL{o i v:V}{H:Hp}{Q:Hp→Prop}:rSetL o i v H Q=∃p xs k j,o= .ref p∧i= .int k∧H p=some (.lst xs)∧ixN xs.length k=some j∧Q (upd H p (.lst (xs.set j v))):=rfl
end L2
namespace N5
open L2 N1
noncomputable def md(j:Nat):Int:=if j=0 then 26 else 36
noncomputable def sgn(F:Nat→Int)(at':Int)(k j:Nat):Nat:=bc ((F j+if (j:Int)=at' then (k:Int) else 0) % md j)
noncomputable def nmL(F:Nat→Int)(at':Int)(long k:Nat):List Nat:=(List.range long).map (sgn F at' k)
theorem bc_let{i:Int}:bc (i % 26)∈letters:=by
 have h1:=Int.emod_nonneg i (show (26:Int)≠0 by decide)
 have h2:=Int.emod_lt_of_pos i (show (0:Int) < 26 by decide)
 unfold bc
 generalize i % 26=x at *
 have h3:x.toNat < letters.length:=by simp [letters];omega
 rw [List.getD_eq_getElem?_getD,List.getElem?_append_left h3,List.getElem?_eq_getElem h3]
 exact List.getElem_mem h3
theorem bc_both{i:Int}:bc (i % 36)∈letters++figures:=by
 have h1:=Int.emod_nonneg i (show (36:Int)≠0 by decide)
 have h2:=Int.emod_lt_of_pos i (show (0:Int) < 36 by decide)
 unfold bc
 generalize i % 36=x at *
 have h3:x.toNat < (letters++figures).length:=by rw [both_len];omega
 rw [List.getD_eq_getElem?_getD,List.getElem?_eq_getElem h3]
 exact List.getElem_mem h3
theorem bc_inj{x y:Int}(hx0:0≤x)(hx:x < 36)(hy0:0≤y)(hy:y < 36)(h:bc x=bc y):x=y:=by
 have key:∀a:Fin 36,∀b:Fin 36,(letters++figures).getD a.val 0=(letters++figures).getD b.val 0→a=b:=by decide+kernel
 have:=key ⟨x.toNat,by omega⟩ ⟨y.toNat,by omega⟩ h
 have:=congrArg Fin.val this
 simp at this
 omega
theorem nmL_name{F:Nat→Int}{at':Int}{long k:Nat}(h1:1≤long)(h2:long≤8):nameB (nmL F at' long k)=true:=by
 obtain ⟨n,rfl⟩:∃n,long=n+1:=⟨long - 1,by omega⟩
 have hall:∀c∈nmL F at' (n+1) k,c∈letters++figures:=by
  intro c hc
  obtain ⟨j,_,rfl⟩:=List.mem_map.mp hc
  have hm:md j=26∨md j=36:=by unfold md;split <;> simp
  unfold sgn
  rcases hm with hm | hm <;> rw [hm]
  · exact List.mem_append_left _ bc_let
  · exact bc_both
 have hl:(nmL F at' (n+1) k).length=n+1:=by simp [nmL]
 have hh:headIn (nmL F at' (n+1) k) letters=true:=by
  unfold nmL
  rw [List.range_succ_eq_map,List.map_cons]
  show decide (sgn F at' k 0∈letters)=true
  rw [decide_eq_true_eq]
  unfold sgn md
  rw [if_pos rfl]
  exact bc_let
 unfold nameB
 rw [hl,hh,decide_eq_true h1,decide_eq_true h2]
 simp only [Bool.true_and]
 exact List.all_eq_true.mpr fun c hc=>decide_eq_true (hall c hc)
theorem nmL_inj{F:Nat→Int}{at':Int}{long k k':Nat}(h0:0≤at')(h1:at' < long)(hk:k < 26)(hk':k' < 26)(h:nmL F at' long k=nmL F at' long k'):k=k':=by
 have hl:at'.toNat < long:=by omega
 have e:=congrArg (fun l=>l[at'.toNat]?) h
 simp only [nmL,List.getElem?_map,List.getElem?_range hl,Option.map_some,Option.some.injEq]at e
 unfold sgn at e
 rw [if_pos (by omega),if_pos (by omega)]at e
 have hm:md at'.toNat=26∨md at'.toNat=36:=by unfold md;split <;> simp
 rcases hm with hm | hm <;> rw [hm]at e
 · have:=bc_inj (by omega) (by omega) (by omega) (by omega) e
   omega
 · have:=bc_inj (by omega) (by omega) (by omega) (by omega) e
   omega
noncomputable def nms(F:Nat→Int)(at':Int)(long m:Nat):List Str:=(List.range m).map fun k=>tx (nmL F at' long k)
theorem nms_nodup{F:Nat→Int}{at':Int}{long m:Nat}(h0:0≤at')(h1:at' < long)(hm:m≤26):(nms F at' long m).Nodup:=by
 unfold nms List.Nodup
 rw [List.pairwise_map]
 refine List.Pairwise.imp_of_mem (R:=fun a b=>a≠b) ?_ List.nodup_range
 intro a b ha hb ne e
 have ha:=List.mem_range.mp ha
 have hb:=List.mem_range.mp hb
 exact ne (nmL_inj h0 h1 (by omega) (by omega) (T_inj e))
theorem ne1:Str.ofString "no name"≠Str.ofString "nothing":=by decide+kernel
theorem same_made{H H':Hp}{x dx C:Addr}(hx:H x=none)(hd:H dx=none)(s:SameBut x (upd (upd H dx (.own x)) x (.ins C dx [])) H'):Same H H':=fun b o e=>by
 have n1:=ne_of_none e hx
 have n2:=ne_of_none e hd
 exact s b o (by rw [upd_ne n1,upd_ne n2];exact e) n1
theorem name_len{z:Str}(h:nameB z.cps.toList=true):z.length≤8:=by
 unfold nameB at h
 simp only [Bool.and_eq_true,decide_eq_true_eq]at h
 have:=h.1.1.2
 rw [str_len]at this;exact this
end N5
namespace L2
open N1 N5
section
variable {K:PySem.W.Frag} {tail:St} {te:Blk→TE} {Q:VK} {H1:Hp}
theorem compL_ix{a:Addr}{xs:List V}(f:Nat→V)(hS:SqL K H1 a xs)(hz:xs.length≤sizeLine)(he:∀b i x H Q',xs[i]?=some x→Same H1 H→Q' (f i) H→te b (some x::tail) H Q')
 (q:∀D,H1 D=none→Q (.ref D) (upd H1 D (.lst ((List.range xs.length).map f)))):CompTail (none::tail) (fun _=>gName 0) (fun _=>tYes) te Q (Itl K a) H1:=by
 refine comp_by xs.length (fun b D hD=>⟨fun i ys H=>i≤xs.length∧ys=(List.range i).map f∧H=upd H1 D (.lst ys),⟨Nat.zero_le _,rfl,rfl⟩,?_,?_,?_⟩)
 · rintro i ys H ⟨hi,rfl,rfl⟩
   exact upd_same
 · rintro ys H ⟨_,rfl,rfl⟩
   exact ⟨⟨xs,(same_new hD).seq hS,Nat.le_refl _⟩,q D hD⟩
 · rintro i ys H hi ⟨_,rfl,rfl⟩
   refine ⟨⟨xs,xs[i],(same_new hD).seq hS,by simp [hi]⟩,fun x H3 ⟨e3,ex⟩=>?_⟩
   subst e3
   refine he b i x _ _ (ex xs ((same_new hD).seq hS)) (same_new hD) (compNext upd_same (by rw [List.length_map,List.length_range];omega) hi ⟨hi,?_,?_⟩)
   · rw [List.range_succ];simp
   · funext a;by_cases ha:a=D <;> simp [upd,ha]
noncomputable def OffLists(P:V→Hp→Prop):Prop:=∀y H H' l zs,P y H→H l=some (.lst zs)→SameBut l H H'→P y H'
theorem compR_mk{lo:Int}{n:Nat}(P:Nat→V→Hp→Prop)(hP:∀i,OffLists (P i))(hz:n≤sizeLine)(he:∀b (i:Nat) H Q',i < n→Same H1 H→(∀y H',Same H H'→P i y H'→Q' y H')→te b (some (.int (lo+i))::tail) H Q')
 (q:∀D ys H',H1 D=none→Same H1 H'→H' D=some (.lst ys)→ys.length=n→(∀i y,ys[i]?=some y→P i y H')→Q (.ref D) H'):CompTail (none::tail) (fun _=>gName 0) (fun _=>tYes) te Q (Itr lo n) H1:=by
 refine comp_by n (fun b D hD=>⟨fun i ys H=>i≤n∧ys.length=i∧H D=some (.lst ys)∧Same H1 H∧∀j y,ys[j]?=some y→P j y H,⟨Nat.zero_le _,rfl,upd_same,same_new hD,fun j y e=>by simp at e⟩,?_,?_,?_⟩)
 · rintro i ys H ⟨hi,_,h,_⟩
   exact h
 · rintro ys H ⟨_,hl,h,sm,hall⟩
   exact ⟨Nat.le_refl _,q D ys H hD sm h hl hall⟩
 · rintro i ys H hi ⟨_,hl,h,sm,hall⟩
   refine ⟨hi,fun x H3 ⟨e3,ex⟩=>?_⟩
   subst e3 ex
   refine he b i _ _ hi sm fun y H4 sm4 py=>?_
   have h4:=sm4 _ _ h
   have sb:SameBut D H4 (upd H4 D (.lst (ys++[y]))):=sameBut_upd
   refine compNext h4 (by omega) hi ⟨hi,by rw [List.length_append,hl];rfl,upd_same,fun c o e=>?_,fun j y' e=>?_⟩
   · rw [upd_ne (ne_of_none e hD)];exact sm4 _ _ (sm _ _ e)
   · by_cases hj:j < ys.length
     · rw [List.getElem?_append_left hj]at e
       have:=hall j y' e
       exact hP j _ _ _ _ _ this h fun c o e n=>by rw [upd_ne n];exact sm4 _ _ e
     · rw [List.getElem?_append_right (by omega)]at e
       have hj0:j=i:=by have:=(List.getElem?_eq_some_iff.mp e).1;simp at this;omega
       subst hj0
       rw [show j - ys.length=0 by omega]at e
       cases e
       exact hP j _ _ _ _ _ py h4 sb
end
end L2
namespace N4
open L2 N1 N5
noncomputable def sp_checkG(K:PySem.W.Frag):Sp:=fun vs H Q _=>∃(n co r:V) (e:Addr) (kvs:List (Key×V)) (ks:List Str),vs=[n,co,r,.ref e]∧H e=some (.dK kvs)∧kvs.map (·.1)=ks.map Sum.inr∧rowR ks n co r=none∧∀H',Same H H'→Q .non H'
noncomputable def sp_initG(K:PySem.W.Frag)(C:Addr):Sp:=fun vs H Q _=>∃(p dx ra:Addr) (rs:List Rw),vs=[.ref p,.ref ra]∧H p=some (.ins C dx [])∧SqL K H ra (rs.map fun t=>V.ref t.1)∧(∀t∈rs,SqT K H t.1 [t.2.1,t.2.2.1,t.2.2.2])∧initR rs=none∧
 ∀H',SameBut p H H'→StockAt K C H' p (rs.map thOf)→Q .non H'
theorem initR_none{rs:List Rw}(h:initR rs=none):rs.length≤60∧stockR [] rs=none:=by
 unfold initR at h
 split at h
 · cases h
 · exact ⟨by omega,h⟩
theorem wIn_ok{lo hi c:Int}(h1:lo≤c)(h2:c≤hi):wIn lo hi (.int c)=true:=by
 show (decide (lo≤c) && decide (c≤hi))=true
 rw [decide_eq_true h1,decide_eq_true h2];rfl
theorem stockR_ok:∀(rs:List Rw) (ks:List Str),(∀t∈rs,∃z c q,t.2.1= .str z∧t.2.2.1= .int c∧t.2.2.2= .int q∧nameB z.cps.toList=true∧0≤c∧c≤10 ^ 30∧1≤q∧q≤1000)→(ks++rs.map fun t=>sOf t.2.1).Nodup→stockR ks rs=none
 | [],_,_,_=>rfl
 | t::rs,ks,h,nd=>by
  obtain ⟨z,c,q,e1,e2,e3,hn,h1,h2,h3,h4⟩:=h t (List.mem_cons_self ..)
  have hz:¬z∈ks:=fun hz=>by
   rw [List.map_cons,List.nodup_append]at nd
   exact nd.2.2 z hz (sOf t.2.1) (List.mem_cons_self ..) (by rw [e1];rfl)
  have r0:rowR ks t.2.1 t.2.2.1 t.2.2.2=none:=by
   unfold rowR
   rw [e1,e2,e3]
   rw [if_neg (by show ¬nameB z.cps.toList=false;rw [hn];decide),if_neg (show ¬sOf (.str z)∈ks from hz),if_neg (by rw [wIn_ok h1 h2];decide),if_neg (by rw [wIn_ok h3 h4];decide)]
  unfold stockR
  rw [r0]
  refine stockR_ok rs _ (fun t' ht=>h t' (List.mem_cons_of_mem _ ht)) ?_
  rw [List.append_assoc]
  exact nd
theorem valV_nth{kvs:List (Key×V)}{i:Nat}{k:Key}{v:V}(nd:(kvs.map (·.1)).Nodup)(e:kvs[i]?=some (k,v)):valV kvs k=some v:=by
 induction kvs generalizing i with
 | nil=>rw [List.getElem?_nil]at e;cases e
 | cons p r ih=>
  cases i with
  | zero=>cases e;exact valV_pos rfl
  | succ i=>
   rw [List.map_cons,List.nodup_cons]at nd
   have hm:(k,v)∈r:=List.mem_of_getElem? e
   rw [valV_neg (fun z=>nd.1 (by rw [z];exact List.mem_map_of_mem (f:=(·.1)) hm))]
   exact ih nd.2 e
theorem inr_nodup{ks:List Str}(h:ks.Nodup):(ks.map (Sum.inr:Str→Key)).Nodup:=by
 unfold List.Nodup at *
 rw [List.pairwise_map]
 exact h.imp fun n e=>n (by injection e)
section
variable {K:PySem.W.Frag} {C:Addr} {H H':Hp} {p:Addr} {ts:List Th} {z:Str}
theorem StockAt.has(h:StockAt K C H p ts):∃dx d kvs,H p=some (.ins C dx (flds d))∧H d=some (.dK kvs)∧(kvs.map fun q=>kV q.1)=ts.map (fun t=>V.str t.1)∧(∀z,(valV kvs (Sum.inr z)).isSome=decide (z∈ts.map (·.1)))∧
 ((ts.map (·.1)).Nodup→∀(i:Nat) (t:Th),ts[i]?=some t→∃a,valV kvs (Sum.inr t.1)=some (.ref a)∧SqT K H a [.int i,.int t.2.1,.int t.2.2]):=by
 obtain ⟨dx,d,kvs,h1,h2,h3,h4⟩:=h.ex
 have h3':kvs.map (·.1)=(ts.map (·.1)).map Sum.inr:=by rw [h3,List.map_map];rfl
 refine ⟨dx,d,kvs,h1,h2,?_,fun z=>key_mem h3',fun nd i t e=>?_⟩
 · have:=congrArg (List.map kV) h3
   rw [List.map_map,List.map_map]at this
   exact this
 · obtain ⟨a,e1,e2⟩:=h4 i t e
   exact ⟨a,valV_nth (by rw [h3'];exact inr_nodup nd) e1,e2⟩
end
noncomputable def sp_has(K:PySem.W.Frag)(C:Addr):Sp:=fun vs H Q _=>∃(p:Addr) (ts:List Th) (z:Str),vs=[.ref p,.str z]∧StockAt K C H p ts∧Q (.bl (decide (z∈ts.map (·.1)))) H
theorem mem_nth{ts:List Th}{z:Str}(h:z∈ts.map (·.1)):∃(i:Nat) (t:Th),ts[i]?=some t∧t.1=z:=by
 obtain ⟨t,ht,e⟩:=List.mem_map.mp h
 obtain ⟨i,hi⟩:=List.mem_iff_getElem?.mp ht
 exact ⟨i,t,hi,e⟩
end N4
namespace N4
open L2 N1 N5
theorem md_two{j:Nat}:md j=26∨md j=36:=by unfold md;split <;> simp
theorem bc_mod{x y:Int}{j:Nat}(h:bc (x % md j)=bc (y % md j)):x % md j=y % md j:=by
 rcases md_two (j:=j) with hm | hm <;> rw [hm]at h ⊢
 · exact bc_inj (by omega) (by omega) (by omega) (by omega) h
 · exact bc_inj (by omega) (by omega) (by omega) (by omega) h
structure RowsAt(K:PySem.W.Frag)(H:Hp)(r:Addr)(as:List Addr)(ts:List Th):Prop where
 l:SqL K H r (as.map V.ref)
 n:as.length=ts.length
 m:ts.length≤60
 at_:∀(i:Nat) (a:Addr) (t:Th),as[i]?=some a→ts[i]?=some t→SqT K H a [.str t.1,.int t.2.1,.int t.2.2]
 ok:∀t∈ts,nameB t.1.cps.toList=true∧0≤t.2.1∧t.2.1≤10 ^ 30∧1≤t.2.2∧t.2.2≤1000
 nd:(ts.map (·.1)).Nodup
noncomputable def rwOf(a:Addr)(t:Th):Rw:=(a,.str t.1,.int t.2.1,.int t.2.2)
theorem RowsAt.init{K:PySem.W.Frag}{H:Hp}{r:Addr}{as:List Addr}{ts:List Th}(h:RowsAt K H r as ts):∃rs:List Rw,rs.map (fun t=>V.ref t.1)=as.map V.ref∧(∀t∈rs,SqT K H t.1 [t.2.1,t.2.2.1,t.2.2.2])∧initR rs=none∧rs.map thOf=ts:=by
 have hn:=h.n
 have gt:∀(i:Nat) (x:Addr×Th),(as.zip ts)[i]?=some x→as[i]?=some x.1∧ts[i]?=some x.2:=fun i x e=>by
  rw [List.getElem?_zip_eq_some]at e;exact e
 have e1:((as.zip ts).map fun x=>rwOf x.1 x.2).map thOf=ts:=by
  rw [List.map_map]
  have:(thOf∘fun x:Addr×Th=>rwOf x.1 x.2)=Prod.snd:=by funext x;rfl
  rw [this,List.map_snd_zip (by omega)]
 refine ⟨(as.zip ts).map fun x=>rwOf x.1 x.2,?_,?_,?_,e1⟩
 · rw [List.map_map]
   have:((fun t:Rw=>V.ref t.1)∘fun x:Addr×Th=>rwOf x.1 x.2)=V.ref∘Prod.fst:=by funext x;rfl
   rw [this,← List.map_map,List.map_fst_zip (by omega)]
 · intro t ht
   obtain ⟨x,hx,rfl⟩:=List.mem_map.mp ht
   obtain ⟨i,hi⟩:=List.mem_iff_getElem?.mp hx
   obtain ⟨h1,h2⟩:=gt i x hi
   exact h.at_ i x.1 x.2 h1 h2
 · unfold initR
   rw [if_neg (by rw [List.length_map,List.length_zip];have:=h.m;omega)]
   refine stockR_ok _ _ (fun t ht=>?_) ?_
   · obtain ⟨x,hx,rfl⟩:=List.mem_map.mp ht
     obtain ⟨i,hi⟩:=List.mem_iff_getElem?.mp hx
     obtain ⟨h1,h2⟩:=gt i x hi
     obtain ⟨o1,o2,o3,o4,o5⟩:=h.ok x.2 (List.mem_of_getElem? h2)
     exact ⟨x.2.1,x.2.2.1,x.2.2.2,rfl,rfl,rfl,o1,o2,o3,o4,o5⟩
   · rw [List.nil_append,List.map_map]
     have:((fun t:Rw=>sOf t.2.1)∘fun x:Addr×Th=>rwOf x.1 x.2)=(fun t:Th=>t.1)∘Prod.snd:=by funext x;rfl
     rw [this,← List.map_map,List.map_snd_zip (by omega)]
     exact h.nd
end N4
namespace L2
open PySem.W
noncomputable def rSumL(K:PySem.W.Frag):List V→Hp→VK→Prop:=fun xs H Q=>∃(p:Addr) (is:List Int),xs=[.ref p]∧SqL K H p (is.map V.int)∧Q (.int is.sum) H
noncomputable def rGetL(K:PySem.W.Frag):V→V→Hp→VK→Prop:=fun o i H Q=>∃(p:Addr) (xs:List V) (k:Nat) (v:V),o= .ref p∧i= .int k∧SqL K H p xs∧xs[k]?=some v∧Q v H
noncomputable def rIsiR(K:PySem.W.Frag):List V→Hp→VK→Prop:=fun xs H Q=>∃(p:Addr) (cls:Value) (D:Addr),xs=[.ref p,.ref D]∧H p=some (excO p cls)∧PySem.W.kitOne K cls (.ref D)=some true∧Q (.bl true) H
theorem preSum_is(is:List Int):preSum (fun i=>is.getD i 0) is.length=is.sum:=by
 have key:∀n,n≤is.length→preSum (fun i=>is.getD i 0) n=(is.take n).sum:=by
  intro n
  induction n with
  | zero=>intro _;rfl
  | succ n ih=>
   intro h
   have e:is.take (n+1)=is.take n++[is.getD n 0]:=by
    rw [List.take_add_one,List.getD_eq_getElem?_getD,List.getElem?_eq_getElem (by omega)]
    rfl
   rw [preSum,ih (by omega),e,List.sum_append]
   simp
 have:=key is.length (Nat.le_refl _)
 rwa [List.take_length]at this
section
variable {X:Cx}
theorem call_sumL(hc:X.calm=true):CallR X (.builtin "sum") (rSumL X.K):=by
 intro pins s σ H xs us Q I r h
 obtain ⟨p,is,rfl,hp,q⟩:=h
 obtain ⟨u,rfl,ru⟩:=vals1 r
 cases ru
 obtain ⟨its,r,pl,hz⟩:=I.list hp
 have hlt:p < s.heap.objs.size:=by obtain ⟨o,n,e,_⟩:=pl;exact Heap.lt_size e
 have hlen:=r.length
 rw [List.length_map]at hlen
 refine call_sum_walkAnyS (wpAny_pyIter_list pl.isList ⟨s.heap.objs.size,_,_,_,_,_,_,fun i=>is.getD i 0,rfl,(Walks.list (show X.A.in1.handled=none from I.ok.hd hc) s.heap.objs.size p (Nat.ne_of_lt hlt) its.toArray).toS,⟨⟨_,Heap.get?_push_size _ rfl,rfl,rfl⟩,pl.isList.push _⟩,fun b hb=>?_,fun i v hP=>?_,fun s' t' hmv=>?_⟩)
 · show b < (s.heap.push _).objs.size
   rw [Heap.size_push]
   rcases List.mem_cons.mp hb with e | hb
   · rw [e];exact Nat.lt_succ_self _
   · rw [List.mem_singleton.mp hb];exact Nat.lt_succ_of_lt hlt
 · have hP:its.toArray[i]?=some v:=hP
   have hi:i < is.length:=by
    have:=(Array.getElem?_eq_some_iff.mp hP).1
    rw [List.size_toArray]at this
    omega
   obtain ⟨u,hu,ru⟩:=r.get (i:=i) (x:=V.int (is[i])) (by simp [hi])
   have e:u=v:=by
    have:its[i]?=some v:=by simpa using hP
    rw [hu]at this;exact Option.some.inj this
   subst e
   show ∃t,u=Value.int (is.getD i 0) t
   rw [List.getD_eq_getElem?_getD,List.getElem?_eq_getElem hi]
   exact ru
 · have hk:∀b o,s.heap.get? b=some o→s'.heap.get? b=some o:=fun b o e=>
    hmv.heap b o (fun hI=>absurd (Heap.lt_size e) (by rw [List.mem_singleton.mp hI];exact Nat.lt_irrefl _)) (Heap.get?_push_of_some _ e)
   rw [Moved.eq_with hmv]
   refine ⟨.int is.sum,H,I.kept (t':=s'.toks) hk,⟨t',?_⟩,q⟩
   rw [List.size_toArray,← hlen,preSum_is]
theorem get_list:PGet X (rGetL X.K):=by
 intro pins s σ H o i ov iv Q I ro ri h
 obtain ⟨p,xs,k,v,rfl,rfl,hq,he,q⟩:=h
 cases ro
 obtain ⟨t,rfl⟩:=ri
 obtain ⟨its,r,pl,hz⟩:=I.list hq
 obtain ⟨w,ew,rw'⟩:=r.get he
 have hl:=r.length
 have hn:=line63
 have hk:=(List.getElem?_eq_some_iff.mp he).1
 exact wpAny_getItem_list pl.isList (by omega) (by omega) (by simpa using ew) ⟨v,H,I,rw',q⟩
theorem call_isiR:CallR X (.builtin "isinstance") (rIsiR X.K):=by
 intro pins s σ H xs us Q I r h
 obtain ⟨p,cls,D,rfl,hp,e,q⟩:=h
 obtain ⟨u,c,rfl,r1,r2⟩:=vals2 r
 cases r1
 cases r2
 obtain ⟨⟨ob,vs,h1,h2,h3⟩,_⟩:=I.hok p _ hp
 refine call_isinstance (S:=fun _ R s=>(X.K.In s.heap∧∃ob,s.heap.get? p=some ob∧ob.cls=cls)∧∀tk,R (.ok (.ret (.bool true))) {s with toks:=tk})
  (fun prog w A R s hs=>isinstance_outer (ans_yes (G:=fun h=>∃ob,h.get? p=some ob∧ob.cls=cls) (fun M h _ gp=>match gp with | ⟨ob,e1,e2⟩=>e2▸(Looks.ld e1).andThen .now) e 0 _ prog w A R s hs) (by intro z;cases z)) ⟨⟨I.kIn,ob,h1,h2⟩,fun tk=>⟨.bl true,H,I.tok _,rfl,q⟩⟩
end
section
variable {σ:St} {H:Hp} {Q:VK} {D:Ends} {K:PySem.W.Frag} {xs:List V} {x y:V}
theorem rd_sumL:rSumL K xs H Q=∃(p:Addr) (is:List Int),xs=[.ref p]∧SqL K H p (is.map V.int)∧Q (.int is.sum) H:=rfl
theorem rd_getL:rGetL K x y H Q=∃(p:Addr) (xs:List V) (k:Nat) (v:V),x= .ref p∧y= .int k∧SqL K H p xs∧xs[k]?=some v∧Q v H:=rfl
theorem rd_isiR:rIsiR K xs H Q=∃(p:Addr) (cls:Value) (D:Addr),xs=[.ref p,.ref D]∧H p=some (excO p cls)∧PySem.W.kitOne K cls (.ref D)=some true∧Q (.bl true) H:=rfl
theorem rd_augS{to ti te:TE}{tget:V→V→Hp→VK→Prop}{tip:TIp}{tset:TSet}:tAugS to ti te tget tip tset D σ H=to σ H fun o H1=>ti σ H1 fun i H2=>tget o i H2 fun x H3=>te σ H3 fun y H4=>tip x y H4 fun z H5=>tset o i z H5 fun H6=>D.nx σ H6:=rfl
theorem rd_ipI{f:Int→Int→Int}:ipI f x y H Q=∃i j,x= .int i∧y= .int j∧Q (.int (f i j)) H:=rfl
end
section
open PySem.W
variable {K:Frag} {C D:Addr} {cd:ClassData}
theorem kit_own{b:Bool}(self:subIn K (.ref C) (.ref C)=some true)(cl:clsIn K D=some cd)(ty:typeIn K (.ref D)=some (.type "type"))(s:subIn K (.ref C) (.ref D)=some b):kitOne K (.ref C) (.ref D)=some b:=by
 by_cases e:C=D
 · subst e
   rw [self]at s
   cases s
   unfold kitOne
   rw [if_pos (by simp)]
 · unfold kitOne kitCls
   rw [if_neg (by simp [e])]
   dsimp only
   rw [cl,ty]
   exact s
end
end L2
namespace N31
open L2 N1 N5
noncomputable def fldN(l:Addr):List (Str×V):=putF "numbers" (.ref l) []
theorem fldN_is{l:Addr}:(fldN l).lookup ("numbers":Str)=some (V.ref l):=by
 unfold fldN
 rw [lookup_putF,if_pos rfl]
structure SumsAt(C:Addr)(H:Hp)(p l:Addr)(is:List Int):Prop where
 o:∃dx,H p=some (.ins C dx (fldN l))
 l:H l=some (.lst (is.map V.int))
theorem SumsAt.same{C:Addr}{H H':Hp}{p l:Addr}{is:List Int}(s:Same H H')(h:SumsAt C H p l is):SumsAt C H' p l is:=
 ⟨h.o.imp fun dx e=>s _ _ e,s _ _ h.l⟩
theorem SumsAt.off{C:Addr}{H:Hp}{p l b:Addr}{is:List Int}{xs ys:List V}(h:SumsAt C H p l is)(hb:H b=some (.lst xs))(n:l≠b):SumsAt C (upd H b (.lst ys)) p l is:=by
 obtain ⟨⟨dx,e⟩,hl⟩:=h
 refine ⟨⟨dx,?_⟩,?_⟩
 · rw [upd_ne (ne_of e hb (by intro z;cases z))];exact e
 · rw [upd_ne n];exact hl
theorem SumsAt.put{C:Addr}{H:Hp}{p l:Addr}{is js:List Int}(h:SumsAt C H p l is):SumsAt C (upd H l (.lst (js.map V.int))) p l js:=by
 obtain ⟨⟨dx,e⟩,hl⟩:=h
 refine ⟨⟨dx,?_⟩,upd_same⟩
 rw [upd_ne (ne_of e hl (by intro z;cases z))];exact e
noncomputable def Off(K:PySem.W.Frag)(a:Addr)(xs:List V)(b:Addr):Prop:=∀(H2:Hp) (o:HO),SqL K H2 a xs→SqL K (upd H2 b o) a xs
theorem off_of{K:PySem.W.Frag}{H:Hp}{a b:Addr}{xs:List V}(h:SqL K H a xs)(hb:H b=none):Off K a xs b:=by
 intro H2 o h2
 have key:a≠b→SqL K (upd H2 b o) a xs:=fun n=>by
  rcases h2 with (h2 | ⟨o2,h2⟩) | h2
  · exact .inl (.inl (by rw [upd_ne n];exact h2))
  · exact .inl (.inr ⟨o2,by rw [upd_ne n];exact h2⟩)
  · exact .inr h2
 rcases h with (h | ⟨o',h⟩) | h
 · exact key (ne_of_none h hb)
 · exact key (ne_of_none h hb)
 · exact .inr h
theorem made_none{C:Addr}{H:Hp}{p d l:Addr}(hp:H p=none)(hd:H d=none)(h:upd (upd H d (.own p)) p (.ins C d []) l=none):H l=none:=by
 cases e:H l with
 | none=>rfl
 | some o=>rw [upd_ne (ne_of_none e hp),upd_ne (ne_of_none e hd),e]at h;cases h
theorem cut_ints(is:List Int)(m:Nat)(h:m≤is.length):cutV (is.map V.int) none (some (m:Int))=(is.take m).map V.int:=by
 unfold cutV
 rw [← List.map_drop,← List.map_take,List.length_map]
 congr 1
 unfold HT.sIx
 simp only [Option.getD_none,Option.getD_some]
 first
  | (rw [if_neg (show ¬((m:Int) < 0) by omega)];simp;omega)
  | (rw [if_neg (show ¬((m:Int) < 0) by omega)];simp [Nat.min_eq_left h])
theorem ixN_nat{n k:Nat}(h:k < n):ixN n (k:Int)=some k:=by
 unfold ixN
 rw [if_pos (by omega),if_pos (by omega)]
 simp
theorem map_set(is:List Int)(k:Nat)(v:Int):(is.map V.int).set k (V.int v)=(is.set k v).map V.int:=by
 rw [List.map_set]
end N31
namespace L2
theorem Inv.turned2{X:Cx}{pins:List (Addr×Obj)}{σ:St}{H:Hp}{s:Shared}{h':Heap}{t':Nat}{fp:List Addr}(I:Inv X pins σ H s)(k:∀b o,b∉fp→s.heap.get? b=some o→h'.get? b=some o)(hf:∀it∈fp,FpOk X pins H it):
 Inv X pins σ H {s with heap:=h',toks:=t'}:=by
 have nit:∀b u,H b=some u→b∉fp:=fun b u e z=>by rw [(hf b z).1]at e;cases e
 refine I.step (g':=s.gens) (d':=s.drawn) (ch:=fp) (fun b hb=>?_) (fun b o _ _ hc e _=>k b o hc e) (fun b o _ _ hc e _=>⟨o.slots,k b o hc e⟩) (fun _ _ _ _ n=>n)
  (fun b o hc e=>⟨o,k b o hc e⟩) (fun _ _ e=>e) (fun _ _ _ e=>e) (fun b ps e=>⟨#[],by rw [e];simp⟩) (fun m hm=>?_) (fun b u e=>?_) I.bare
 · obtain ⟨_,h1,_,h2,h3,h4⟩:=hf b hb
   exact ⟨h2,h1,h3,h4⟩
 · obtain ⟨o,es,ep,ho,r⟩:=hm
   exact ⟨o,es,ep,k _ o (fun z=>(hf _ z).2.1 rfl) ho,r⟩
 · refine (I.hok b u e).stay (fun c v hc q=>k c v ?_ q) (fun _ q=>q) fun _ _ q=>q
   rcases hc with z | z
   · rw [z];exact nit b u e
   · exact nit c _ z
noncomputable def Ite(K:PySem.W.Frag)(a:Addr):It:=
 ⟨fun i H=>∃xs x,SqL K H a xs∧xs[i]?=some x,fun i H y H'=>∃t x,y= .ref t∧H t=none∧H'=upd H t (.tup [.int i,x])∧∀xs,SqL K H a xs→xs[i]?=some x,fun i H=>∃xs,SqL K H a xs∧xs.length≤i⟩
noncomputable def tnE(e it a:Addr)(i:Nat)(h:Heap):Prop:=(∃old,IsEnum h e it i old)∧h.IsListIter it a i
theorem turn_enum{P:Program}{w:World}{K:PySem.W.Frag}{es:List Expr}{k:Nat}{pos:Pos}(a e it:Addr)(ne:e≠it):Turn P w K (.Tuple es k pos) (Ite K a) [e,it] e (tnE e it a) where
 mem:=by simp
 obj:=fun i h st b hb=>by
  obtain ⟨⟨old,h1⟩,o,h2,c,d⟩:=st
  have hb:b=e∨b=it:=by simpa using hb
  rcases hb with rfl | rfl
  · exact ⟨_,h1,fun v z=>by cases z⟩
  · exact ⟨o,h2,fun v z=>by rw [d]at z;cases z⟩
 keep:=fun i h h' st kk=>by
  obtain ⟨⟨old,h1⟩,h2⟩:=st
  exact ⟨⟨old,kk e (by simp) _ h1⟩,h2.at fun o q=>kk it (by simp) o q⟩
 item:=by
  intro X hP hw hK hc i pins s σ H E I hf st hg
  subst hP hw hK
  obtain ⟨xs,x,hq,hx⟩:=hg
  obtain ⟨its,rv,p,hz⟩:=I.list hq
  obtain ⟨u,hu,ru⟩:=rv.get hx
  obtain ⟨⟨old,h1⟩,h2⟩:=st
  have hlt:e < s.heap.objs.size:=Heap.lt_size h1
  have hit:it < s.heap.objs.size:=by obtain ⟨o,q,_⟩:=id h2;exact Heap.lt_size q
  refine wpAny_pyNext_enum_item h1 h2 p.isList (x:=u) (by simpa using hu) ne fun h' eo it' ht hs hk=>?_
  refine ⟨_,rfl,wpAny_letOwnedTupleGo_enum (s:={s with heap:=h',toks:=s.toks+1}) eo fun h3 e3 sb=>?_⟩
  have hf0:H s.heap.objs.size=none:=I.hok.fresh (Nat.le_refl _)
  have nt:∀b∈[e,it],b≠s.heap.objs.size:=fun b hb=>by
   have hb:b=e∨b=it:=by simpa using hb
   rcases hb with rfl | rfl
   · exact Nat.ne_of_lt hlt
   · exact Nat.ne_of_lt hit
  have I0:Inv X pins σ (upd H s.heap.objs.size (.tup [.int i,x])) {s with heap:=s.heap.push {cls:= .type "tuple",data:= .seq #[.int i s.toks,u]},toks:=s.toks+1}:=
   I.laid (fun b u e=>Heap.get?_push_of_some _ e) (Nat.le_refl _) ⟨by simp [sizeLine];try decide,[.int i s.toks,u],.cons ⟨_,rfl⟩ (.cons ru .nil),⟨_,Heap.get?_push_size _ rfl,rfl,_,rfl⟩⟩
  have hfp:∀b∈[e,it],FpOk X pins (upd H s.heap.objs.size (.tup [.int i,x])) b:=fun b hb=>by
   obtain ⟨f0,f1,f2,f3,f4,f5⟩:=hf b hb
   exact ⟨by rw [upd_ne (nt b hb)];exact f0,f1,f2,f3,f4,f5⟩
  have I1:Inv X pins σ (upd H s.heap.objs.size (.tup [.int i,x])) {s with heap:=h3,toks:=s.toks+1}:=by
   refine Inv.turned2 (s:={s with heap:=s.heap.push {cls:= .type "tuple",data:= .seq #[.int i s.toks,u]},toks:=s.toks+1}) (t':=s.toks+1) I0 (fun b o hb q=>?_) hfp
   have hb':b≠e∧b≠it:=by simpa using hb
   refine (sb.2 b hb'.1).trans ?_
   rcases Heap.get?_push_cases q with ⟨rfl,rfl⟩ | q2
   · exact ht
   · exact hk b o hb'.1 hb'.2 q2
  refine ⟨.ref s.heap.objs.size,upd H s.heap.objs.size (.tup [.int i,x]),I1,rfl,⟨_,x,rfl,hf0,rfl,fun ys hy=>by rw [I.list_inj hy hq];exact hx⟩,⟨⟨u,?_⟩,?_⟩,fun b hb=>(hfp b hb).1⟩
  · show IsEnum h3 e it ((i+1:Nat):Int) u
    rw [show ((i+1:Nat):Int)=(i:Int)+1 from rfl]
    exact e3
  · exact it'.at fun o q=>(sb.2 it (Ne.symm ne)).trans q
 done:=by
   intro X hP hw hK hc i pins s σ H E I hf st hg
   subst hP hw hK
   obtain ⟨xs,hq,hx⟩:=hg
   obtain ⟨its,rv,p,hz⟩:=I.list hq
   obtain ⟨⟨old,h1⟩,h2⟩:=st
   have hl:=rv.length
   exact wpAny_pyNext_enum_end (I.ok.hd hc) h1 h2 p.isList (by simp;omega) fun h' eb=>⟨rfl,Inv.turned2 (t':=s.toks) I (fun b o hb q=>eb b o (fun z=>hb (by simp [z])) q) hf⟩
 self:=fun _ _ _ _ _ st h=>wpAny_pyIter_enum st.1.choose_spec h
section
variable {X:Cx}
noncomputable def iEnum(K:PySem.W.Frag)(ta:TA):TI:=fun σ H R=>ta σ H fun vs H1=>∃a,vs=[.ref a]∧(∃xs,SqL K H1 a xs)∧R (Ite K a) H1
theorem pi_enum{l:Expr}{ta:TA}{p pos pp:Pos}{es:List Expr}{k:Nat}(hg:Gl X "enumerate")(hm:X.mg "enumerate"=none)(ha:PA X [l] ta)(hs:starEach [l] X.env=[(false,eval l X.env)]:=by rfl):PI X (.Tuple es k pp) (.Call (.Name "enumerate" p) [l] [] pos) (iEnum X.K ta):=by
 intro pins s σ H R I h
 refine Call_ (ld_blt I hg hm boot_enumerate (PyProof.Rows.callWith_type1 (thn (ha pos pins s σ H _ I h) fun us s1 hq_=>?_) hs rfl))
 obtain ⟨vs,H1,I1,r1,q1⟩:=hq_
 obtain ⟨a,e,⟨xs,hq⟩,q⟩:=q1
 subst e
 cases r1 with
 | cons r rr=>
  cases rr
  cases r
  obtain ⟨its,rv,p',hz⟩:=I1.list hq
  refine call_enumerate_list p'.isList fun h' h1 h2 h3 h4=>?_
  refine wpAny_pyIter_enum h1 ?_
  refine ⟨_,[s1.heap.objs.size+1,s1.heap.objs.size],_,_,H1,rfl,I1.kept (t':=s1.toks) h4,turn_enum a _ _ (Nat.succ_ne_self _),⟨⟨_,h1⟩,h2⟩,fun b hb=>?_,q⟩
  have hb:b=s1.heap.objs.size+1∨b=s1.heap.objs.size:=by simpa using hb
  rcases hb with rfl | rfl
  · exact I1.fpOk (Nat.le_succ _) (I1.hok.fresh (Nat.le_succ _))
  · exact I1.fpOk (Nat.le_refl _) (I1.hok.fresh (Nat.le_refl _))
end
section
variable {K:PySem.W.Frag} {σ:St} {H:Hp} {D:Ends}
theorem rd_ienum{ta:TA}{R:It→Hp→Prop}:iEnum K ta σ H R=ta σ H fun vs H1=>∃a,vs=[.ref a]∧(∃xs,SqL K H1 a xs)∧R (Ite K a) H1:=rfl
theorem forE_by{a:Addr}{xs:List V}{g:TG}{tb:TS}(Pv:Nat→St→Hp→Prop)(h0:Pv 0 σ H)(hl:∀i σ H,i≤xs.length→Pv i σ H→SqL K H a xs)
 (hs:∀i x σ H t,xs[i]?=some x→Pv i σ H→H t=none→g (.ref t) σ (upd H t (.tup [.int i,x])) fun σ2 H2=>tb {D with nx:=Pv (i+1),ct:=Pv (i+1),bk:=D.nx} σ2 H2) (hd:∀σ H,Pv xs.length σ H→D.nx σ H):ForTail g tb D σ (Ite K a) H:=by
 refine ⟨fun i m σ H=>i≤xs.length∧m=xs.length - i∧Pv i σ H,⟨_,Nat.zero_le _,rfl,h0⟩,fun i m σ H ⟨hi,hm,hP⟩=>?_⟩
 have hq:=hl i σ H hi hP
 cases hx:xs[i]? with
 | none=>
  have hn:xs.length≤i:=by simpa using hx
  have e:i=xs.length:=Nat.le_antisymm hi hn
  subst e
  exact .inl ⟨⟨xs,hq,Nat.le_refl _⟩,hd σ H hP⟩
 | some x=>
  have hlt:i < xs.length:=(List.getElem?_eq_some_iff.mp hx).1
  refine .inr ⟨⟨xs,x,hq,hx⟩,Pv (i+1),fun σ' H' h=>⟨xs.length - (i+1),by omega,by omega,rfl,h⟩,?_⟩
  rintro y H' ⟨t,x',rfl,ht,rfl,hy⟩
  have e:=(hy xs hq).symm.trans hx
  cases e
  exact hs i x σ H t hx hP ht
end
end L2
namespace L2
noncomputable def Itz(K:PySem.W.Frag)(a b:Addr):It:=
 ⟨fun i H=>∃xs ys x y,SqL K H a xs∧SqL K H b ys∧xs[i]?=some x∧ys[i]?=some y,fun i H v H'=>∃t x y,v= .ref t∧H t=none∧H'=upd H t (.tup [x,y])∧(∀xs,SqL K H a xs→xs[i]?=some x)∧∀ys,SqL K H b ys→ys[i]?=some y,
  fun i H=>∃xs ys,SqL K H a xs∧SqL K H b ys∧(xs.length≤i∨ys.length≤i)⟩
noncomputable def tnZ(z TI TO i1 i2 a b:Addr)(i:Nat)(h:Heap):Prop:=IsZip h z TI TO .none∧IsPair h TI (.ref i1) (.ref i2)∧(∃x y,IsPair h TO x y)∧h.IsListIter i1 a i∧h.IsListIter i2 b i
theorem turn_zip{P:Program}{w:World}{K:PySem.W.Frag}{es:List Expr}{k:Nat}{pos:Pos}(a b z TI TO i1 i2:Addr)(D:ZipApart z TI TO i1 i2 a b):Turn P w K (.Tuple es k pos) (Itz K a b) [z,TI,TO,i1,i2] z (tnZ z TI TO i1 i2 a b) where
 mem:=by simp
 obj:=fun i h st c hc=>by
  obtain ⟨h1,h2,⟨x,y,h3⟩,⟨o4,e4,c4,d4⟩,⟨o5,e5,c5,d5⟩⟩:=st
  have hc:c=z∨c=TI∨c=TO∨c=i1∨c=i2:=by simpa using hc
  rcases hc with rfl | rfl | rfl | rfl | rfl
  · exact ⟨_,h1,fun v z=>by cases z⟩
  · exact ⟨_,h2,fun v z=>by cases z⟩
  · exact ⟨_,h3,fun v z=>by cases z⟩
  · exact ⟨o4,e4,fun v z=>by rw [d4]at z;cases z⟩
  · exact ⟨o5,e5,fun v z=>by rw [d5]at z;cases z⟩
 keep:=fun i h h' st kk=>by
  obtain ⟨h1,h2,⟨x,y,h3⟩,h4,h5⟩:=st
  exact ⟨kk z (by simp) _ h1,kk TI (by simp) _ h2,⟨x,y,kk TO (by simp) _ h3⟩,h4.at fun o q=>kk i1 (by simp) o q,h5.at fun o q=>kk i2 (by simp) o q⟩
 item:=by
  intro X hP hw hK hc i pins s σ H E I hf st hg
  subst hP hw hK
  obtain ⟨xs,ys,x,y,hq,hq2,hx,hy⟩:=hg
  obtain ⟨its,rv,p,hz⟩:=I.list hq
  obtain ⟨jts,rv2,p2,hz2⟩:=I.list hq2
  obtain ⟨u,hu,ru⟩:=rv.get hx
  obtain ⟨v,hv,rw'⟩:=rv2.get hy
  obtain ⟨h1,h2,⟨x0,y0,h3⟩,h4,h5⟩:=st
  have lts:∀c∈[z,TI,TO,i1,i2],c < s.heap.objs.size:=fun c hc'=>by
   have hc':c=z∨c=TI∨c=TO∨c=i1∨c=i2:=by simpa using hc'
   rcases hc' with rfl | rfl | rfl | rfl | rfl
   · exact Heap.lt_size h1
   · exact Heap.lt_size h2
   · exact Heap.lt_size h3
   · obtain ⟨o,q,_⟩:=id h4;exact Heap.lt_size q
   · obtain ⟨o,q,_⟩:=id h5;exact Heap.lt_size q
  refine wpAny_pyNext_zip_item D h1 h2 h3 h4 h5 p.isList p2.isList (x:=u) (y:=v) (by simpa using hu) (by simpa using hv) fun h' e1 e3 e4 e5 ht hs hk=>?_
  refine ⟨_,rfl,wpAny_letOwnedTupleGo_zip (s:={s with heap:=h'}) e1 fun h6 e6 sb=>?_⟩
  have hf0:H s.heap.objs.size=none:=I.hok.fresh (Nat.le_refl _)
  have nt:∀c∈[z,TI,TO,i1,i2],c≠s.heap.objs.size:=fun c hc'=>Nat.ne_of_lt (lts c hc')
  have I0:Inv X pins σ (upd H s.heap.objs.size (.tup [x,y])) {s with heap:=s.heap.push {cls:= .type "tuple",data:= .seq #[u,v]}}:=
   I.laid (t':=s.toks) (fun b u e=>Heap.get?_push_of_some _ e) (Nat.le_refl _) ⟨by simp [sizeLine];try decide,[u,v],.cons ru (.cons rw' .nil),⟨_,Heap.get?_push_size _ rfl,rfl,_,rfl⟩⟩
  have hfp:∀c∈[z,TI,TO,i1,i2],FpOk X pins (upd H s.heap.objs.size (.tup [x,y])) c:=fun c hc'=>by
   obtain ⟨f0,f1,f2,f3,f4,f5⟩:=hf c hc'
   exact ⟨by rw [upd_ne (nt c hc')];exact f0,f1,f2,f3,f4,f5⟩
  have I1:Inv X pins σ (upd H s.heap.objs.size (.tup [x,y])) {s with heap:=h6}:=by
   refine Inv.turned2 (s:={s with heap:=s.heap.push {cls:= .type "tuple",data:= .seq #[u,v]}}) (t':=s.toks) I0 (fun c o hc' q=>?_) hfp
   have hb':c≠z∧c≠TI∧c≠TO∧c≠i1∧c≠i2:=by simpa using hc'
   refine (sb.2 c hb'.1).trans ?_
   rcases Heap.get?_push_cases q with ⟨rfl,rfl⟩ | q2
   · exact ht
   · exact hk c o hb'.1 hb'.2.2.1 hb'.2.2.2.1 hb'.2.2.2.2 q2
  refine ⟨.ref s.heap.objs.size,upd H s.heap.objs.size (.tup [x,y]),I1,rfl,⟨_,x,y,rfl,hf0,rfl,fun zs hy'=>by rw [I.list_inj hy' hq];exact hx,fun zs hy'=>by rw [I.list_inj hy' hq2];exact hy⟩,?_,fun c hc'=>(hfp c hc').1⟩
  have k6:∀c o,c≠z→h'.get? c=some o→h6.get? c=some o:=fun c o n q=>(sb.2 c n).trans q
  exact ⟨e6,k6 TI _ D.TIz (hk TI _ D.TIz D.TITO D.TIi1 D.TIi2 h2),⟨_,_,k6 TO _ D.TOz e3⟩,e4.at fun o q=>k6 i1 o D.i1z q,e5.at fun o q=>k6 i2 o D.i2z q⟩
 done:=by
   intro X hP hw hK hc i pins s σ H E I hf st hg
   subst hP hw hK
   obtain ⟨xs,ys,hq,hq2,hx⟩:=hg
   obtain ⟨its,rv,p,hz⟩:=I.list hq
   obtain ⟨jts,rv2,p2,hz2⟩:=I.list hq2
   obtain ⟨h1,h2,⟨x0,y0,h3⟩,h4,h5⟩:=st
   have hl:=rv.length
   have hl2:=rv2.length
   exact wpAny_pyNext_zip_end (I.ok.hd hc) D h1 h2 h3 h4 h5 p.isList p2.isList (hx.imp (fun h=>by simp;omega) fun h=>by simp;omega) fun h' eb=>⟨rfl,Inv.turned2 (t':=s.toks) I (fun c o hb q=>by
    have hb':c≠z∧c≠TI∧c≠TO∧c≠i1∧c≠i2:=by simpa using hb
    exact eb c o hb'.1 hb'.2.2.1 hb'.2.2.2.1 hb'.2.2.2.2 q) hf⟩
 self:=fun _ _ _ _ _ st h=>wpAny_pyIter_zip st.1 h
section
variable {X:Cx}
noncomputable def iZip(K:PySem.W.Frag)(ta:TA):TI:=fun σ H R=>ta σ H fun vs H1=>∃a b,vs=[.ref a,.ref b]∧(∃xs,SqL K H1 a xs)∧(∃ys,SqL K H1 b ys)∧R (Itz K a b) H1
theorem pi_zip{l r:Expr}{ta:TA}{p pos pp:Pos}{es:List Expr}{k:Nat}(hg:Gl X "zip")(hm:X.mg "zip"=none)(ha:PA X [l,r] ta)(hs:starEach [l,r] X.env=[(false,eval l X.env),(false,eval r X.env)]:=by rfl)(hs2:starEach [r] X.env=[(false,eval r X.env)]:=by rfl):
 PI X (.Tuple es k pp) (.Call (.Name "zip" p) [l,r] [] pos) (iZip X.K ta):=by
 intro pins s σ H R I h
 refine Call_ (ld_blt I hg hm boot_zip (PyProof.Rows.callWith_type1 (thn (ha pos pins s σ H _ I h) fun us s1 ⟨vs,H1,I1,r1,q1⟩=>?_) (by rw [hs,hs2]) (by rw [hs2];rfl)))
 obtain ⟨a,b,e,⟨xs,hq⟩,⟨ys,hq2⟩,q⟩:=q1
 subst e
 cases r1 with
 | cons r rr=>
  cases rr with
  | cons r' rr=>
   cases rr
   cases r
   cases r'
   obtain ⟨its,rv,p',hz⟩:=I1.list hq
   obtain ⟨jts,rv2,p2,hz2⟩:=I1.list hq2
   have la:a < s1.heap.objs.size:=by obtain ⟨o,e,_⟩:=p'.isList;exact Heap.lt_size e
   have lb:b < s1.heap.objs.size:=by obtain ⟨o,e,_⟩:=p2.isList;exact Heap.lt_size e
   refine call_zip_2 p'.isList p2.isList fun h' h1 h2 h3 h4 h5 h6 h7=>?_
   refine wpAny_pyIter_zip h1 ?_
   refine ⟨_,[s1.heap.objs.size+4,s1.heap.objs.size+2,s1.heap.objs.size+3,s1.heap.objs.size,s1.heap.objs.size+1],_,_,H1,rfl,I1.kept (t':=s1.toks) h7,turn_zip a b _ _ _ _ _ (PySem.W.ktu_apart _ _ _ la lb),⟨h1,h2,⟨_,_,h3⟩,h4,h5⟩,fun c hc=>?_,q⟩
   have hc:s1.heap.objs.size≤c:=by
    have hc:c=s1.heap.objs.size+4∨c=s1.heap.objs.size+2∨c=s1.heap.objs.size+3∨c=s1.heap.objs.size∨c=s1.heap.objs.size+1:=by simpa using hc
    rcases hc with rfl | rfl | rfl | rfl | rfl
    · exact Nat.le_add_right _ _
    · exact Nat.le_add_right _ _
    · exact Nat.le_add_right _ _
    · exact Nat.le_refl _
    · exact Nat.le_add_right _ _
   exact I1.fpOk hc (I1.hok.fresh hc)
end
section
variable {K:PySem.W.Frag} {σ:St} {H:Hp} {D:Ends}
theorem rd_izip{ta:TA}{R:It→Hp→Prop}:iZip K ta σ H R=ta σ H fun vs H1=>∃a b,vs=[.ref a,.ref b]∧(∃xs,SqL K H1 a xs)∧(∃ys,SqL K H1 b ys)∧R (Itz K a b) H1:=rfl
theorem forZ_by{a b:Addr}{xs ys:List V}{g:TG}{tb:TS}(hlen:xs.length=ys.length)(Pv:Nat→St→Hp→Prop)(h0:Pv 0 σ H)(hl:∀i σ H,i≤xs.length→Pv i σ H→SqL K H a xs∧SqL K H b ys)
 (hs:∀i x y σ H t,xs[i]?=some x→ys[i]?=some y→Pv i σ H→H t=none→g (.ref t) σ (upd H t (.tup [x,y])) fun σ2 H2=>tb {D with nx:=Pv (i+1),ct:=Pv (i+1),bk:=D.nx} σ2 H2) (hd:∀σ H,Pv xs.length σ H→D.nx σ H):ForTail g tb D σ (Itz K a b) H:=by
 refine ⟨fun i m σ H=>i≤xs.length∧m=xs.length - i∧Pv i σ H,⟨_,Nat.zero_le _,rfl,h0⟩,fun i m σ H ⟨hi,hm,hP⟩=>?_⟩
 obtain ⟨hq,hq2⟩:=hl i σ H hi hP
 by_cases hlt:i < xs.length
 · have hx:xs[i]?=some xs[i]:=List.getElem?_eq_getElem hlt
   have hy:ys[i]?=some (ys[i]'(by omega)):=List.getElem?_eq_getElem (by omega)
   refine .inr ⟨⟨xs,ys,_,_,hq,hq2,hx,hy⟩,Pv (i+1),fun σ' H' h=>⟨xs.length - (i+1),by omega,by omega,rfl,h⟩,?_⟩
   rintro v H' ⟨t,x',y',rfl,ht,rfl,h1,h2⟩
   have e:=(h1 xs hq).symm.trans hx
   have e2:=(h2 ys hq2).symm.trans hy
   cases e
   cases e2
   exact hs i _ _ σ H t hx hy hP ht
 · have e:i=xs.length:=by omega
   subst e
   exact .inl ⟨⟨xs,ys,hq,hq2,.inl (Nat.le_refl _)⟩,hd σ H hP⟩
end
end L2
namespace N32
open L2 N1 N5 N31
noncomputable def lastIx(ys:List Str)(z:Str):Nat→Option Nat
 | 0=>none
 | n+1=>if ys.getD n Str.empty=z then some n else lastIx ys z n
theorem last_lt{ys:List Str}{z:Str}:∀{n j:Nat},lastIx ys z n=some j→j < n∧ys.getD j Str.empty=z
 | 0,j,h=>by cases h
 | n+1,j,h=>by
  unfold lastIx at h
  split at h
  · rename_i e
    cases h
    exact ⟨Nat.lt_succ_self _,e⟩
  · have:=last_lt h
    exact ⟨by omega,this.2⟩
theorem last_none{ys:List Str}{z:Str}:∀{n:Nat},(∀j,j < n→ys.getD j Str.empty≠z)→lastIx ys z n=none
 | 0,_=>rfl
 | n+1,h=>by
  unfold lastIx
  rw [if_neg (h n (Nat.lt_succ_self _))]
  exact last_none fun j hj=>h j (by omega)
theorem last_some{ys:List Str}{z:Str}{b:Nat}(hb:ys.getD b Str.empty=z):∀{n:Nat},b < n→(∀j,b < j→j < n→ys.getD j Str.empty≠z)→lastIx ys z n=some b
 | 0,h,_=>by omega
 | n+1,h,q=>by
  unfold lastIx
  by_cases e:b=n
  · subst e;rw [if_pos hb]
  · rw [if_neg (q n (by omega) (Nat.lt_succ_self _))]
    exact last_some hb (by omega) fun j h1 h2=>q j h1 (by omega)
theorem last_not{ys:List Str}{z:Str}{b n j:Nat}(h:lastIx ys z n=some b)(h1:b < j)(h2:j < n):ys.getD j Str.empty≠z:=by
 induction n with
 | zero=>cases h
 | succ n ih=>
  unfold lastIx at h
  split at h
  · rename_i e
    cases h
    omega
  · rename_i e
    by_cases ej:j=n
    · subst ej;exact e
    · exact ih h (by omega)
noncomputable def ear(ys:List Str)(i:Nat):Option Nat:=lastIx ys (ys.getD i Str.empty) i
noncomputable def W(R:Str→Int)(ys:List Str)(n j:Nat):Int:=if lastIx ys (ys.getD j Str.empty) n=some j then R (ys.getD j Str.empty) else 0
noncomputable def nums(R:Str→Int)(ys:List Str)(n:Nat):List Int:=(List.range ys.length).map (W R ys n)
theorem nums_len{R:Str→Int}{ys:List Str}{n:Nat}:(nums R ys n).length=ys.length:=by simp [nums]
theorem nums_get{R:Str→Int}{ys:List Str}{n j:Nat}(h:j < ys.length):(nums R ys n).getD j 0=W R ys n j:=by
 unfold nums
 rw [List.getD_eq_getElem?_getD,List.getElem?_map,List.getElem?_range h];rfl
theorem list_ext{xs ys:List Int}(hl:xs.length=ys.length)(h:∀j,j < xs.length→xs.getD j 0=ys.getD j 0):xs=ys:=by
 refine List.ext_getElem hl fun j h1 h2=>?_
 have:=h j h1
 rw [List.getD_eq_getElem?_getD,List.getElem?_eq_getElem h1,List.getD_eq_getElem?_getD,List.getElem?_eq_getElem h2]at this
 exact this
theorem getD_set{xs:List Int}{i j:Nat}{v:Int}(hi:i < xs.length):(xs.set i v).getD j 0=if j=i then v else xs.getD j 0:=by
 rw [List.getD_eq_getElem?_getD,List.getElem?_set]
 by_cases h:i=j
 · subst h;simp [hi]
 · rw [if_neg h,if_neg (Ne.symm h),List.getD_eq_getElem?_getD]
theorem W_self{R:Str→Int}{ys:List Str}{n:Nat}:W R ys n n=0:=by
 unfold W
 rw [if_neg]
 intro h
 exact absurd (last_lt h).1 (Nat.lt_irrefl _)
theorem W_other{R:Str→Int}{ys:List Str}{n j:Nat}(h:ys.getD j Str.empty≠ys.getD n Str.empty):W R ys (n+1) j=W R ys n j:=by
 unfold W
 rw [show lastIx ys (ys.getD j Str.empty) (n+1)=lastIx ys (ys.getD j Str.empty) n from if_neg (Ne.symm h)]
theorem W_new{R:Str→Int}{ys:List Str}{n:Nat}:W R ys (n+1) n=R (ys.getD n Str.empty):=by
 unfold W
 rw [if_pos]
 exact if_pos rfl
theorem W_old{R:Str→Int}{ys:List Str}{n j:Nat}(h:ys.getD j Str.empty=ys.getD n Str.empty)(hj:j≠n):W R ys (n+1) j=0:=by
 unfold W
 rw [h,if_neg]
 intro e
 rw [show lastIx ys (ys.getD n Str.empty) (n+1)=some n from if_pos rfl]at e
 cases e
 exact hj rfl
theorem nums_first{R:Str→Int}{ys:List Str}{n:Nat}(hn:n < ys.length)(h:ear ys n=none):(nums R ys n).set n ((nums R ys n).getD n 0+R (ys.getD n Str.empty))=nums R ys (n+1):=by
 refine list_ext (by rw [List.length_set,nums_len,nums_len]) fun j hj=>?_
 rw [List.length_set,nums_len]at hj
 rw [getD_set (by rw [nums_len];exact hn),nums_get hn,nums_get hj,nums_get hj,W_self]
 by_cases e:j=n
 · subst e;rw [if_pos rfl,W_new];omega
 · rw [if_neg e]
   by_cases ey:ys.getD j Str.empty=ys.getD n Str.empty
   · rw [W_old ey e]
     unfold W
     rw [if_neg]
     intro z
     rw [ey]at z
     unfold ear at h
     rw [h]at z;cases z
   · rw [W_other ey]
theorem nums_again{R:Str→Int}{ys:List Str}{n b:Nat}(hn:n < ys.length)(h:ear ys n=some b):
 ((nums R ys n).set b ((nums R ys n).getD b 0+(0 - R (ys.getD n Str.empty)))).set n (((nums R ys n).set b ((nums R ys n).getD b 0+(0 - R (ys.getD n Str.empty)))).getD n 0+R (ys.getD n Str.empty))=nums R ys (n+1):=by
 obtain ⟨h1,h2⟩:=last_lt h
 have hb:b < ys.length:=by omega
 refine list_ext (by rw [List.length_set,List.length_set,nums_len,nums_len]) fun j hj=>?_
 rw [List.length_set,List.length_set,nums_len]at hj
 rw [getD_set (by rw [List.length_set,nums_len];exact hn),getD_set (by rw [nums_len];exact hb),getD_set (by rw [nums_len];exact hb),nums_get hn,nums_get hj,nums_get hj,nums_get hb,W_self,if_neg (show ¬n=b by omega)]
 by_cases e:j=n
 · subst e;rw [if_pos rfl,W_new];omega
 · rw [if_neg e]
   by_cases ey:ys.getD j Str.empty=ys.getD n Str.empty
   · rw [W_old ey e]
     by_cases eb:j=b
     · subst eb
       rw [if_pos rfl]
       unfold W
       unfold ear at h
       rw [h2,if_pos h];omega
     · rw [if_neg eb]
       unfold W
       rw [if_neg]
       intro z
       rw [ey]at z
       unfold ear at h
       rw [h]at z
       cases z
       exact eb rfl
   · rw [W_other ey,if_neg (fun z=>ey (by rw [z];exact h2))]
noncomputable def tl(f:Nat→Int)(b n:Nat):Int:=((List.range' b (n - b)).map f).sum
theorem tl_end{f:Nat→Int}{n:Nat}:tl f n n=0:=by unfold tl;rw [Nat.sub_self];rfl
theorem tl_step{f:Nat→Int}{b n:Nat}(h:b < n):tl f b n=f b+tl f (b+1) n:=by
 unfold tl
 rw [show n - b=(n - (b+1))+1 by omega,List.range'_succ,List.map_cons,List.sum_cons]
theorem sum_diff{f:Nat→Int}{n:Nat}:∀{b:Nat},b≤n→((List.range n).map f).sum - ((List.range b).map f).sum=tl f b n:=by
 intro b hb
 induction n with
 | zero=>
  have e:b=0:=by omega
  subst e;rfl
 | succ n ih=>
  by_cases e:b=n+1
  · subst e;rw [tl_end];omega
  · have ih:=ih (by omega)
    rw [List.range_succ,List.map_append,List.sum_append]
    have e2:tl f b (n+1)=tl f b n+f n:=by
     unfold tl
     rw [show n+1 - b=(n - b)+1 by omega,List.range'_concat,List.map_append,List.sum_append]
     simp
     rw [show b+(n - b)=n by omega]
    rw [e2,← ih]
    simp;omega
theorem upto_nums{R:Str→Int}{ys:List Str}{n k:Nat}(h:k≤ys.length):((nums R ys n).take k)=(List.range k).map (W R ys n):=by
 unfold nums
 rw [← List.map_take,List.take_range,Nat.min_eq_left h]
noncomputable def dep(R:Str→Int)(ys:List Str)(n:Nat):Option Int:=(ear ys n).map fun b=>tl (W R ys n) b n
noncomputable def optV:Option Int→V
 | none=> .non
 | some i=> .int i
noncomputable def earV(ys:List Str)(i:Nat):V:=optV ((ear ys i).map fun j=>(j:Int))
noncomputable def depsV(R:Str→Int)(ys:List Str):List V:=(List.range ys.length).map fun i=>optV (dep R ys i)
end N32
namespace N32
open L2 N1 N5 N31 N4
noncomputable def rm(ts:List Th)(z:Str):Int:=((ts.find? fun t=>decide (t.1=z)).map (·.2.2)).getD 0
theorem rm_at{ts:List Th}(nd:(ts.map (·.1)).Nodup){i:Nat}{t:Th}(h:ts[i]?=some t):rm ts t.1=t.2.2:=by
 induction ts generalizing i with
 | nil=>simp at h
 | cons u r ih=>
  rw [List.map_cons,List.nodup_cons]at nd
  cases i with
  | zero=>
   rw [List.getElem?_cons_zero]at h
   cases h
   simp [rm]
  | succ i=>
   rw [List.getElem?_cons_succ]at h
   have ne:¬u.1=t.1:=fun e=>nd.1 (by rw [e];exact List.mem_map.mpr ⟨t,List.mem_of_getElem? h,rfl⟩)
   have:=ih nd.2 h
   unfold rm at this ⊢
   rw [List.find?_cons_of_neg (by simpa using ne)]
   exact this
noncomputable def RoomsAt(H:Hp)(d:Addr)(ns:List Str)(R:Str→Int):Prop:=∃kvs:List (Key×V),H d=some (.dK kvs)∧∀z∈ns,valV kvs (Sum.inr z)=some (.int (R z))
theorem RoomsAt.same{H H':Hp}{d:Addr}{ns:List Str}{R:Str→Int}(s:Same H H')(h:RoomsAt H d ns R):RoomsAt H' d ns R:=let ⟨kvs,h1,h2⟩:=h;⟨kvs,s _ _ h1,h2⟩
theorem none_of{H H':Hp}{D:Addr}(s:Same H H')(h:H' D=none):H D=none:=by
 cases e:H D with
 | none=>rfl
 | some o=>rw [s _ _ e]at h;cases h
theorem same_upd{H H':Hp}{p:Addr}{o:HO}(s:Same H H')(h:H p=none):Same H (upd H' p o):=fun b u e=>by
 rw [upd_ne (ne_of_none e h)];exact s b u e
noncomputable def sp32_check:Sp:=fun vs H Q _=>∃(i:Int),vs=[.int i]∧1≤i∧i≤1000000∧Q .non H
noncomputable def sp32_thing(K:PySem.W.Frag)(C:Addr):Sp:=fun vs H Q _=>∃(p:Addr) (ts:List Th) (z:Str),vs=[.ref p,.str z]∧StockAt K C H p ts∧(ts.map (·.1)).Nodup∧z∈ts.map (·.1)∧∀(i:Nat) (t:Th),ts[i]?=some t→t.1=z→∀a,SqT K H a [.int i,.int t.2.1,.int t.2.2]→Q (.ref a) H
noncomputable def sp32_room(K:PySem.W.Frag)(C:Addr):Sp:=fun vs H Q _=>∃(p:Addr) (ts:List Th) (z:Str),vs=[.ref p,.str z]∧StockAt K C H p ts∧(ts.map (·.1)).Nodup∧z∈ts.map (·.1)∧Q (.int (rm ts z)) H
noncomputable def sp32_asks(K:PySem.W.Frag)(C:Addr):Sp:=fun vs H Q _=>∃(p a:Addr) (pl:Int) (ts:List Th) (ys:List Str),vs=[.ref p,.ref a,.int pl]∧StockAt K C H p ts∧(ts.map (·.1)).Nodup∧SqL K H a (ys.map V.str)∧ys.length≤200∧(∀y∈ys,y∈ts.map (·.1))∧(∀t∈ts,t.2.2≤pl)∧1≤pl∧pl≤1000000∧∀H',Same H H'→Q (.bl true) H'
noncomputable def sp32_early(K:PySem.W.Frag):Sp:=fun vs H Q _=>∃(a:Addr) (ys:List Str),vs=[.ref a]∧SqL K H a (ys.map V.str)∧ys.length≤200∧∀p H',H p=none→Same H H'→H' p=some (.lst ((List.range ys.length).map (earV ys)))→Q (.ref p) H'
noncomputable def sp32_init(C:Addr):Sp:=fun vs H Q _=>∃(p dx:Addr) (n:Nat),vs=[.ref p,.int n]∧H p=some (.ins C dx [])∧n≤200∧∀l H',H l=none→SameBut p H H'→SumsAt C H' p l (List.replicate n 0)→Q .non H'
noncomputable def sp32_add(C:Addr):Sp:=fun vs H Q _=>∃(p l:Addr) (k:Nat) (b:Int) (is:List Int),vs=[.ref p,.int k,.int b]∧SumsAt C H p l is∧is.length≤200∧k < is.length∧Q .non (upd H l (.lst ((is.set k (is.getD k 0+b)).map V.int)))
noncomputable def sp32_upto(C:Addr):Sp:=fun vs H Q _=>∃(p l:Addr) (k:Nat) (is:List Int),vs=[.ref p,.int k]∧SumsAt C H p l is∧is.length≤200∧k≤is.length∧∀H',Same H H'→Q (.int (is.take k).sum) H'
noncomputable def sp32_depths(K:PySem.W.Frag)(C:Addr):Sp:=fun vs H Q _=>∃(p a:Addr) (ts:List Th) (ys:List Str),vs=[.ref p,.ref a]∧StockAt K C H p ts∧(ts.map (·.1)).Nodup∧SqL K H a (ys.map V.str)∧ys.length≤200∧(∀y∈ys,y∈ts.map (·.1))∧(∀t∈ts,t.2.2≤1000000)∧
 ∀q H',H q=none→Same H H'→H' q=some (.lst (depsV (rm ts) ys))→Q (.ref q) H'
section
variable {K:PySem.W.Frag} {σ:L2.St} {H:Hp} {Q:VK}
theorem rd_dget1{td ty:TE}:tDGet1 td ty σ H Q=td σ H fun x H1=>∃a,x= .ref a∧IsD H1 a∧ty σ H1 fun y H2=>∃o,DGet H2 a y o∧Q (o.getD .non) H2:=rfl
theorem rd_disp1{tk tv:TE}:tDisp [(tk,tv)] σ H Q=∀p,H p=none→tk σ (upd H p (.dK [])) fun x H1=>tv σ H1 fun y H2=>H2 p=some (.dK [])∧∃kvs:List (Key×V),[(x,y)]=kvs.map (fun kv=>(kV kv.1,kv.2))∧kvs.length≤15∧Q (.ref p) (upd H2 p (.dK (mergeK [] kvs))):=rfl
end
end N32
namespace N32
open L2 N1 N5 N31 N4
theorem SqT.offL{K:PySem.W.Frag}{H:Hp}{a l:Addr}{xs zs:List V}{o:HO}(hl:H l=some (.lst zs))(h:SqT K H a xs):SqT K (upd H l o) a xs:=by
 rcases h with (h | ⟨o',h⟩) | h
 · exact .inl (.inl (by rw [upd_ne (ne_of h hl (by intro z;cases z))];exact h))
 · exact .inl (.inr ⟨o',by rw [upd_ne (ne_of h hl (by intro z;cases z))];exact h⟩)
 · exact .inr h
theorem StockAt.offL{K:PySem.W.Frag}{C:Addr}{H:Hp}{p l:Addr}{ts:List Th}{zs:List V}{o:HO}(hl:H l=some (.lst zs))(h:StockAt K C H p ts):StockAt K C (upd H l o) p ts:=by
 obtain ⟨dx,d,kvs,h1,h2,h3,h4⟩:=h.ex
 refine ⟨dx,d,kvs,by rw [upd_ne (ne_of h1 hl (by intro z;cases z))];exact h1,by rw [upd_ne (ne_of h2 hl (by intro z;cases z))];exact h2,h3,fun i t e=>?_⟩
 obtain ⟨a,e1,e2⟩:=h4 i t e
 exact ⟨a,e1,SqT.offL hl e2⟩
theorem ear_val{ys:List Str}{i:Nat}:((lastIx ys (ys.getD i Str.empty) i).map fun j=>V.int (j:Int)).getD .non=earV ys i:=by
 unfold earV ear
 cases lastIx ys (ys.getD i Str.empty) i <;> rfl
theorem last_put{ys:List Str}{kvs:List (Key×V)}{i:Nat}(h:∀z,valV kvs (Sum.inr z)=(lastIx ys z i).map fun j=>V.int (j:Int))(z:Str):valV (putK kvs (Sum.inr (ys.getD i Str.empty)) (V.int (i:Int))) (Sum.inr z)=(lastIx ys z (i+1)).map fun j=>V.int (j:Int):=by
 rw [valV_put]
 by_cases e:ys.getD i Str.empty=z
 · rw [if_pos (by rw [e]),show lastIx ys z (i+1)=some i from if_pos e];rfl
 · rw [if_neg (fun h=>e (by injection h with h;exact h.symm)),show lastIx ys z (i+1)=lastIx ys z i from if_neg e];exact h z
end N32
namespace N32
open L2 N1 N5 N31 N4
theorem nums_zero{R:Str→Int}{ys:List Str}:nums R ys 0=List.replicate ys.length 0:=by
 unfold nums
 have e:W R ys 0=fun _=>0:=by
  funext j
  unfold W
  rw [if_neg (by intro h;cases h)]
 rw [e,List.map_const',List.length_range]
theorem dep_none{R:Str→Int}{ys:List Str}{i:Nat}(h:∀j,0≤j→j < i→ys.getD j Str.empty≠ys.getD i Str.empty):dep R ys i=none:=by
 unfold dep ear
 rw [last_none fun j hj=>h j (Nat.zero_le _) hj]
 rfl
theorem dep_some{R:Str→Int}{ys:List Str}{i m:Nat}(hm:m < i)(e:ys.getD m Str.empty=ys.getD i Str.empty)(h:∀j,m+1≤j→j < i→ys.getD j Str.empty≠ys.getD i Str.empty):dep R ys i=some (R (ys.getD i Str.empty)+tl (W R ys i) (m+1) i):=by
 have l:=last_some e hm fun j h1 h2=>h j h1 h2
 unfold dep ear
 rw [l]
 show some (tl (W R ys i) m i)=_
 rw [tl_step hm]
 congr 2
 unfold W
 rw [e,if_pos l]
theorem sums_dep{R:Str→Int}{ys:List Str}{i b:Nat}(hi:i < ys.length)(h:ear ys i=some b):((nums R ys i).take i).sum - ((nums R ys i).take b).sum=tl (W R ys i) b i∧dep R ys i=some (tl (W R ys i) b i):=by
 have hb:=(last_lt h).1
 refine ⟨?_,by unfold dep;rw [h];rfl⟩
 rw [upto_nums (by omega),upto_nums (by omega)]
 exact sum_diff (by omega)
theorem nd_getD{ys:List Str}(nd:ys.Nodup){i j:Nat}(hi:i < ys.length)(hj:j < ys.length)(h:ys.getD i Str.empty=ys.getD j Str.empty):i=j:=by
 rw [List.getD_eq_getElem?_getD,List.getElem?_eq_getElem hi,List.getD_eq_getElem?_getD,List.getElem?_eq_getElem hj]at h
 exact (List.getElem_inj nd).mp h
end N32
open L2 N1 N5 N31 N4 N32
namespace N41
noncomputable def seg(T:List Int)(a b:Nat):Int:=((T.take b).drop a).sum
noncomputable def leastAt(c r:Str→Int)(T:List Int)(S:Int)(ys:List Str)(n:Nat):Int:=
 match ear ys n with
 | none=>c (ys.getD n Str.empty) * S
 | some e=>min (c (ys.getD n Str.empty) * S) (r (ys.getD n Str.empty) * seg T (e+1) n)
noncomputable def fl(c r:Str→Int)(T:List Int)(S P:Int)(ys:List Str):Nat→Int
 | 0=>0
 | n+1=>fl c r T S P ys n+(leastAt c r T S ys n - T.getD n 0 * (P - r (ys.getD n Str.empty)))
noncomputable def sm(f:Str→Int)(L:List Str):Int:=(L.map f).sum
end N41
namespace N41
noncomputable def cst(ts:List Th)(z:Str):Int:=((ts.find? fun t=>decide (t.1=z)).map (·.2.1)).getD 0
theorem cst_at{ts:List Th}(nd:(ts.map (·.1)).Nodup){i:Nat}{t:Th}(h:ts[i]?=some t):cst ts t.1=t.2.1:=by
 induction ts generalizing i with
 | nil=>simp at h
 | cons u r ih=>
  rw [List.map_cons,List.nodup_cons]at nd
  cases i with
  | zero=>
   rw [List.getElem?_cons_zero]at h
   cases h
   simp [cst]
  | succ i=>
   rw [List.getElem?_cons_succ]at h
   have ne:¬u.1=t.1:=fun e=>nd.1 (by rw [e];exact List.mem_map.mpr ⟨t,List.mem_of_getElem? h,rfl⟩)
   have:=ih nd.2 h
   unfold cst at this ⊢
   rw [List.find?_cons_of_neg (by simpa using ne)]
   exact this
noncomputable def sp41_cost(K:PySem.W.Frag)(C:Addr):Sp:=fun vs H Q _=>∃(p:Addr) (ts:List Th) (z:Str),vs=[.ref p,.str z]∧StockAt K C H p ts∧(ts.map (·.1)).Nodup∧z∈ts.map (·.1)∧Q (.int (cst ts z)) H
end N41
namespace L2
noncomputable abbrev tComp1I(wi:TI)(fs:List Nat)(tt:Blk→TT)(te:Blk→TE):TE:=tComp wi 1 fs (fun _=>gName 0) tt te
noncomputable abbrev g2(K:PySem.W.Frag):Blk→TG:=fun _=>gTup K 2 (gCons (gName 0) (gCons (gName 1) gNil))
noncomputable abbrev tComp2(K:PySem.W.Frag)(wi:TI)(fs:List Nat)(tt:Blk→TT)(te:Blk→TE):TE:=tComp wi 2 fs (g2 K) tt te
section
variable {X:Cx} {scope:Scope} {x y:Str} {px py pt:Pos} {n:Nat} {fs:List Nat} {elt iter c:Expr} {pos:Pos} {wi:TI} {tt:Blk→TT} {te:Blk→TE}
theorem pg_own2(hc:X.calm=true)(hok:compOkB X.N X.env.scope scope [x,y] fs=true)(b:Blk):PG (X.blk scope ([x,y]++around X.N fs) b) (.Tuple [.Name x px,.Name y py] n pt) (g2 X.K b):=by
 have O:=compOk_of hok
 refine pg_tup (X:=X.blk scope ([x,y]++around X.N fs) b) hc (pgs_cons (pg_name O.nd rfl (.inl (lookup_relabel_local (O.own x (by simp)))) (.inr (lookup_relabel_local (O.own x (by simp)))))
  (pgs_cons (pg_name O.nd rfl (.inl (lookup_relabel_local (O.own y (by simp)))) (.inr (lookup_relabel_local (O.own y (by simp))))) pgs_nil))
end
section
variable {K:PySem.W.Frag} {tail:St} {tt:Blk→TT} {te:Blk→TE} {Q:VK} {H1:Hp} {σ:St} {H:Hp}
theorem rd_compI{wi:TI}{fs:List Nat}:tComp1I wi fs tt te σ H Q=wi σ H (CompTail (none::fs.map fun j=>σ.getD j none) (fun _=>gName 0) tt te Q):=rfl
theorem rd_comp2{wi:TI}{fs:List Nat}:tComp2 K wi fs tt te σ H Q=wi σ H (CompTail (none::none::fs.map fun j=>σ.getD j none) (g2 K) tt te Q):=rfl
theorem kept2{x y:Option V}{r:St}:Kept (none::none::r) (x::y::r):=fun i v e=>by
 match i with
 | 0=>cases e
 | 1=>cases e
 | i+2=>exact e
theorem same_put{H H':Hp}{p:Addr}{o:HO}(s:Same H H')(h:H p=none):Same H (upd H' p o):=fun b u e=>by
 rw [upd_ne (ne_of_none e h)];exact s b u e
theorem compZ_2{a c:Addr}{xs zs:List V}(hlen:xs.length=zs.length)(p:Nat→Bool)(f:Nat→V)(hA:SqL K H1 a xs)(hC:SqL K H1 c zs)(hz:xs.length≤sizeLine)
 (ht:∀b i x z H QT,xs[i]?=some x→zs[i]?=some z→Same H1 H→(∀H',Same H H'→QT (p i) H')→tt b (some x::some z::tail) H QT)
 (he:∀b i x z H Q',xs[i]?=some x→zs[i]?=some z→p i=true→Same H1 H→(∀H',Same H H'→Q' (f i) H')→te b (some x::some z::tail) H Q')
 (q:∀D H',H1 D=none→Same H1 H'→H' D=some (.lst (((List.range xs.length).filter p).map f))→Q (.ref D) H'):CompTail (none::none::tail) (g2 K) tt te Q (Itz K a c) H1:=by
 intro b D hD
 refine ⟨fun i m ys H=>m=xs.length - i∧i≤xs.length∧ys=((List.range i).filter p).map f∧H D=some (.lst ys)∧Same H1 H,⟨_,rfl,Nat.zero_le _,rfl,upd_same,same_new hD⟩,?_⟩
 rintro i m ys H ⟨rfl,hi,rfl,hd,sm⟩
 refine ⟨hd,?_⟩
 by_cases hlt:i < xs.length
 · have hx:xs[i]?=some xs[i]:=List.getElem?_eq_getElem hlt
   have hy:zs[i]?=some (zs[i]'(by omega)):=List.getElem?_eq_getElem (by omega)
   refine .inr ⟨⟨xs,zs,_,_,sm.seq hA,sm.seq hC,hx,hy⟩,?_⟩
   rintro v H3 ⟨t,x',z',rfl,hn,rfl,g1,g2'⟩
   have e1:=(g1 xs (sm.seq hA)).symm.trans hx
   have e2:=(g2' zs (sm.seq hC)).symm.trans hy
   cases e1
   cases e2
   have s3:Same H (upd H t (.tup [xs[i],zs[i]'(by omega)])):=Same.new hn
   have hl:(((List.range i).filter p).map f).length≤i:=by
    rw [List.length_map];exact Nat.le_trans (List.length_filter_le _ _) (by rw [List.length_range];omega)
   have htk:(List.range (i+1)).filter p=(List.range i).filter p++[i].filter p:=by rw [List.range_succ,List.filter_append]
   refine ⟨t,_,rfl,SqT.of upd_same,rfl,_,_,rfl,_,_,rfl,rfl,kept2,?_⟩
   refine ht b i _ _ _ _ hx hy (sm.trans s3) fun H7 s7=>?_
   by_cases hp:p i=true
   · rw [if_pos hp]
     refine he b i _ _ H7 _ hx hy hp ((sm.trans s3).trans s7) fun H8 s8=>?_
     have hd8:=((s3.trans s7).trans s8) _ _ hd
     refine ⟨hd8,by omega,xs.length - (i+1),by omega,rfl,hlt,?_,upd_same,same_put (((sm.trans s3).trans s7).trans s8) hD⟩
     rw [htk,List.filter_cons_of_pos hp,List.filter_nil,List.map_append];rfl
   · rw [if_neg hp]
     refine ⟨xs.length - (i+1),by omega,rfl,hlt,?_,(s3.trans s7) _ _ hd,(sm.trans s3).trans s7⟩
     rw [htk,List.filter_cons_of_neg hp,List.filter_nil,List.append_nil]
 · have e:i=xs.length:=by omega
   subst e
   exact .inl ⟨⟨_,_,sm.seq hA,sm.seq hC,.inl (Nat.le_refl _)⟩,q D H hD sm hd⟩
end
end L2
namespace L2
section
variable {X:Cx} {scope:Scope} {x y v:Str} {px py pt pv':Pos} {n i:Nat} {fs:List Nat} {elt iter c:Expr} {pos spos:Pos} {wi:TI} {tt:Blk→TT} {te:Blk→TE}
theorem ps_compI(x:Str)(fs:List Nat)(hN:X.N.Nodup)(hy:X.N[i]?=some v)(hyl:X.env.kindOf v=some .local)(hc:X.calm=true)(hok:compOkB X.N X.env.scope scope [x] fs=true)(hi:PI X (.Name x px) iter wi)(ht:∀b,PT (X.blk scope ([x]++around X.N fs) b) c (tt b))(he:∀b,PE (X.blk scope ([x]++around X.N fs) b) elt (te b))
 (hsw:swapsWith (.ListComp elt [⟨.Name x px,iter,[c],0⟩] scope pos) (some (.Name v pv')) spos.line X.env=pure true:=by rfl)
 (hs:∀x,foldedSetIterable iter X.env x=pure x:=by intro _;rfl):PS X (.Assign [.Name v pv'] (.ListComp elt [⟨.Name x px,iter,[c],0⟩] scope pos) spos) (tAsg (tComp1I wi fs tt te) (gName i)):=
 ps_comp (xs:=[x]) (g:=fun _=>gName 0) (tt:=tt) hN hy hyl hc hok hi (pg_own hok) (fun b=>pts_one (ht b)) he hsw hs
theorem ps_comp2I(x y:Str)(fs:List Nat)(hN:X.N.Nodup)(hy:X.N[i]?=some v)(hyl:X.env.kindOf v=some .local)(hc:X.calm=true)(hok:compOkB X.N X.env.scope scope [x,y] fs=true)(hi:PI X (.Tuple [.Name x px,.Name y py] n pt) iter wi)(ht:∀b,PT (X.blk scope ([x,y]++around X.N fs) b) c (tt b))(he:∀b,PE (X.blk scope ([x,y]++around X.N fs) b) elt (te b))
 (hsw:swapsWith (.ListComp elt [⟨.Tuple [.Name x px,.Name y py] n pt,iter,[c],0⟩] scope pos) (some (.Name v pv')) spos.line X.env=pure true:=by rfl)
 (hs:∀x,foldedSetIterable iter X.env x=pure x:=by intro _;rfl):PS X (.Assign [.Name v pv'] (.ListComp elt [⟨.Tuple [.Name x px,.Name y py] n pt,iter,[c],0⟩] scope pos) spos) (tAsg (tComp2 X.K wi fs tt te) (gName i)):=
 ps_comp (xs:=[x,y]) (g:=g2 X.K) (tt:=tt) hN hy hyl hc hok hi (pg_own2 hc hok) (fun b=>pts_one (ht b)) he hsw hs
end
end L2
namespace L2
open PySem.W
noncomputable def rMaxL(K:PySem.W.Frag):List V→Hp→VK→Prop:=fun xs H Q=>∃(p:Addr) (is:List Int),xs=[.ref p]∧SqL K H p (is.map V.int)∧is≠[]∧∀v∈is,(∀x∈is,x≤v)→Q (.int v) H
theorem best_gt(val:Nat→Int):∀k,argBest (fun i j=>decide (val i > val j)) k≤k∧∀j,j≤k→val j≤val (argBest (fun i j=>decide (val i > val j)) k):=by
 intro k
 induction k with
 | zero=>exact ⟨Nat.le_refl _,fun j hj=>by rw [Nat.le_zero.mp hj];exact Int.le_refl _⟩
 | succ k ih=>
  unfold argBest
  split
  · rename_i h
    have h:=of_decide_eq_true h
    refine ⟨Nat.le_refl _,fun j hj=>?_⟩
    by_cases e:j=k+1
    · rw [e];exact Int.le_refl _
    · have:=ih.2 j (by omega);omega
  · rename_i h
    have h:¬(val (k+1) > _):=fun z=>h (decide_eq_true z)
    refine ⟨Nat.le_succ_of_le ih.1,fun j hj=>?_⟩
    by_cases e:j=k+1
    · rw [e];omega
    · exact ih.2 j (by omega)
section
variable {X:Cx}
theorem ints_at{is:List Int}{its:List Value}(r:Vals (is.map V.int) its){i:Nat}{v:Value}(hP:its.toArray[i]?=some v):i < is.length∧∃t,v=Value.int (is.getD i 0) t:=by
 have hlen:=r.length
 rw [List.length_map]at hlen
 have hi:i < is.length:=by
  have:=(Array.getElem?_eq_some_iff.mp hP).1
  rw [List.size_toArray]at this
  omega
 obtain ⟨u,hu,ru⟩:=r.get (i:=i) (x:=V.int (is[i])) (by simp [hi])
 have e:u=v:=by
  have:its[i]?=some v:=by simpa using hP
  rw [hu]at this;exact Option.some.inj this
 subst e
 refine ⟨hi,?_⟩
 rw [List.getD_eq_getElem?_getD,List.getElem?_eq_getElem hi]
 exact ru
theorem call_maxL(hc:X.calm=true):CallR X (.builtin "max") (rMaxL X.K):=by
 intro pins s σ H xs us Q I r h
 obtain ⟨p,is,rfl,hp,hne,q⟩:=h
 obtain ⟨u,rfl,ru⟩:=vals1 r
 cases ru
 obtain ⟨its,r,pl,hz⟩:=I.list hp
 have hlt:p < s.heap.objs.size:=by obtain ⟨o,n,e,_⟩:=pl;exact Heap.lt_size e
 have hlen:=r.length
 rw [List.length_map]at hlen
 have hpos:0 < is.length:=List.length_pos_iff.mpr hne
 have hb:=best_gt (fun i=>is.getD i 0) (is.length - 1)
 refine call_max_walkS (wpAny_pyIter_list pl.isList ⟨s.heap.objs.size,_,_,_,_,_,_,fun i j=>decide (is.getD i 0 > is.getD j 0),rfl,(Walks.list (show X.A.in1.handled=none from I.ok.hd hc) s.heap.objs.size p (Nat.ne_of_lt hlt) its.toArray).toS,⟨⟨_,Heap.get?_push_size _ rfl,rfl,rfl⟩,pl.isList.push _⟩,fun b hb=>?_,by rw [List.size_toArray];omega,CmpOf.ints_gt (fun i=>is.getD i 0) (fun i v hP=>(ints_at r hP).2),fun v s' hP hmv=>?_⟩)
 · show b < (s.heap.push _).objs.size
   rw [Heap.size_push]
   rcases List.mem_cons.mp hb with e | hb
   · rw [e];exact Nat.lt_succ_self _
   · rw [List.mem_singleton.mp hb];exact Nat.lt_succ_of_lt hlt
 · have hk:∀b o,s.heap.get? b=some o→s'.heap.get? b=some o:=fun b o e=>
    hmv.heap b o (fun hI=>absurd (Heap.lt_size e) (by rw [List.mem_singleton.mp hI];exact Nat.lt_irrefl _)) (Heap.get?_push_of_some _ e)
   rw [Moved.eq_with hmv]
   rw [List.size_toArray,← hlen]at hP
   obtain ⟨hi,t,rfl⟩:=ints_at r hP
   refine ⟨V.int _,H,I.kept (t':=s'.toks) hk,⟨t,rfl⟩,q _ ?_ fun x hx=>?_⟩
   · rw [List.getD_eq_getElem?_getD,List.getElem?_eq_getElem hi];exact List.getElem_mem hi
   · obtain ⟨j,hj⟩:=List.mem_iff_getElem?.mp hx
     have hjl:=(List.getElem?_eq_some_iff.mp hj).1
     have:=hb.2 j (by omega)
     rw [show is.getD j 0=x by rw [List.getD_eq_getElem?_getD,hj];rfl]at this
     exact this
end
section
variable {K:PySem.W.Frag} {H:Hp} {Q:VK} {xs:List V}
theorem rd_maxL:rMaxL K xs H Q=∃(p:Addr) (is:List Int),xs=[.ref p]∧SqL K H p (is.map V.int)∧is≠[]∧∀v∈is,(∀x∈is,x≤v)→Q (.int v) H:=rfl
end
end L2
namespace N30
open PySem
noncomputable abbrev Ris(l:List Nat):Prop:=l.Pairwise (· < ·)
theorem go_spec{xs:Array Nat}{j:Nat}(hr:Ris xs.toList):∀(fuel lo hi:Nat),lo≤hi→hi≤xs.size→hi - lo≤fuel→(∀i x,i < lo→xs.toList[i]?=some x→x < j)→(∀i x,hi≤i→xs.toList[i]?=some x→j≤x)→
 SetTable.below.go xs j fuel lo hi≤xs.size∧(∀i x,i < SetTable.below.go xs j fuel lo hi→xs.toList[i]?=some x→x < j)∧∀i x,SetTable.below.go xs j fuel lo hi≤i→xs.toList[i]?=some x→j≤x:=by
 intro fuel
 induction fuel with
 | zero=>
  intro lo hi h1 h2 h3 a b
  have e:lo=hi:=by omega
  subst e
  exact ⟨h2,a,b⟩
 | succ fuel ih=>
  intro lo hi h1 h2 h3 a b
  unfold SetTable.below.go
  by_cases c:lo < hi
  · rw [if_pos c]
    have hm:(lo+hi) / 2 < xs.size:=by omega
    have hg:xs.toList[(lo+hi) / 2]?=some (xs.getD ((lo+hi) / 2) j):=by
     rw [Array.getElem?_toList,Array.getD_eq_getD_getElem?,Array.getElem?_eq_getElem hm];rfl
    have mono:∀i k x y,i < k→xs.toList[i]?=some x→xs.toList[k]?=some y→x < y:=fun i k x y ik hx hy=>by
     obtain ⟨li,ei⟩:=List.getElem?_eq_some_iff.mp hx
     obtain ⟨lk,ek⟩:=List.getElem?_eq_some_iff.mp hy
     rw [← ei,← ek]
     exact (List.pairwise_iff_getElem.mp hr) i k li lk ik
    dsimp only
    by_cases d:xs.getD ((lo+hi) / 2) j < j
    · rw [if_pos d]
      refine ih _ _ (by omega) h2 (by omega) (fun i x hi' hx=>?_) b
      by_cases e:i=(lo+hi) / 2
      · subst e;rw [hg]at hx;cases hx;exact d
      · exact Nat.lt_trans (mono i _ x _ (by omega) hx hg) d
    · rw [if_neg d]
      refine ih _ _ (by omega) (by omega) (by omega) a fun i x hi' hx=>?_
      by_cases e:i=(lo+hi) / 2
      · subst e;rw [hg]at hx;cases hx;exact Nat.le_of_not_lt d
      · exact Nat.le_trans (Nat.le_of_not_lt d) (Nat.le_of_lt (mono _ i _ x (by omega) hg hx))
  · rw [if_neg c]
    have e:lo=hi:=by omega
    subst e
    exact ⟨h2,a,b⟩
theorem below_spec{xs:Array Nat}(hr:Ris xs.toList)(j:Nat):SetTable.below xs j≤xs.size∧(∀i x,i < SetTable.below xs j→xs.toList[i]?=some x→x < j)∧∀i x,SetTable.below xs j≤i→xs.toList[i]?=some x→j≤x:=
 go_spec hr xs.size 0 xs.size (Nat.zero_le _) (Nat.le_refl _) (by omega) (fun i x h=>absurd h (Nat.not_lt_zero _)) fun i x h hx=>by
  obtain ⟨li,_⟩:=List.getElem?_eq_some_iff.mp hx
  rw [Array.length_toList]at li;omega
theorem below_at{xs:Array Nat}(hr:Ris xs.toList){j k:Nat}(hk:k≤xs.size)(a:∀i x,i < k→xs.toList[i]?=some x→x < j)(b:∀i x,k≤i→xs.toList[i]?=some x→j≤x):SetTable.below xs j=k:=by
 obtain ⟨h1,h2,h3⟩:=below_spec hr j
 rcases Nat.lt_trichotomy (SetTable.below xs j) k with h | h | h
 · have l:SetTable.below xs j < xs.toList.length:=by rw [Array.length_toList];omega
   have:=a _ _ h (List.getElem?_eq_getElem l)
   have:=h3 _ _ (Nat.le_refl _) (List.getElem?_eq_getElem l)
   omega
 · exact h
 · have l:k < xs.toList.length:=by rw [Array.length_toList];omega
   have:=h2 _ _ h (List.getElem?_eq_getElem l)
   have:=b _ _ (Nat.le_refl _) (List.getElem?_eq_getElem l)
   omega
theorem ris_insert{xs:Array Nat}(hr:Ris xs.toList){j:Nat}(n:xs[SetTable.below xs j]?≠some j):Ris (SetTable.insertAt xs (SetTable.below xs j) j).toList:=by
 obtain ⟨h1,h2,h3⟩:=below_spec hr j
 rw [SetTable.toList_insertAt]
 have hm:∀x∈xs.toList.take (SetTable.below xs j),x < j:=fun x hx=>by
  obtain ⟨i,hi⟩:=List.mem_iff_getElem?.mp hx
  rw [List.getElem?_take]at hi
  split at hi
  · rename_i c;exact h2 i x c hi
  · cases hi
 have hd:∀x∈xs.toList.drop (SetTable.below xs j),j < x:=fun x hx=>by
  obtain ⟨i,hi⟩:=List.mem_iff_getElem?.mp hx
  rw [List.getElem?_drop]at hi
  refine Nat.lt_of_le_of_ne (h3 _ x (Nat.le_add_right _ _) hi) fun e=>?_
  subst e
  by_cases c:i=0
  · subst c
    rw [Nat.add_zero,Array.getElem?_toList]at hi
    exact n hi
  · have l:SetTable.below xs j < xs.toList.length:=by
     obtain ⟨li,_⟩:=List.getElem?_eq_some_iff.mp hi
     omega
    obtain ⟨li,ei⟩:=List.getElem?_eq_some_iff.mp hi
    have a1:=(List.pairwise_iff_getElem.mp hr) (SetTable.below xs j) (SetTable.below xs j+i) l li (by omega)
    have a2:=h3 _ _ (Nat.le_refl _) (List.getElem?_eq_getElem l)
    rw [ei]at a1
    omega
 refine List.pairwise_append.mpr ⟨hr.sublist (List.take_sublist _ _),List.pairwise_cons.mpr ⟨hd,hr.sublist (List.drop_sublist _ _)⟩,fun a ha b hb=>?_⟩
 rcases List.mem_cons.mp hb with e | hb
 · subst e;exact hm a ha
 · exact Nat.lt_trans (hm a ha) (hd b hb)
structure TabOk(t:SetTable)(n:Nat)(led:Bool):Prop where
 led:t.led=led
 dum:t.dummies=#[]
 ris:t.plain=true→Ris t.place.toList
 fit:t.fits n=true
theorem has_nil(j:Nat):SetTable.has #[] j=false:=by
 unfold SetTable.has
 simp
theorem probe_free{t:SetTable}(hd:t.dummies=#[]){f:Nat→Int}{h:Int}:∀(fuel:Nat) (p:SetTable.Probe) (j:Nat) (d:Option Nat),p.dummy=none→SetTable.probe.go t f h fuel p=some (.empty j d)→d=none∧t.place[SetTable.below t.place j]?≠some j:=by
 intro fuel
 induction fuel with
 | zero=>intro p j d _ e;cases e
 | succ fuel ih=>
  intro p j d hp e
  have adv:∀q:SetTable.Probe,q.dummy=none→(t.advance q).dummy=none:=fun q hq=>by
   unfold SetTable.advance
   split
   · exact hq
   · exact hq
  unfold SetTable.probe.go at e
  unfold SetTable.slot at e
  dsimp only at e
  by_cases c:(t.place[SetTable.below t.place p.j]?==some p.j)=true
  · rw [if_pos c]at e
    dsimp only at e
    split at e
    · cases e
    · exact ih _ _ _ (adv p hp) e
  · rw [if_neg c,hd,has_nil]at e
    simp only [Bool.false_eq_true,if_false,Option.some.injEq,SetTable.Met.empty.injEq]at e
    obtain ⟨rfl,rfl⟩:=e
    exact ⟨hp,fun z=>c (by rw [z];simp)⟩
theorem free_ok{t:SetTable}(hd:t.dummies=#[]){h:Int}{j:Nat}{b:Bool}(e:t.freeSlot h=some (j,b)):t.place[SetTable.below t.place j]?≠some j:=by
 unfold SetTable.freeSlot at e
 split at e
 · rename_i j' d hp
   obtain ⟨rfl,h2⟩:=probe_free hd _ _ j' d rfl hp
   simp only [Option.getD_none,Option.some.injEq,Prod.mk.injEq]at e
   rw [← e.1];exact h2
 · cases e
theorem layNew_ok{t:SetTable}{n:Nat}{led:Bool}(T:TabOk t n led)(es:Array (Int×Value))(h:Int)(x:Value):TabOk (layNew t es h x).2.1 (layNew t es h x).1.size led:=by
 refine ⟨?_,?_,?_,layNew_fits t es h x⟩
 · unfold layNew
   split
   · dsimp only
     unfold SetTable.orStandIn
     split
     · exact T.led
     · exact T.led
   · exact T.led
 · unfold layNew
   split
   · dsimp only
     unfold SetTable.orStandIn
     split
     · unfold SetTable.put
       dsimp only
       rw [T.dum,has_nil];rfl
     · rfl
   · rfl
 · intro hp
   unfold layNew at hp ⊢
   split at hp
   · rename_i slot wd hf
     dsimp only at hp ⊢
     unfold SetTable.orStandIn at hp ⊢
     split at hp
     · rename_i c
       rw [if_pos c]
       unfold SetTable.put at hp ⊢
       dsimp only at hp ⊢
       exact ris_insert (T.ris hp) (free_ok T.dum hf)
     · cases hp
   · cases hp
theorem laid_ris{mask:Nat}{owner:Array (Option Nat)}:Ris (((List.range (mask+1)).filterMap fun j=>(owner.getD j none).map (j,·)).map (·.1)):=by
 have key:∀l:List Nat,Ris l→Ris ((l.filterMap fun j=>(owner.getD j none).map (j,·)).map (·.1))∧∀x∈(l.filterMap fun j=>(owner.getD j none).map (j,·)).map (·.1),x∈l:=by
  intro l
  induction l with
  | nil=>intro _;exact ⟨.nil,fun x h=>by cases h⟩
  | cons a r ih=>
   intro h
   obtain ⟨h1,h2⟩:=List.pairwise_cons.mp h
   obtain ⟨i1,i2⟩:=ih h2
   rw [List.filterMap_cons]
   cases e:owner.getD a none with
   | none=>exact ⟨i1,fun x hx=> .tail _ (i2 x hx)⟩
   | some k=>
    dsimp only [Option.map_some]
    rw [List.map_cons]
    refine ⟨List.pairwise_cons.mpr ⟨fun x hx=>h1 x (i2 x hx),i1⟩,fun x hx=>?_⟩
    rcases List.mem_cons.mp hx with e | hx
    · subst e;exact .head _
    · exact .tail _ (i2 x hx)
 exact (key _ List.pairwise_lt_range).1
theorem relaid_ok{t t':SetTable}{hs:Array Int}{wanted:Nat}{order:Array Nat}(e:t.relaid hs wanted=some (t',order)):t'.led=t.led∧t'.dummies=#[]∧Ris t'.place.toList:=by
 unfold SetTable.relaid SetTable.laid at e
 cases o:SetTable.layClean (SetTable.sizeAbove wanted - 1) hs with
 | none=>rw [o]at e;cases e
 | some owner=>
  rw [o]at e
  simp only [Option.bind_eq_bind,Option.bind_some,Option.pure_def,Option.some.injEq,Prod.mk.injEq]at e
  obtain ⟨e,_⟩:=e
  subst e
  exact ⟨rfl,rfl,laid_ris⟩
theorem relayAll_ok{t:SetTable}{n:Nat}{led:Bool}(T:TabOk t n led)(es:Array (Int×Value))(wanted:Nat):TabOk (relayAll t es wanted).2.1 (relayAll t es wanted).1.size led:=by
 refine ⟨?_,?_,?_,relayAll_fits t es wanted⟩
 · unfold relayAll
   split
   · rename_i t' order e
     dsimp only
     split
     · exact (relaid_ok e).1.trans T.led
     · exact T.led
   · exact T.led
 · unfold relayAll
   split
   · rename_i t' order e
     dsimp only
     split
     · exact (relaid_ok e).2.1
     · rfl
   · rfl
 · intro hp
   unfold relayAll at hp ⊢
   split at hp
   · rename_i t' order e
     dsimp only at hp ⊢
     split at hp
     · rename_i c;rw [if_pos c];exact (relaid_ok e).2.2
     · cases hp
   · cases hp
theorem plain_off{t:SetTable}{n:Nat}{led:Bool}(T:TabOk t n led):TabOk {t with plain:=false} n led:=⟨T.led,T.dum,(fun h=>by cases h),SetTable.fits_plain_off T.fit⟩
theorem erase_perm{α:Type}:∀(l:List α) (i:Nat) (h:i < l.length),(l[i]::l.eraseIdx i).Perm l:=by
 intro l
 induction l with
 | nil=>intro i h;cases h
 | cons a r ih=>
  intro i h
  cases i with
  | zero=>exact .rfl
  | succ i=>
   have h':i < r.length:=by simpa using h
   show List.Perm (r[i]::a::r.eraseIdx i) (a::r)
   exact (List.Perm.swap a (r[i]) _).trans ((ih i h').cons a)
theorem pick_go{α:Type}{next:Nat→Nat}:∀(fuel k:Nat) (left:List α) (out:Array α),fuel=left.length→(pickOrder.go next fuel k left out).toList.Perm (out.toList++left):=by
 intro fuel
 induction fuel with
 | zero=>
  intro k left out e
  have:left=[]:=List.length_eq_zero_iff.mp e.symm
  subst this
  unfold pickOrder.go
  rw [List.append_nil]
 | succ fuel ih=>
  intro k left out e
  unfold pickOrder.go
  have hl:next k % left.length < left.length:=Nat.mod_lt _ (by omega)
  rw [List.getElem?_eq_getElem hl]
  dsimp only
  refine (ih _ _ _ (by rw [List.length_eraseIdx_of_lt hl];omega)).trans ?_
  rw [Array.toList_push,List.append_assoc]
  refine List.Perm.append_left _ ?_
  exact erase_perm left _ hl
theorem pick_perm{α:Type}(next:Nat→Nat)(xs:Array α):(pickOrder next xs).toList.Perm xs.toList:=by
 have:=pick_go (next:=next) xs.size 0 xs.toList #[] (by rw [Array.length_toList])
 simpa [pickOrder] using this
end N30
namespace L2
section
variable {X:Cx}
noncomputable def rEqNil(K:PySem.W.Frag):R2:=fun x y H Q=>∃(a b:Addr) (xs:List V),x= .ref a∧y= .ref b∧SqL K H a xs∧SqL K H b []∧Q (.bl (decide (xs.length=0))) H
theorem op_eqNil{k:Nat}(hr:Room k X.A):OpR X (compareOp .Eq) (rEqNil X.K):=by
 intro pins s σ H x y v u Q I rx ry h
 obtain ⟨a,b,xs,rfl,rfl,h1,h2,q⟩:=h
 cases rx
 cases ry
 obtain ⟨us,r1,p1,z1⟩:=I.list h1
 obtain ⟨ws,r2,p2,z2⟩:=I.list h2
 have lx:=r1.length
 have ly:=r2.length
 have hu:X.A.units < cLine:=Nat.lt_of_le_of_lt (by omega) hr.un
 by_cases e:xs.length=0
 · have e1:us=[]:=List.length_eq_zero_iff.mp (by omega)
   have e2:ws=[]:=List.length_eq_zero_iff.mp (by rw [← ly];rfl)
   subst e1 e2
   rw [decide_eq_true e]at q
   have:=SeqAt.RcAt.lists (e:=fun _=>true) p1.isList p2.isList rfl hu (fun j h1 h2=>absurd h1 (Nat.not_lt_zero j))
   exact this X.prog X.w X.xe _ ⟨.bl true,H,I,rfl,q⟩
 · rw [decide_eq_false e]at q
   have ly':ws.length=0:=by rw [← ly];rfl
   have:=SeqAt.RcAt.lists_lengths p1.isList p2.isList (by simp;omega) hu
   exact this X.prog X.w X.xe _ ⟨.bl false,H,I,rfl,q⟩
end
end L2
namespace N53
open L2 N1 N5
theorem put_both{kvs:List (Key×V)}{ks:List Str}{z:Str}{v:V}(h:kvs.map (·.1)=ks.map Sum.inr):(putK kvs (Sum.inr z) v).map (·.1)=(if z∈ks then ks else ks++[z]).map Sum.inr:=by
 have hm:=key_mem (z:=z) h
 by_cases hz:z∈ks
 · rw [if_pos hz,← h]
   unfold putK
   rw [valV_any,hm,decide_eq_true hz,if_pos rfl,List.map_map]
   refine List.map_congr_left fun e _=>?_
   show (if e.1=Sum.inr z then (e.1,v) else e).1=e.1
   split <;> rfl
 · rw [if_neg hz,putK_new v (by rw [decide_eq_false hz]at hm;simpa using hm),List.map_append,List.map_append,h]
   rfl
end N53
namespace L2
section
variable {prog:Program} {w:World} {A:Around}
noncomputable abbrev newSet(led:Bool):Obj:={cls:= .type "set",dict:=none,data:= .set #[] 0 (.fresh 0 0 led)}
variable {E:Value→Shared→Prop} {s:Shared}
end
end L2
namespace L2
open N30
noncomputable def byT(w:World):Bool:=w.params.followText "set-order"
section
variable {prog:Program} {w:World} {K:Type} [DecidableEq K] (knd:PySem.KeyKind prog w K)
noncomputable def SetX(h:Heap)(a:Addr)(S:K→Bool)(n:Nat):Prop:=
 ∃o es ep t,h.get? a=some o∧o.ExactSet∧o.data= .set es ep t∧ElemsOf knd es.toList∧(∀k,S k=true↔∃e∈es.toList,knd.is k e.2=true)∧es.size < scanBound∧TabOk t es.size (!byT w)∧es.size=n
variable {knd} {A:Around} {E:Value→Shared→Prop} {s:Shared}
theorem SetX.at{h h':Heap}{a:Addr}{S:K→Bool}{n:Nat}(q:SetX knd h a S n)(k:∀o,h.get? a=some o→h'.get? a=some o):SetX knd h' a S n:=let ⟨o,es,ep,t,ho,r⟩:=q;⟨o,es,ep,t,k o ho,r⟩
theorem SetX.congr{h:Heap}{a:Addr}{S S':K→Bool}{n n':Nat}(q:SetX knd h a S n)(e:∀k,S k=S' k)(en:n=n'):SetX knd h a S' n':=by
 have:S=S':=funext e
 subst this;subst en;exact q
theorem putX{h:Heap}{a:Addr}{o:Obj}{es es':Array (Int×Value)}{ep:Nat}{t t':SetTable}{S':K→Bool}(ho:h.get? a=some o)(hex:o.ExactSet)(hd:o.data= .set es ep t)
 (hel:ElemsOf knd es'.toList) (hmem:∀k,S' k=true↔∃e∈es'.toList,knd.is k e.2=true) (hb:es'.size < scanBound) (T:TabOk t' es'.size (!byT w)):
 (h.update a (Obj.putSet es' t')).get? a=some {o with data:= .set es' (ep+1) t'}∧SetX knd (h.update a (Obj.putSet es' t')) a S' es'.size:=by
 obtain ⟨hg,_⟩:=SetOf_store (knd:=knd) ho hex hd hel hmem hb T.fit
 exact ⟨hg,_,es',ep+1,t',hg,hex,rfl,hel,hmem,hb,T,rfl⟩
theorem tailX{g:Bool→Sem Unit}(hg:∀(b:Bool) (s₁:Shared) (Q':Unit→Shared→Prop),Q' () s₁→wpAny (model prog w) A (g b) Q' E s₁){a:Addr}{o:Obj}{es:Array (Int×Value)}{ep:Nat}{t:SetTable}(ho:s.heap.get? a=some o)(hex:o.ExactSet)(hd:o.data= .set es ep t)
 {es1:Array (Int×Value)} {t2:SetTable} {S':K→Bool} (hel1:ElemsOf knd es1.toList) (hmem1:∀k',S' k'=true↔∃e∈es1.toList,knd.is k' e.2=true) (hb1:es1.size < scanBound) (T2:TabOk t2 es1.size (!byT w)) {wasDummy:Bool} {R:Option Bool→Shared→Prop}
 (h:∀h',Heap.SameBut a s.heap h'→SetX knd h' a S' es1.size→R (some true) {s with heap:=h'}):
 wpAny (model prog w) A (do
  storeSet a es1 t2
  if (!wasDummy && t2.tooFull)=true then do
      g (relayAll t2 es1 (SetTable.grown es1.size)).2.2
      storeSet a (relayAll t2 es1 (SetTable.grown es1.size)).1 (relayAll t2 es1 (SetTable.grown es1.size)).2.1
      pure (some true)
   else pure (some true)) R E s:=by
 refine wpAny_bind (wpAny_storeSet_of ho hd ?_ (fits_of_scanBound hb1))
 obtain ⟨ho1,q1⟩:=putX (knd:=knd) ho hex hd hel1 hmem1 hb1 T2
 have sb1:=Heap.SameBut.update s.heap a (Obj.putSet es1 t2)
 split
 · have hp:=relayAll_perm t2 es1 (SetTable.grown es1.size)
   have T3:=relayAll_ok T2 es1 (SetTable.grown es1.size)
   generalize relayAll t2 es1 (SetTable.grown es1.size)=Rl at hp T3 ⊢
   obtain ⟨es2,t3,gv⟩:=Rl
   dsimp only at hp T3 ⊢
   have sz:es2.size=es1.size:=by rw [← Array.length_toList,hp.length_eq,Array.length_toList]
   have hb2:es2.size < scanBound:=by rw [sz];exact hb1
   refine wpAny_bind (hg _ _ _ (wpAny_bind (wpAny_storeSet_of ho1 rfl ?_ (fits_of_scanBound hb2))))
   obtain ⟨_,q2⟩:=putX (knd:=knd) (S':=S') ho1 hex rfl (hel1.perm hp) (fun k'=>(hmem1 k').trans ⟨fun ⟨e,he,q⟩=>⟨e,hp.mem_iff.mpr he,q⟩,fun ⟨e,he,q⟩=>⟨e,hp.mem_iff.mp he,q⟩⟩) hb2 T3
   rw [sz]at q2
   exact wpAny_pure (h _ (sb1.trans (Heap.SameBut.update _ a _)) q2)
 · exact wpAny_pure (h _ sb1 q1)
theorem addX{a:Addr}{S:K→Bool}{n:Nat}{k:K}{x:Value}{Q:Bool→Shared→Prop}(hkey:knd.is k x=true)(hsc:x.scannable=true)(q:SetX knd s.heap a S n)(room:n+1 < scanBound)
 (h:∀h',Heap.SameBut a s.heap h'→SetX knd h' a (fun k'=>S k' || decide (k'=k)) (if S k then n else n+1)→Q (!S k) {s with heap:=h'}):wpAny (model prog w) A (setAddHashed a x (knd.hash k)) Q E s:=by
 obtain ⟨o,es,ep,t,ho,hex,hd,hel,hmem,hb,T,hn⟩:=q
 unfold setAddHashed setAddHashedIn
 refine wpAny_holding (wpAny_bind (wpAny_setState_of ho hd T.fit ?_))
 dsimp only
 rw [byScan_of hsc hb hel]
 simp only [↓reduceIte]
 unfold setAddByScan
 refine wpAny_bind (wpAny_bind (wpAny_rule (wpAny_bind (wpAny_setScan_of hkey ho hd T.fit hel ?_))))
 cases hr:List.findIdx? (fun e=>knd.is k e.2) es.toList with
 | some j=>
  dsimp only
  obtain ⟨hj,hpj,_⟩:=List.findIdx?_eq_some_iff_getElem.mp hr
  have hSk:S k=true:=(hmem k).mpr ⟨es.toList[j],List.getElem_mem hj,hpj⟩
  refine wpAny_pure (wpAny_pure ?_)
  have fin:=h s.heap (Heap.SameBut.refl a s.heap) ⟨o,es,ep,t,ho,hex,hd,hel,fun k'=>by
   rw [Bool.or_eq_true,decide_eq_true_eq,← hmem k']
   exact ⟨fun hk=>hk.elim id (fun e=>e▸hSk),.inl⟩,hb,T,by rw [hSk];exact hn⟩
  rw [hSk]at fin
  have e:s={s with heap:=s.heap}:=by cases s;rfl
  rw [e];exact fin
 | none=>
  dsimp only
  have hSk:S k=false:=by
   cases hk:S k with
   | false=>rfl
   | true=>
    obtain ⟨e,he,hp⟩:=(hmem k).mp hk
    have z:=List.findIdx?_eq_none_iff.mp hr e he
    rw [hp]at z;exact Bool.noConfusion z
  have hgw:∀(b:Bool) {s₁:Shared} {Q':Unit→Shared→Prop},Q' () s₁→wpAny (model prog w) A (match b with | true=>rule "set.scan.the-table-gave-way" | false=>pure ()) Q' E s₁:=fun b s₁ Q' hq=>by cases b <;> first | exact wpAny_pure hq | exact wpAny_rule hq
  have hperm:=layNew_perm t es (knd.hash k) x
  have T1:=layNew_ok T es (knd.hash k) x
  generalize layNew t es (knd.hash k) x=L at hperm T1 ⊢
  obtain ⟨es1,t1,wd,gv⟩:=L
  dsimp only at hperm T1 ⊢
  rw [Array.toList_push]at hperm
  have hel1:ElemsOf knd es1.toList:=(hel.push hkey hsc).perm hperm
  have hmem1:∀k',(S k' || decide (k'=k))=true↔∃e∈es1.toList,knd.is k' e.2=true:=mem_push_iff hkey hmem hperm
  have hs1:es1.size=n+1:=by rw [← Array.length_toList,hperm.length_eq,List.length_append,Array.length_toList,hn];rfl
  have hb1:es1.size < scanBound:=by rw [hs1];exact room
  refine wpAny_bind (hgw _ ?_)
  have fin:∀h',Heap.SameBut a s.heap h'→SetX knd h' a (fun k'=>S k' || decide (k'=k)) es1.size→Q true {s with heap:=h'}:=fun h' sb q'=>by
   have z:=h h' sb
   rw [hSk]at z;rw [hs1]at q';exact z q'
  split
  · refine wpAny_bind ?_
    rw [hashByValue_scannable 8 hsc]
    refine wpAny_pure (tailX ?_ ho hex hd hel1 hmem1 hb1 ?_ ?_)
    · intro b s₁ Q' hq;cases b <;> first | exact wpAny_pure hq | exact wpAny_rule hq
    · split
      · exact T1
      · exact plain_off T1
    · intro h' sb q';dsimp only;exact wpAny_pure (fin h' sb q')
  · refine wpAny_bind (wpAny_pure ?_)
    simp only [↓reduceIte]
    refine tailX ?_ ho hex hd hel1 hmem1 hb1 T1 ?_
    · intro b s₁ Q' hq;cases b <;> first | exact wpAny_pure hq | exact wpAny_rule hq
    · intro h' sb q';dsimp only;exact wpAny_pure (fin h' sb q')
theorem newX(a:Value){Q₁:Value→Shared→Prop}(h:Q₁ (.ref s.heap.objs.size) {s with heap:=s.heap.push (newSet (!byT w))}):
 codeAny (model prog w) A (.call (.builtin "set.__new__") ⟨[.type "set",a],[]⟩) (wants Q₁ E) s:=by
 refine codeAny_of_tree ?_
 show wpAny _ A.in1 (do checkBuiltinCall "set.__new__" ⟨[.type "set",a],[]⟩;again (.builtin "set.__new__" ⟨[.type "set",a],[]⟩)) _ _ s
 refine wpAny_bind (wpAny_of_eq (F.newCall_set_1 a) (wpAny_pure ⟨plainId_quiet F.plain_set_new _,codeAny_builtin F.entry_set_new ?_⟩))
 rw [Around.under_plainId F.plain_set_new _]
 unfold Builtin.«set.__new__» Builtin.Frozenset.newClass
 have hsub:=sub_set_self
 obtain ⟨hp,g,d,tk,os⟩:=s
 dsimp only
 wp_walk
 refine wpAny_askSetting (wpAny_pure ?_)
 dsimp only
 simp only [newObj]
 exact wpAny_bind (wpAny_alloc (wpAny_pure (wpAny_pure h)))
end
theorem slot_si_next:Slot "set_iterator" "__next__" "set_iterator.__next__":=
 .of (owner:="set_iterator") (n:="__next__") (by rw [typeLookup_type,builtinLookup_eq_fast];kernel_rfl) (by decide+kernel) (by decide+kernel) (by decide+kernel)
  (by first | exact .inl (by decide+kernel) | exact .inr (by decide+kernel)) (by rw [isSubtype_type];kernel_rfl)
theorem entry_si_next:entryFor table "set_iterator.__next__"=some Builtin.«set_iterator.__next__»:=entryFor_of_tree (by kernel_rfl)
theorem args_si_next(a:Value):argsOk "set_iterator.__next__" ⟨[a],[]⟩:=by unfold argsOk;kernel_rfl
theorem slot_si_iter:Slot "set_iterator" "__iter__" "set_iterator.__iter__":=
 .of (owner:="set_iterator") (n:="__iter__") (by rw [typeLookup_type,builtinLookup_eq_fast];kernel_rfl) (by decide+kernel) (by decide+kernel) (by decide+kernel)
  (by first | exact .inl (by decide+kernel) | exact .inr (by decide+kernel)) (by rw [isSubtype_type];kernel_rfl)
theorem entry_si_iter:entryFor table "set_iterator.__iter__"=some Builtin.«dict_keyiterator.__iter__»:=entryFor_alias (id':="dict_keyiterator.__iter__") (by kernel_rfl) rfl (by decide+kernel) (by kernel_rfl)
theorem args_si_iter(a:Value):argsOk "set_iterator.__iter__" ⟨[a],[]⟩:=by unfold argsOk;kernel_rfl
theorem entry_set_iter:entryFor table "set.__iter__"=some Builtin.«frozenset.__iter__»:=entryFor_alias (id':="frozenset.__iter__") (by kernel_rfl) rfl (by decide+kernel) (by kernel_rfl)
noncomputable def SetIt(h:Heap)(I:Addr)(f:Value)(i:Nat)(a:Addr)(n ep:Nat):Prop:=∃o,h.get? I=some o∧o.cls= .type "set_iterator"∧o.data= .fields #[f,.int i 0,.ref a,.int n 0,.int ep 0]
theorem SetIt.at{h h':Heap}{I a:Addr}{f:Value}{i n ep:Nat}(q:SetIt h I f i a n ep)(k:∀o,h.get? I=some o→h'.get? I=some o):SetIt h' I f i a n ep:=let ⟨o,ho,r⟩:=q;⟨o,k o ho,r⟩
noncomputable def SetRaw(h:Heap)(a:Addr)(es:Array (Int×Value))(ep:Nat)(t:SetTable):Prop:=∃o,h.get? a=some o∧o.ExactSet∧o.data= .set es ep t
theorem SetRaw.at{h h':Heap}{a:Addr}{es:Array (Int×Value)}{ep:Nat}{t:SetTable}(q:SetRaw h a es ep t)(k:∀o,h.get? a=some o→h'.get? a=some o):SetRaw h' a es ep t:=let ⟨o,ho,r⟩:=q;⟨o,k o ho,r⟩
section
variable {prog:Program} {w:World} {A:Around} {E:Value→Shared→Prop} {s:Shared} {a I:Addr} {es:Array (Int×Value)} {ep:Nat} {t:SetTable} {f:Value} {i n:Nat}
theorem byText_go{Q:Bool→Shared→Prop}(h:Q (byT w) s):wpAny (model prog w) A setsByText Q E s:=by
 unfold setsByText
 exact wpAny_bind (wpAny_askSetting (wpAny_pure h))
theorem next_text{slot:Nat}{Q:Option (Value×Nat)→Shared→Prop}(hr:SetRaw s.heap a es ep t)(hf:t.fits es.size=true)(hb:byT w=true)(h:Q (((pickOrder (w.params.setOrder a ep) es)[i]?).map fun e=>(e.2,slot)) s):wpAny (model prog w) A (setNext a slot i ep) Q E s:=by
 obtain ⟨o,ho,hx,hd⟩:=hr
 unfold setNext
 refine wpAny_bind (wpAny_setState_of ho hd hf (wpAny_bind (byText_go ?_)))
 rw [hb]
 simp only [if_true]
 rw [if_neg (by simp)]
 refine wpAny_bind ?_
 unfold setWalk
 refine wpAny_bind (wpAny_setState_of ho hd hf (wpAny_bind (byText_go ?_)))
 rw [hb]
 simp only [if_true]
 exact wpAny_bind (wpAny_askSetting (wpAny_pure (wpAny_pure h)))
theorem next_slot{slot:Nat}{Q:Option (Value×Nat)→Shared→Prop}(hr:SetRaw s.heap a es ep t)(hf:t.fits es.size=true)(hb:byT w=false)(hl:t.led=true)(hn:(!t.plain && decide (es.size > 1))=false)
 (h:Q (match es[SetTable.below t.place slot]?,t.place[SetTable.below t.place slot]? with | some (_,x),some j=>some (x,j+1) | _,_=>none) s):wpAny (model prog w) A (setNext a slot i ep) Q E s:=by
 obtain ⟨o,ho,hx,hd⟩:=hr
 unfold setNext
 refine wpAny_bind (wpAny_setState_of ho hd hf (wpAny_bind (byText_go ?_)))
 rw [hb]
 simp only [Bool.false_eq_true,if_false]
 refine wpAny_ite_split (fun hc=>absurd (hn.symm.trans (show (!t.plain && decide (es.size > 1))=true from hc)) Bool.false_ne_true) fun _=>?_
 refine wpAny_bind ?_
 show wpAny _ _ (if (!t.led && !es.isEmpty)=true then unsupported _ else pure ()) _ _ _
 rw [hl,if_neg (by simp)]
 exact wpAny_pure (wpAny_pure h)
end
end L2
namespace L2
open N30
section
variable {prog:Program} {w:World} {A:Around} {E:Value→Shared→Prop} {s:Shared} {a I:Addr} {es:Array (Int×Value)} {ep:Nat} {t:SetTable} {f:Value} {i n:Nat}
theorem SetIt.typeIs(q:SetIt s.heap I f i a n ep):s.TypeIs (.ref I) "set_iterator":=let ⟨o,ho,hc,_⟩:=q;⟨o,ho,hc⟩
theorem it_self{Q:Value→Shared→Prop}(q:SetIt s.heap I f i a n ep)(h:Q (.ref I) s):wpAny (model prog w) A (pyIter (.ref I)) Q E s:=by
 refine wpAny_pyIter_slot q.typeIs slot_si_iter (wpAny_call_entry slot_si_iter q.typeIs entry_si_iter ?_ (args_si_iter _))
 show wpAny _ _ (ret (.ref I)) _ _ s
 exact wpAny_pure ⟨_,rfl,"set_iterator",_,q.typeIs,slot_si_next.lookup,h⟩
theorem it_item{slot next:Nat}{x:Value}{Q:Option Value→Shared→Prop}(q:SetIt s.heap I (.int slot 0) i a es.size ep)(hr:SetRaw s.heap a es ep t)(hf:t.fits es.size=true)
 (hnx:∀(A:Around) (E:Value→Shared→Prop) (Q':Option (Value×Nat)→Shared→Prop),Q' (some (x,next)) s→wpAny (model prog w) A (setNext a slot i ep) Q' E s)
 (hQ:∀h',SetIt h' I (.int next 0) (i+1) a es.size ep→Heap.SameBut I s.heap h'→Q (some x) {s with heap:=h'}):wpAny (model prog w) A (pyNext (.ref I)) Q E s:=by
 obtain ⟨o,ho,hc,hd⟩:=id q
 obtain ⟨oa,hoa,hxa,hda⟩:=id hr
 unfold pyNext
 refine wpAny_bind (wpAny_attempt (wpAny_callSpecial?_slot (name:=Str.ofString "__next__") q.typeIs slot_si_next (wpAny_call_entry slot_si_next q.typeIs entry_si_next ?_ (args_si_next _))))
 unfold Builtin.«set_iterator.__next__»
 refine wpAny_bind (m:=slotArgs "__next__" 0 _) (wpAny_pure ?_)
 refine wpAny_bind (wpAny_fieldsOf ho hd ?_)
 try dsimp only
 refine wpAny_bind (wpAny_setEntries_of hoa hda hf ?_)
 rw [if_neg (by simp)]
 try dsimp only
 refine wpAny_bind (hnx _ _ _ ?_)
 try dsimp only
 refine wpAny_bind (wpAny_setField ho hd (by simp) ?_)
 have ho1:=Heap.get?_update_self (Obj.mapFields (·.setIfInBounds 0 (rawInt next))) ho (Obj.isFreed_of_fields (Obj.data_mapFields hd _))
 have hd1:=Obj.data_mapFields hd (·.setIfInBounds 0 (rawInt next))
 refine wpAny_bind (wpAny_setField ho1 hd1 (by simp) ?_)
 have hit':((s.heap.update I (Obj.mapFields (·.setIfInBounds 0 (rawInt next)))).update I (Obj.mapFields (·.setIfInBounds 1 (rawInt ((i:Int)+1))))).get? I=_:=Heap.get?_update_self _ ho1 (Obj.isFreed_of_fields (Obj.data_mapFields hd1 _))
 refine wpAny_pure ⟨_,rfl,wpAny_pure (hQ _ ⟨_,hit',(Obj.cls_mapFields ..).trans ((Obj.cls_mapFields ..).trans hc),by rw [Obj.data_mapFields hd1];simp [rawInt]⟩ ((Heap.SameBut.update ..).trans (Heap.SameBut.update ..)))⟩
theorem it_end{slot:Nat}{Q:Option Value→Shared→Prop}(hh:A.handled=none)(q:SetIt s.heap I (.int slot 0) i a es.size ep)(hr:SetRaw s.heap a es ep t)(hf:t.fits es.size=true)
 (hnx:∀(A:Around) (E:Value→Shared→Prop) (Q':Option (Value×Nat)→Shared→Prop),Q' none s→wpAny (model prog w) A (setNext a slot i ep) Q' E s)
 (hQ:∀h',Heap.ExtBut I s.heap h'→Q none {s with heap:=h'}):wpAny (model prog w) A (pyNext (.ref I)) Q E s:=by
 obtain ⟨o,ho,hc,hd⟩:=id q
 obtain ⟨oa,hoa,hxa,hda⟩:=id hr
 unfold pyNext
 refine wpAny_bind (wpAny_attempt (wpAny_callSpecial?_slot (name:=Str.ofString "__next__") q.typeIs slot_si_next (wpAny_call_entry slot_si_next q.typeIs entry_si_next ?_ (args_si_next _))))
 unfold Builtin.«set_iterator.__next__»
 refine wpAny_bind (m:=slotArgs "__next__" 0 _) (wpAny_pure ?_)
 refine wpAny_bind (wpAny_fieldsOf ho hd ?_)
 dsimp only
 refine wpAny_bind (wpAny_setEntries_of hoa hda hf ?_)
 rw [if_neg (by simp)]
 refine wpAny_bind (hnx _ _ _ ?_)
 dsimp only
 refine wpAny_bind (wpAny_setField ho hd (by simp) ?_)
 refine wpAny_bind ?_
 simp only [newExc,newTuple]
 refine wpAny_bind (wpAny_newObj_type ?_ (by size_fits))
 refine wpAny_bind (m:=firstArgMember _ _) (wpAny_of_eq (a:=Value.none) (by first | rfl | (simp only [firstArgMember];rfl)) ?_)
 refine wpAny_newObj_type ?_ (by size_fits)
 simp only [raiseNew]
 refine wpAny_bind (wpAny_handled ?_)
 rw [show A.in1.handled=none from hh]
 refine wpAny_bind (wpAny_pure (wpAny_throw ?_))
 refine wpAny_bind (wpAny_isInstance (T:="StopIteration") (b:=true) ⟨_,Heap.get?_push_size _ rfl,rfl⟩ isSubtype_stop ?_)
 exact wpAny_pure (hQ _ (((Heap.SameBut.update ..).extBut.push _).push _))
noncomputable def PlacesAt(h:Heap)(J:Addr)(ps:List Nat):Prop:=∃o m,h.get? J=some o∧o.data= .seq (ps.map fun (p:Nat)=>rawInt p).toArray m
theorem PlacesAt.at{h h':Heap}{J:Addr}{ps:List Nat}(q:PlacesAt h J ps)(k:∀o,h.get? J=some o→h'.get? J=some o):PlacesAt h' J ps:=let ⟨o,m,ho,r⟩:=q;⟨o,m,k o ho,r⟩
theorem dr_item{J:Addr}{ps:List Nat}{p:Nat}{e:Int×Value}{Q:Option Value→Shared→Prop}(q:SetIt s.heap I (.ref J) i a es.size ep)(hr:SetRaw s.heap a es ep t)(hf:t.fits es.size=true)(hp:PlacesAt s.heap J ps)(hi:ps[i]?=some p)(he:es[p]?=some e)
 (hQ:∀h',SetIt h' I (.ref J) (i+1) a es.size ep→Heap.SameBut I s.heap h'→Q (some e.2) {s with heap:=h'}):wpAny (model prog w) A (pyNext (.ref I)) Q E s:=by
 obtain ⟨o,ho,hc,hd⟩:=id q
 obtain ⟨oa,hoa,hxa,hda⟩:=id hr
 obtain ⟨oj,mj,hoj,hdj⟩:=hp
 unfold pyNext
 refine wpAny_bind (wpAny_attempt (wpAny_callSpecial?_slot (name:=Str.ofString "__next__") q.typeIs slot_si_next (wpAny_call_entry slot_si_next q.typeIs entry_si_next ?_ (args_si_next _))))
 unfold Builtin.«set_iterator.__next__»
 refine wpAny_bind (m:=slotArgs "__next__" 0 _) (wpAny_pure ?_)
 refine wpAny_bind (wpAny_fieldsOf ho hd ?_)
 dsimp only
 refine wpAny_bind (wpAny_setEntries_of hoa hda hf ?_)
 rw [if_neg (by simp)]
 refine wpAny_bind (wpAny_seqItems hoj hdj ?_)
 have hg:((ps.map fun (p:Nat)=>rawInt p).toArray)[((i:Nat):Int).toNat]?=some (.int p 0):=by
  rw [Int.toNat_natCast,List.getElem?_toArray,List.getElem?_map,hi];rfl
 dsimp only
 rw [hg]
 dsimp only
 refine wpAny_bind ?_
 unfold setNextDrawn
 refine wpAny_bind (wpAny_setState_of hoa hda hf ?_)
 dsimp only
 rw [if_neg (by simp)]
 rw [Int.toNat_natCast,he]
 obtain ⟨e1,e2⟩:=e
 refine wpAny_pure ?_
 refine wpAny_bind (wpAny_setField ho hd (by simp) ?_)
 have hit':(s.heap.update I (Obj.mapFields (·.setIfInBounds 1 (rawInt ((i:Int)+1))))).get? I=_:=Heap.get?_update_self _ ho (Obj.isFreed_of_fields (Obj.data_mapFields hd _))
 refine wpAny_pure ⟨_,rfl,wpAny_pure (hQ _ ⟨_,hit',(Obj.cls_mapFields ..).trans hc,by rw [Obj.data_mapFields hd];simp [rawInt]⟩ (Heap.SameBut.update ..))⟩
theorem dr_end{J:Addr}{ps:List Nat}{Q:Option Value→Shared→Prop}(hh:A.handled=none)(q:SetIt s.heap I (.ref J) i a es.size ep)(hr:SetRaw s.heap a es ep t)(hf:t.fits es.size=true)(hp:PlacesAt s.heap J ps)(hi:ps[i]?=none)
 (hQ:∀h',Heap.ExtBut I s.heap h'→Q none {s with heap:=h'}):wpAny (model prog w) A (pyNext (.ref I)) Q E s:=by
 obtain ⟨o,ho,hc,hd⟩:=id q
 obtain ⟨oa,hoa,hxa,hda⟩:=id hr
 obtain ⟨oj,mj,hoj,hdj⟩:=hp
 unfold pyNext
 refine wpAny_bind (wpAny_attempt (wpAny_callSpecial?_slot (name:=Str.ofString "__next__") q.typeIs slot_si_next (wpAny_call_entry slot_si_next q.typeIs entry_si_next ?_ (args_si_next _))))
 unfold Builtin.«set_iterator.__next__»
 refine wpAny_bind (m:=slotArgs "__next__" 0 _) (wpAny_pure ?_)
 refine wpAny_bind (wpAny_fieldsOf ho hd ?_)
 dsimp only
 refine wpAny_bind (wpAny_setEntries_of hoa hda hf ?_)
 rw [if_neg (by simp)]
 refine wpAny_bind (wpAny_seqItems hoj hdj ?_)
 have hg:((ps.map fun (p:Nat)=>rawInt p).toArray)[((i:Nat):Int).toNat]?=none:=by
  rw [Int.toNat_natCast,List.getElem?_toArray,List.getElem?_map,hi];rfl
 dsimp only
 rw [hg]
 dsimp only
 refine wpAny_bind (wpAny_setField ho hd (by simp) ?_)
 have ho1:=Heap.get?_update_self (Obj.mapFields (·.setIfInBounds 0 (rawInt 0))) ho (Obj.isFreed_of_fields (Obj.data_mapFields hd _))
 have hd1:=Obj.data_mapFields hd (·.setIfInBounds 0 (rawInt 0))
 refine wpAny_bind (wpAny_setField ho1 hd1 (by simp) ?_)
 refine wpAny_bind ?_
 simp only [newExc,newTuple]
 refine wpAny_bind (wpAny_newObj_type ?_ (by size_fits))
 refine wpAny_bind (m:=firstArgMember _ _) (wpAny_of_eq (a:=Value.none) (by first | rfl | (simp only [firstArgMember];rfl)) ?_)
 refine wpAny_newObj_type ?_ (by size_fits)
 simp only [raiseNew]
 refine wpAny_bind (wpAny_handled ?_)
 rw [show A.in1.handled=none from hh]
 refine wpAny_bind (wpAny_pure (wpAny_throw ?_))
 refine wpAny_bind (wpAny_isInstance (T:="StopIteration") (b:=true) ⟨_,Heap.get?_push_size _ rfl,rfl⟩ isSubtype_stop ?_)
 exact wpAny_pure (hQ _ ((((Heap.SameBut.update ..).trans (Heap.SameBut.update ..)).extBut.push _).push _))
theorem choose_go{src:Source}{n:Nat}{Q:Nat→Shared→Prop}(hn:n≠0)(h:∀i d,i < n→Q i {s with drawn:=d}):wpAny (model prog w) A (choose src n) Q E s:=fun Γ p hp=>⟨hn,h _ _ (Nat.mod_lt _ (Nat.pos_of_ne_zero hn))⟩
theorem draw_go{α:Type}:∀(n:Nat) (xs:List α) (s:Shared) (Q:List α→Shared→Prop),n=xs.length→(∀ys d,ys.Perm xs→Q ys {s with drawn:=d})→wpAny (model prog w) A (drawOrder n xs) Q E s:=by
 intro n
 induction n with
 | zero=>
  intro xs s Q e h
  have:xs=[]:=List.length_eq_zero_iff.mp e.symm
  subst this
  unfold drawOrder
  exact wpAny_pure (h [] s.drawn .rfl)
 | succ n ih=>
  intro xs s Q e h
  cases xs with
  | nil=>cases e
  | cons x r=>
   unfold drawOrder
   refine wpAny_bind (choose_go (by simp) fun i d hi=>?_)
   rw [List.getElem?_eq_getElem hi]
   dsimp only
   refine wpAny_bind (ih _ _ _ (by rw [List.length_eraseIdx_of_lt hi];omega) fun ys d' hp=>wpAny_pure ?_)
   exact h _ d' ((hp.cons _).trans (erase_perm _ i hi))
end
end L2
namespace L2
open N30
section
variable {prog:Program} {w:World} {A:Around} {E:Value→Shared→Prop} {s:Shared} {a I:Addr} {es:Array (Int×Value)} {ep:Nat} {t:SetTable}
theorem walk_text(hh:A.handled=none)(hb:byT w=true)(hf:t.fits es.size=true)(hne:a≠I):
 Walks prog w A I [I,a] [I] es.size (fun i v=>((pickOrder (w.params.setOrder a ep) es).toList.map (·.2))[i]?=some v) (fun i h=>SetIt h I (.int ((0:Nat):Int) 0) i a es.size ep∧SetRaw h a es ep t) where
 sub:=fun b hb=>by simp at hb;simp [hb]
 frame:=fun _ _ _ st hk=>⟨st.1.at fun o e=>hk I (by simp) o e,st.2.at fun o e=>hk a (by simp) o e⟩
 item:=fun i s Q E hi st hQ=>by
  have hl:i < (pickOrder (w.params.setOrder a ep) es).toList.length:=by rw [(pick_perm _ es).length_eq,Array.length_toList];exact hi
  have hg:(pickOrder (w.params.setOrder a ep) es)[i]?=some (pickOrder (w.params.setOrder a ep) es).toList[i]:=by rw [← Array.getElem?_toList,List.getElem?_eq_getElem hl]
  refine it_item (slot:=0) (next:=0) (x:=(pickOrder (w.params.setOrder a ep) es).toList[i].2) st.1 st.2 hf (fun A E Q' hq=>next_text st.2 hf hb (by rw [hg];exact hq)) fun h' it' sb=>?_
  refine hQ _ h' s.toks (by rw [List.getElem?_map,List.getElem?_eq_getElem hl];rfl) ⟨it',st.2.at fun o e=>sb.extBut a o hne e⟩ fun b o hb e=>sb.extBut b o (fun z=>hb (by simp [z])) e
 done:=fun s Q E st hQ=>by
   have hg:(pickOrder (w.params.setOrder a ep) es)[es.size]?=none:=by
    rw [← Array.getElem?_toList]
    exact List.getElem?_eq_none (by rw [(pick_perm _ es).length_eq,Array.length_toList];exact Nat.le_refl _)
   exact it_end (slot:=0) hh st.1 st.2 hf (fun A E Q' hq=>next_text st.2 hf hb (by rw [hg];exact hq)) fun h' he=>hQ h' s.toks fun b o hb e=>he b o (fun z=>hb (by simp [z])) e
 self:=fun _ _ _ _ st hQ=>it_self st.1 hQ
noncomputable def slotAt(t:SetTable)(i:Nat):Nat:=if i=0 then 0 else t.place.getD (i - 1) 0+1
theorem slot_below(hr:Ris t.place.toList){i:Nat}(hi:i≤t.place.size):SetTable.below t.place (slotAt t i)=i:=by
 have mono:∀i k x y,i < k→t.place.toList[i]?=some x→t.place.toList[k]?=some y→x < y:=fun i k x y ik hx hy=>by
  obtain ⟨li,ei⟩:=List.getElem?_eq_some_iff.mp hx
  obtain ⟨lk,ek⟩:=List.getElem?_eq_some_iff.mp hy
  rw [← ei,← ek]
  exact (List.pairwise_iff_getElem.mp hr) i k li lk ik
 refine below_at hr hi (fun j x hj hx=>?_) fun j x hj hx=>?_
 · unfold slotAt
   rw [if_neg (by omega)]
   have l:i - 1 < t.place.size:=by omega
   have hg:t.place.toList[i - 1]?=some (t.place.getD (i - 1) 0):=by rw [Array.getElem?_toList,Array.getD_eq_getD_getElem?,Array.getElem?_eq_getElem l];rfl
   by_cases e:j=i - 1
   · subst e;rw [hg]at hx;cases hx;omega
   · have:=mono j (i - 1) x _ (by omega) hx hg
     omega
 · unfold slotAt
   by_cases e0:i=0
   · rw [if_pos e0];exact Nat.zero_le _
   · rw [if_neg e0]
     have l:i - 1 < t.place.size:=by omega
     have hg:t.place.toList[i - 1]?=some (t.place.getD (i - 1) 0):=by rw [Array.getElem?_toList,Array.getD_eq_getD_getElem?,Array.getElem?_eq_getElem l];rfl
     exact mono (i - 1) j _ x (by omega) hg hx
theorem walk_slot(hh:A.handled=none)(hb:byT w=false)(hf:t.fits es.size=true)(hl:t.led=true)(hn:(!t.plain && decide (es.size > 1))=false)(hr:Ris t.place.toList)(hne:a≠I):
 Walks prog w A I [I,a] [I] es.size (fun i v=>(es.toList.map (·.2))[i]?=some v) (fun i h=>SetIt h I (.int ((slotAt t i:Nat):Int) 0) i a es.size ep∧SetRaw h a es ep t) where
 sub:=fun b hb=>by simp at hb;simp [hb]
 frame:=fun _ _ _ st hk=>⟨st.1.at fun o e=>hk I (by simp) o e,st.2.at fun o e=>hk a (by simp) o e⟩
 item:=fun i s Q E hi st hQ=>by
  have hz:t.place.size=es.size:=by simp only [SetTable.fits,Bool.and_eq_true,beq_iff_eq]at hf;exact hf.1
  have hb':=slot_below hr (i:=i) (by omega)
  have hp:t.place[i]?=some (t.place.getD i 0):=by rw [Array.getD_eq_getD_getElem?,Array.getElem?_eq_getElem (by omega)];rfl
  have he:es[i]?=some es[i]:=Array.getElem?_eq_getElem hi
  refine it_item (slot:=slotAt t i) (next:=slotAt t (i+1)) (x:=es[i].2) st.1 st.2 hf (fun A E Q' hq=>next_slot st.2 hf hb hl hn (by rw [hb',hp,he];exact hq)) fun h' it' sb=>?_
  refine hQ _ h' s.toks (by rw [List.getElem?_map,Array.getElem?_toList,he];rfl) ⟨it',st.2.at fun o e=>sb.extBut a o hne e⟩ fun b o hb e=>sb.extBut b o (fun z=>hb (by simp [z])) e
 done:=fun s Q E st hQ=>by
   have hz:t.place.size=es.size:=by simp only [SetTable.fits,Bool.and_eq_true,beq_iff_eq]at hf;exact hf.1
   have hb':=slot_below hr (i:=es.size) (by omega)
   have he:es[es.size]?=none:=Array.getElem?_eq_none (Nat.le_refl _)
   exact it_end (slot:=slotAt t es.size) hh st.1 st.2 hf (fun A E Q' hq=>next_slot st.2 hf hb hl hn (by rw [hb',he];exact hq)) fun h' he=>hQ h' s.toks fun b o hb e=>he b o (fun z=>hb (by simp [z])) e
 self:=fun _ _ _ _ st hQ=>it_self st.1 hQ
noncomputable def atP(es:Array (Int×Value))(p:Nat):Value:=((es[p]?).map (·.2)).getD .none
theorem atP_range:(List.range es.size).map (atP es)=es.toList.map (·.2):=by
 apply List.ext_getElem?
 intro i
 rw [List.getElem?_map,List.getElem?_map]
 by_cases h:i < es.size
 · rw [List.getElem?_range h,show es.toList[i]?=es[i]? from Array.getElem?_toList]
   show some (atP es i)=_
   unfold atP
   rw [Array.getElem?_eq_getElem h];rfl
 · rw [List.getElem?_eq_none (l:=List.range es.size) (by rw [List.length_range];omega),List.getElem?_eq_none (l:=es.toList) (by rw [Array.length_toList];omega)];rfl
theorem walk_drawn(hh:A.handled=none)(hf:t.fits es.size=true){J:Addr}{ps:List Nat}(hp:ps.Perm (List.range es.size))(hne:a≠I)(hnJ:J≠I):
 Walks prog w A I [I,a,J] [I] es.size (fun i v=>(ps.map (atP es))[i]?=some v) (fun i h=>SetIt h I (.ref J) i a es.size ep∧SetRaw h a es ep t∧PlacesAt h J ps) where
 sub:=fun b hb=>by simp at hb;simp [hb]
 frame:=fun _ _ _ st hk=>⟨st.1.at fun o e=>hk I (by simp) o e,st.2.1.at fun o e=>hk a (by simp) o e,st.2.2.at fun o e=>hk J (by simp) o e⟩
 item:=fun i s Q E hi st hQ=>by
  have hl:i < ps.length:=by rw [hp.length_eq,List.length_range];exact hi
  have hm:ps[i] < es.size:=List.mem_range.mp (hp.mem_iff.mp (List.getElem_mem hl))
  have he:es[ps[i]]?=some es[ps[i]]:=Array.getElem?_eq_getElem hm
  refine dr_item (e:=es[ps[i]]) st.1 st.2.1 hf st.2.2 (List.getElem?_eq_getElem hl) he fun h' it' sb=>?_
  refine hQ _ h' s.toks ?_ ⟨it',st.2.1.at fun o e=>sb.extBut a o hne e,st.2.2.at fun o e=>sb.extBut J o hnJ e⟩ fun b o hb e=>sb.extBut b o (fun z=>hb (by simp [z])) e
  rw [List.getElem?_map,List.getElem?_eq_getElem hl]
  show some (atP es ps[i])=_
  unfold atP
  rw [he];rfl
 done:=fun s Q E st hQ=>dr_end hh st.1 st.2.1 hf st.2.2 (List.getElem?_eq_none (by rw [hp.length_eq,List.length_range];exact Nat.le_refl _)) fun h' he=>hQ h' s.toks fun b o hb e=>he b o (fun z=>hb (by simp [z])) e
 self:=fun _ _ _ _ st hQ=>it_self st.1 hQ
theorem SetRaw.typeIs(q:SetRaw s.heap a es ep t):s.TypeIs (.ref a) "set":=let ⟨o,ho,hx,_⟩:=q;⟨o,ho,hx.1⟩
theorem iterX{Q:Value→Shared→Prop}(hr:SetRaw s.heap a es ep t)(T:TabOk t es.size (!byT w))(hz:es.size≤sizeLine)
 (h:∀(out:List Value) (I:Addr) (fp:List Addr) (St:Nat→Heap→Prop) (h':Heap) (d':Drawn),out.Perm (es.toList.map (·.2))→s.heap.objs.size≤I→(∀b∈fp,b=a∨s.heap.objs.size≤b)→(∀b o,s.heap.get? b=some o→h'.get? b=some o)→
  (∀A':Around,A'.handled=none→Walks prog w A' I fp [I] es.size (fun i v=>out[i]?=some v) St)→St 0 h'→Q (.ref I) {s with heap:=h',drawn:=d'}):wpAny (model prog w) A (pyIter (.ref a)) Q E s:=by
 obtain ⟨o,ho,hx,hd⟩:=id hr
 have hf:=T.fit
 have lt:=Heap.lt_size ho
 refine wpAny_pyIter_slot hr.typeIs F.slot_set_iter (wpAny_call_entry F.slot_set_iter hr.typeIs entry_set_iter ?_ (F.args_set_iter_1 _))
 unfold Builtin.«frozenset.__iter__» Builtin.Frozenset.slot0
 refine wpAny_bind (wpAny_bind (m:=slotArgs "__iter__" 0 _) (wpAny_pure (wpAny_pure ?_)))
 unfold Builtin.Frozenset.sizeOf
 refine wpAny_bind (wpAny_bind (wpAny_setEntries_of ho hd hf (wpAny_pure ?_)))
 have dn:∀(A:Around) (E:Value→Shared→Prop) (Q':Bool→Shared→Prop),Q' (!byT w && (!t.plain && decide (es.size > 1))) s→wpAny (model prog w) A (setDrawn a) Q' E s:=fun A E Q' hq=>by
  unfold setDrawn
  exact wpAny_bind (wpAny_setState_of ho hd hf (wpAny_bind (byText_go (wpAny_pure hq))))
 refine wpAny_bind (dn _ _ _ ?_)
 by_cases c:(!byT w && (!t.plain && decide (es.size > 1)))=true
 · rw [if_pos c]
   refine wpAny_bind (draw_go _ _ _ _ (List.length_range).symm fun ps d' hp=>?_)
   refine wpAny_bind (wpAny_newTuple ?_ (by rw [List.length_map,hp.length_eq,List.length_range];exact hz))
   have ho1:=Heap.get?_push_of_some {cls:= .type "tuple",data:= .seq (ps.map fun (p:Nat)=>rawInt p).toArray} ho
   refine wpAny_bind ?_
   unfold setEpoch
   refine wpAny_bind (wpAny_setState_of ho1 hd hf (wpAny_pure ?_))
   refine wpAny_bind (wpAny_newObj_type (wpAny_pure ⟨_,rfl,"set_iterator",_,⟨_,Heap.get?_push_size _ rfl,rfl⟩,slot_si_next.lookup,?_⟩))
   have sz:(s.heap.push {cls:= .type "tuple",data:= .seq (ps.map fun (p:Nat)=>rawInt p).toArray}).objs.size=s.heap.objs.size+1:=Heap.size_push ..
   refine h (ps.map (atP es)) _ [_,a,s.heap.objs.size] _ _ d' (by rw [← atP_range];exact hp.map _) (by rw [sz];exact Nat.le_succ _) (fun b hb=>?_) (fun b o e=>Heap.get?_push_of_some _ (Heap.get?_push_of_some _ e)) (fun A' h'=>walk_drawn (t:=t) (ep:=ep) h' hf hp (Nat.ne_of_lt (by rw [sz];exact Nat.lt_succ_of_lt lt)) (Nat.ne_of_lt (by rw [sz];exact Nat.lt_succ_self _))) ⟨⟨_,Heap.get?_push_size _ rfl,rfl,by simp [rawInt]⟩,⟨o,Heap.get?_push_of_some _ ho1,hx,hd⟩,⟨_,_,Heap.get?_push_of_some _ (Heap.get?_push_size _ rfl),rfl⟩⟩
   rcases List.mem_cons.mp hb with e | hb
   · right;rw [e,sz];exact Nat.le_succ _
   · rcases List.mem_cons.mp hb with e | hb
     · exact .inl e
     · right;rw [List.mem_singleton.mp hb];exact Nat.le_refl _
 · rw [if_neg c]
   refine wpAny_bind (wpAny_pure ?_)
   refine wpAny_bind ?_
   unfold setEpoch
   refine wpAny_bind (wpAny_setState_of ho hd hf (wpAny_pure ?_))
   refine wpAny_bind (wpAny_newObj_type (wpAny_pure ⟨_,rfl,"set_iterator",_,⟨_,Heap.get?_push_size _ rfl,rfl⟩,slot_si_next.lookup,?_⟩))
   have fpo:∀b∈[s.heap.objs.size,a],b=a∨s.heap.objs.size≤b:=fun b hb=>by
    rcases List.mem_cons.mp hb with e | hb
    · right;rw [e];exact Nat.le_refl _
    · exact .inl (List.mem_singleton.mp hb)
   cases hb:byT w with
   | true=>
    exact h _ _ [_,a] _ _ s.drawn ((pick_perm (w.params.setOrder a ep) es).map (·.2)) (Nat.le_refl _) fpo (fun b o e=>Heap.get?_push_of_some _ e) (fun A' h'=>walk_text h' hb hf (Nat.ne_of_lt lt)) ⟨⟨_,Heap.get?_push_size _ rfl,rfl,by simp [rawInt]⟩,⟨o,Heap.get?_push_of_some _ ho,hx,hd⟩⟩
   | false=>
    rw [hb]at c
    have c':(!t.plain && decide (es.size > 1))=false:=by simpa using c
    have hr':Ris t.place.toList:=by
     cases hp:t.plain with
     | true=>exact T.ris hp
     | false=>
      rw [hp]at c'
      have hs:es.size≤1:=by simpa using c'
      have hz:t.place.size=es.size:=by simp only [SetTable.fits,Bool.and_eq_true,beq_iff_eq]at hf;exact hf.1
      have:t.place.toList.length≤1:=by rw [Array.length_toList];omega
      match t.place.toList,this with
      | [],_=>exact .nil
      | [x],_=>exact List.pairwise_singleton _ _
    have hl:t.led=true:=by rw [T.led,hb];rfl
    exact h _ _ [_,a] _ _ s.drawn (.refl _) (Nat.le_refl _) fpo (fun b o e=>Heap.get?_push_of_some _ e) (fun A' h'=>walk_slot h' hb hf hl c' hr' (Nat.ne_of_lt lt)) ⟨⟨_,Heap.get?_push_size _ rfl,rfl,by simp [rawInt,slotAt]⟩,⟨o,Heap.get?_push_of_some _ ho,hx,hd⟩⟩
theorem hint_set{r:Addr}{Q:Bool→Shared→Prop}(hT:s.TypeIs (.ref r) "set")(h:Q false s):wpAny (model prog w) A (Builtin.List.listLengthHint (.ref r)) Q E s:=by
 unfold Builtin.List.listLengthHint
 refine wpAny_bind (wpAny_specialOf hT PySem.F.slot_set_len.lookup ?_)
 generalize hid:("set.__len__":String)=id0
 wp_delta
 rw [show splitId id0=some ("set","__len__") from by subst hid;decide+kernel]
 subst hid
 refine wpAny_bind (wpAny_isInstance (T:="set") (b:=true) hT (by rw [isSubtype_type];kernel_rfl) ?_)
 refine wpAny_ite_split (fun hab=>absurd hab (by decide)) (fun _=>?_)
 refine wpAny_ite_split (fun _=>?_) (fun hab=>absurd (by decide+kernel) hab)
 refine wpAny_bind (wpAny_typeOf hT ?_)
 exact wpAny_pure h
theorem extendX{R:Result→Shared→Prop}(hh:A.handled=none)(hr:SetRaw s.heap a es ep t)(T:TabOk t es.size (!byT w))(hz:es.size≤sizeLine)(S:Addr)(hSa:S≠a)(res:Value)(c₀:Nat)(hS:s.heap.get? S=some {cls:= .type "list",data:= .seq #[] c₀})
 (hR:∀h' tk d' (acc':Array Value) c',(∀b o,b≠S→s.heap.get? b=some o→h'.get? b=some o)→h'.get? S=some {cls:= .type "list",dict:=none,data:= .seq acc' c',slots:=#[]}→acc'.toList.Perm (es.toList.map (·.2))→R (.ok (.ret res)) {s with heap:=h',toks:=tk,drawn:=d'}):
 wpAny (model prog w) A.in1 (Builtin.List.listExtendWith (.ref S) (.ref a) res)
  (fun fin s'=>match fin with | .done f=>R (.ok f) s' | .again c'=>c'.quiet=true∧codeAny (model prog w) A c' R s') (fun e s'=>R (.error e) s') s:=by
 unfold Builtin.List.listExtendWith
 refine wpAny_bind (wpAny_typeOf (T:="set") hr.typeIs ?_)
 have h1:Builtin.List.listSameRef (.ref S) (.ref a)=false:=by simp [Builtin.List.listSameRef,hSa]
 have h2:(Value.type "set"==Value.type "list")=false:=by decide
 have h3:(Value.type "set"==Value.type "tuple")=false:=by decide
 simp only [h1,h2,h3,Bool.or_false,Bool.false_eq_true,if_false]
 refine wpAny_bind (iterX hr T hz fun out I fp St h1 d1 hp hI hfp hk W st=>?_)
 have W:=W A.in1 hh
 have ltS:=Heap.lt_size hS
 have hSI:S≠I:=fun e=>absurd (Nat.lt_of_lt_of_le ltS hI) (by rw [e];exact Nat.lt_irrefl _)
 have hSf:S∉fp:=fun z=>by
  rcases hfp S z with e | e
  · exact hSa e
  · exact absurd (Nat.lt_of_lt_of_le ltS e) (Nat.lt_irrefl _)
 have hlen:out.length=es.size:=by rw [hp.length_eq,List.length_map,Array.length_toList]
 have key:∀(h:Heap) (c₁ tk:Nat),St 0 h→(∀b o,b≠S→s.heap.get? b=some o→h.get? b=some o)→h.get? S=some {cls:= .type "list",data:= .seq #[] c₁}→
  codeAny (model prog w) A (.builtin "list.extend.loop" ⟨[.ref S,.ref I,res],[]⟩) R {s with heap:=h,toks:=tk,drawn:=d1}:=by
  intro h c₁ tk hst hk' hS₁
  refine codeAny_extend_loopS W.toS hz S hSf res es.size 0 _ #[] c₁ rfl (Nat.zero_le _) hst hS₁ (ItemsOf.nil _) fun s' acc' c' hm hS' hacc=>?_
  rw [Moved.eq_with hm]
  refine hR s'.heap s'.toks d1 acc' c' (fun b o hb e=>hm.heap b o (fun hmem=>?_) (hk' b o hb e)) hS' ?_
  · rcases List.mem_cons.mp hmem with e' | hmem
    · exact hb e'
    · rw [List.mem_singleton.mp hmem]at e
      exact absurd (Nat.lt_of_lt_of_le (Heap.lt_size e) hI) (Nat.lt_irrefl _)
  · have:acc'.toList=out:=by
     apply List.ext_getElem?
     intro i
     by_cases hi:i < es.size
     · have hi2:i < acc'.toList.length:=by rw [Array.length_toList,hacc.1];exact hi
       rw [hacc.2 i acc'.toList[i] (by rw [← Array.getElem?_toList];exact List.getElem?_eq_getElem hi2),List.getElem?_eq_getElem hi2]
     · rw [List.getElem?_eq_none (by rw [Array.length_toList,hacc.1];omega),List.getElem?_eq_none (by rw [hlen];omega)]
    rw [this];exact hp
 have hS₁:=hk S _ hS
 refine wpAny_bind (wpAny_holding (hint_set (s:={s with heap:=h1,drawn:=d1}) (hr.at fun o e=>hk a o e).typeIs ?_))
 refine wpAny_ite_split (fun _=>?_) (fun _=>wpAny_pure ⟨plainId_quiet PySem.F.plain_extend_loop _,key _ c₀ _ st (fun b o _ e=>hk b o e) hS₁⟩)
 refine wpAny_bind (wpAny_rule (wpAny_bind ?_))
 show wpAny _ _ (updateSeq S (·.push .none) >>=fun _=>updateSeq S (·.pop)) _ _ _
 refine wpAny_bind (wpAny_updateSeq hS₁ rfl ?_)
 have hS₂:=Heap.get?_update_self (Obj.mapSeq (·.push Value.none)) hS₁ rfl
 refine wpAny_updateSeq (hz:=by seq_fits) hS₂ rfl ?_
 have hS₃:=Heap.get?_update_self (Obj.mapSeq (·.pop)) hS₂ rfl
 refine wpAny_pure ⟨plainId_quiet PySem.F.plain_extend_loop _,key _ _ _ ?_ (fun b o hb e=>?_) hS₃⟩
 · refine W.frame 0 _ _ st fun b hb o e=>?_
   have hbS:b≠S:=fun h=>hSf (h▸hb)
   exact (Heap.get?_update_other _ _ (Ne.symm hbS)).trans ((Heap.get?_update_other _ _ (Ne.symm hbS)).trans e)
 · exact (Heap.get?_update_other _ _ (Ne.symm hb)).trans ((Heap.get?_update_other _ _ (Ne.symm hb)).trans (hk b o e))
theorem collectX{R:List Value→Shared→Prop}(hh:A.handled=none)(hr:SetRaw s.heap a es ep t)(T:TabOk t es.size (!byT w))(hz:es.size≤sizeLine)
 (h:∀(h':Heap) (tk:Nat) (d':Drawn) (vs:List Value),s.heap.objs.size < h'.objs.size→(∀b o,s.heap.get? b=some o→h'.get? b=some o)→vs.Perm (es.toList.map (·.2))→R vs {s with heap:=h',toks:=tk,drawn:=d'}):
 wpAny (model prog w) A (collect (.ref a)) R E s:=by
 obtain ⟨oa,hoa,_⟩:=id hr
 have hlt:=Heap.lt_size hoa
 unfold collect
 refine wpAny_bind (wpAny_runValue (codeAny_builtin entry_proto_collect' ?_))
 rw [Around.under_plainId PySem.F.plain_proto_collect _]
 show wpAny _ A.in1 (newList [] >>=fun l=>again (.builtin "list.__iadd__" ⟨[l,.ref a],[]⟩)) _ _ s
 refine wpAny_bind (wpAny_newObj_type ?_)
 refine wpAny_pure ⟨plainId_quiet PySem.F.plain_list_iadd _,codeAny_builtin entry_list_iadd' ?_⟩
 rw [Around.under_plainId PySem.F.plain_list_iadd _]
 have hS₁:(s.heap.push {cls:= .type "list",data:= .seq ([]:List Value).toArray}).get? s.heap.objs.size=some {cls:= .type "list",data:= .seq #[]}:=Heap.get?_push_size _ rfl
 show wpAny _ A.in1 (Builtin.List.listExtendWith (.ref s.heap.objs.size) (.ref a) (.ref s.heap.objs.size)) _ _ _
 have key:=extendX (prog:=prog) (A:=A) (s:={s with heap:=s.heap.push {cls:= .type "list",data:= .seq ([]:List Value).toArray}})
  (R:=fun (q:Result) (s':Shared)=>∃(h':Heap) (tk:Nat) (d':Drawn) (acc':Array Value) (c':Nat),q= .ok (.ret (.ref s.heap.objs.size))∧s'={s with heap:=h',toks:=tk,drawn:=d'}∧
   (∀b o,s.heap.get? b=some o→h'.get? b=some o)∧h'.get? s.heap.objs.size=some {cls:= .type "list",dict:=none,data:= .seq acc' c',slots:=#[]}∧acc'.toList.Perm (es.toList.map (·.2)))
  hh (hr.at fun o e=>Heap.get?_push_of_some _ e) T hz s.heap.objs.size (Nat.ne_of_gt hlt) (.ref s.heap.objs.size) 0 hS₁
  (fun h' tk d' acc' c' hk hS' hacc=>⟨h',tk,d',acc',c',rfl,rfl,fun b o e=>hk b o (Nat.ne_of_lt (Heap.lt_size e)) (Heap.get?_push_of_some _ e),hS',hacc⟩)
 refine wpAny_mono key (fun fin s' x=>?_) fun e s' x=>?_
 · cases fin with
   | done f=>
    obtain ⟨h',tk,d',acc',c',e,rfl,hk,hS',hacc⟩:=x
    cases e
    show wpAny _ A (load s.heap.objs.size >>=_) _ _ _
    exact wpAny_bind (wpAny_load hS' (wpAny_pure (h h' tk d' acc'.toList (Heap.lt_size hS') hk hacc)))
   | again c₁=>
    refine ⟨x.1,codeAny_mono x.2 fun q s₂ y=>?_⟩
    obtain ⟨h',tk,d',acc',c',rfl,rfl,hk,hS',hacc⟩:=y
    show wpAny _ A (load s.heap.objs.size >>=_) _ _ _
    exact wpAny_bind (wpAny_load hS' (wpAny_pure (h h' tk d' acc'.toList (Heap.lt_size hS') hk hacc)))
 · obtain ⟨_,_,_,_,_,e',_⟩:=x
   cases e'
end
end L2
namespace L2
open N30
section
variable {K:Type} [DecidableEq K]
noncomputable def ds1(s:List K)(y:K):List K:=if y∈s then s else s++[y]
noncomputable def ds(ys:List K):List K:=ys.foldl ds1 []
theorem ds_snoc(ys:List K)(y:K):ds (ys++[y])=ds1 (ds ys) y:=by unfold ds;rw [List.foldl_append];rfl
theorem mem_ds1{s:List K}{y z:K}:z∈ds1 s y↔z∈s∨z=y:=by
 unfold ds1
 split
 · rename_i h
   exact ⟨.inl,fun h'=>h'.elim id fun e=>e▸h⟩
 · rw [List.mem_append,List.mem_singleton]
theorem len_ds1{s:List K}{y:K}:(ds1 s y).length=if decide (y∈s)=true then s.length else s.length+1:=by
 unfold ds1
 by_cases h:y∈s
 · rw [if_pos h,if_pos (decide_eq_true h)]
 · rw [if_neg h,if_neg (by simp [h])];simp
theorem snoc_ind{P:List K→Prop}(h0:P [])(h1:∀r y,P r→P (r++[y]))(ys:List K):P ys:=by
 have key:∀l:List K,P l.reverse:=by
  intro l
  induction l with
  | nil=>exact h0
  | cons a r ih=>rw [List.reverse_cons];exact h1 _ _ ih
 have:=key ys.reverse
 rwa [List.reverse_reverse]at this
theorem ds_nodup(ys:List K):(ds ys).Nodup:=by
 refine snoc_ind (P:=fun ys=>(ds ys).Nodup) List.nodup_nil (fun r y h=>?_) ys
 rw [ds_snoc]
 unfold ds1
 split
 · exact h
 · rename_i hn
   exact List.nodup_append.mpr ⟨h,List.pairwise_singleton _ _,fun a ha b hb e=>hn (by rw [List.mem_singleton.mp hb]at e;rw [← e];exact ha)⟩
theorem mem_ds{ys:List K}{z:K}:z∈ds ys↔z∈ys:=by
 refine snoc_ind (P:=fun ys=>z∈ds ys↔z∈ys) Iff.rfl (fun r y ih=>?_) ys
 rw [ds_snoc,mem_ds1,ih,List.mem_append,List.mem_singleton]
theorem len_ds(ys:List K):(ds ys).length≤ys.length:=by
 refine snoc_ind (P:=fun ys=>(ds ys).length≤ys.length) (Nat.le_refl _) (fun r y ih=>?_) ys
 rw [ds_snoc,len_ds1,List.length_append,List.length_singleton]
 split <;> omega
theorem perm_of:∀(l l':List K),l.Nodup→(∀x∈l,x∈l')→l'.length≤l.length→l'.Perm l:=by
 intro l
 induction l with
 | nil=>
  intro l' _ _ h
  rw [List.length_eq_zero_iff.mp (Nat.le_zero.mp h)]
 | cons a r ih=>
  intro l' nd sub len
  obtain ⟨na,nr⟩:=List.nodup_cons.mp nd
  have ha:=sub a (.head _)
  have hp:=List.perm_cons_erase ha
  have hl:=hp.length_eq
  simp only [List.length_cons]at hl len
  exact hp.trans ((ih (l'.erase a) nr (fun x hx=>(List.mem_erase_of_ne (fun e=>by rw [e]at hx;exact na hx)).mpr (sub x (.tail _ hx))) (by omega)).cons a)
end
section
variable {prog:Program} {w:World} {K:Type} [DecidableEq K] {knd:PySem.KeyKind prog w K} {A:Around}
noncomputable abbrev SetD(knd:PySem.KeyKind prog w K)(h:Heap)(S:Addr)(l:List K):Prop:=SetX knd h S (fun z=>decide (z∈l)) l.length
theorem setD_run{R:Result→Shared→Prop}{I:Addr}{fp wr:List Addr}{G:Array GenState→Array GenState→Prop}{n:Nat}{Pv:Nat→Value→Prop}{St:Nat→Shared→Prop}(W:WalksS prog w A.in1 I fp wr G n Pv St){S:Addr}(off:S∉fp){ys:List K}
 (hy:n=ys.length) (hv:∀i v,Pv i v→∃k,ys[i]?=some k∧knd.is k v=true∧v.scannable=true) (hb:n+1 < scanBound):
 ∀(left i:Nat) (s:Shared),left=n - i→i≤n→St i s→SetD knd s.heap S (ds (ys.take i))→
   (∀s',Moved (S::wr) G s s'→SetD knd s'.heap S (ds ys)→R (.ok (.ret .none)) s')→codeAny (model prog w) A (.builtin "set.update.loop" ⟨[.ref S,.ref I],[]⟩) R s:=by
 have offw:S∉wr:=fun z=>off (W.sub _ z)
 have more:∀b∈wr,b∈S::wr:=fun _ z=> .tail _ z
 intro left
 induction left with
 | zero=>
  intro i s e hi st q hR
  have hin:i=n:=by omega
  rw [hin,hy,List.take_length]at q
  rw [hin]at st
  refine codeAny_builtin F.entry_set_update_loop (by
   rw [Around.under_plainId F.plain_set_update_loop _]
   show wpAny _ A.in1 (pyNext (.ref I) >>=_) _ _ s
   refine wpAny_bind (W.done s _ _ st fun s' mv=>?_)
   show wpAny _ A.in1 (ret Value.none) _ _ s'
   exact wpAny_pure (hR s' (mv.mono more) (q.at fun o ho=>mv.heap S _ offw ho)))
 | succ left ih=>
  intro i s e hi st q hR
  have hlt:i < n:=by omega
  refine codeAny_builtin F.entry_set_update_loop (by
   rw [Around.under_plainId F.plain_set_update_loop _]
   show wpAny _ A.in1 (pyNext (.ref I) >>=_) _ _ s
   refine wpAny_bind (W.item i s _ _ hlt st fun v s1 pv st1 mv=>?_)
   obtain ⟨k,hk,hkey,hsc⟩:=hv i v pv
   have q1:SetD knd s1.heap S (ds (ys.take i)):=q.at fun o ho=>mv.heap S _ offw ho
   show wpAny _ A.in1 (holding [v] (setAdd S v) >>=_) _ _ s1
   refine wpAny_bind (wpAny_holding ?_)
   unfold setAdd
   refine wpAny_holding (wpAny_bind (knd.pyHash hkey ?_))
   have room:(ds (ys.take i)).length+1 < scanBound:=Nat.lt_of_le_of_lt (Nat.succ_le_succ (Nat.le_trans (len_ds _) (by rw [List.length_take];exact Nat.min_le_left _ _))) (by omega)
   refine addX (knd:=knd) (s:={s1 with toks:=s1.toks+1}) hkey hsc q1 room fun h2 sb q2=>?_
   have q3:SetD knd h2 S (ds (ys.take (i+1))):=by
    rw [List.take_add_one,hk]
    show SetD knd h2 S (ds (ys.take i++[k]))
    rw [ds_snoc]
    refine SetX.congr q2 (fun z=>?_) len_ds1.symm
    rw [Bool.eq_iff_iff,Bool.or_eq_true,decide_eq_true_eq,decide_eq_true_eq,decide_eq_true_eq,mem_ds1]
   refine wpAny_pure ⟨plainId_quiet F.plain_set_update_loop _,ih (i+1) _ (by omega) hlt (W.frame _ s1 _ _ st1 (Nat.le_succ _) fun b hb' o ho=>by rw [sb.2 b fun z=>off (z▸hb')];exact ho) q3 fun s3 mv3 q4=>hR s3 (Moved.trans W.gtrans ((mv.mono more).then_heap (Nat.le_succ _) fun b o hb' ho=>by rw [sb.2 b fun z=>hb' (z▸ .head _)];exact ho) mv3) q4⟩)
variable {E:Value→Shared→Prop} {s:Shared}
set_option maxHeartbeats 8000000 in
theorem call_setD{l:Addr}{us:Array Value}{ys:List K}{Q:Value→Shared→Prop}(hh:A.handled=none)(hl:s.heap.IsList l us)(hy:us.size=ys.length)(hv:∀(i:Nat) (v:Value),us[i]?=some v→∃k,ys[i]?=some k∧knd.is k v=true∧v.scannable=true)(hb:us.size+1 < scanBound)
 (q:∀(h':Heap) (tk:Nat),SetD knd h' s.heap.objs.size (ds ys)→(∀b o,s.heap.get? b=some o→h'.get? b=some o)→Q (.ref s.heap.objs.size) {s with heap:=h',toks:=tk}):
 wpAny (model prog w) A (call (.type "set") [.ref l]) Q E s:=by
 obtain ⟨c,tl,mro⟩:=F.called_set.mro
 have g1:=F.called_set.made
 have g2:=F.called_set.sub
 refine wpAny_call (codeAny_of_tree (by
  show wpAny _ _ (callAny (.type "set") _) _ _ _
  refine wpAny_pure ⟨Code.quiet_builtin _ (by decide+kernel),codeAny_builtin F.entry_type_call ?_⟩
  rw [Around.under_plain (weight_type_call_type "set" [.ref l] []) rfl]
  have g3:=F.called_set.notType
  have g4:=F.called_set.canCreate
  have g5:=F.typeCall_set_1 (.ref l)
  repeat (any_goals (first | assumption | wp_step))
  refine codeAny_mono (newX (.ref l) (E:=E) (Q₁:=fun v s1=>v= .ref s.heap.objs.size∧s1={s with heap:=s.heap.push (newSet (!byT w))}) ⟨rfl,rfl⟩) fun r s1 hr=>?_
  cases r with
  | error e=>exact hr
  | ok fl=>
   cases fl with
   | ret v=>
    obtain ⟨rfl,rfl⟩:=hr
    generalize hled:(!byT w)=led
    have at0:(s.heap.push (newSet led)).get? s.heap.objs.size=some (newSet led):=Heap.get?_push_size _ rfl
    have ty0:Shared.TypeIs {s with heap:=s.heap.push (newSet led)} (.ref s.heap.objs.size) "set":=⟨_,at0,rfl⟩
    have g6:=F.called_set.init.lookup
    have g7:=F.called_set.init.bind (.ref s.heap.objs.size)
    repeat (any_goals (first | assumption | wp_step))
    refine codeAny_mono (codeAny_call_builtin (R:=wants (fun r s2=>r= .none∧∃h' tk,s2={s with heap:=h',toks:=tk}∧SetD knd h' s.heap.objs.size (ds ys)∧(∀b o,s.heap.get? b=some o→h'.get? b=some o)) E) F.called_set.init.plain F.entry_set_init (check_set_init_1 ty0 ?_)) fun r2 s2 hr2=>?_
    · obtain ⟨⟨oc,od,oe,os'⟩,hol,hcl,nl,hdl⟩:=hl
      simp only at hcl hdl
      subst hcl hdl
      have at1:(s.heap.push (newSet led)).get? l=some {cls:= .type "list",dict:=od,data:= .seq us nl,slots:=os'}:=Heap.get?_push_of_some _ hol
      have g8:=F.sub_list_set
      have g9:=F.sub_list_frozenset
      have g10:(Value.type "list"==Value.type "dict")=false:=by decide
      have l1:(s.heap.push (newSet led)).IsList l us:=⟨_,at1,rfl,nl,rfl⟩
      unfold Builtin.«set.__init__» noKeywords Builtin.Frozenset.updateFrom
      generalize hPI:pyIter=PI
      wp_walk
      subst hPI
      refine wpAny_pyIter_list l1 (wpAny_bind (wpAny_runValue ?_))
      have lt:l < s.heap.objs.size:=Heap.lt_size hol
      have h3:A.in1.in1.in1.handled=none:=by simp [hh]
      have sz:(s.heap.push (newSet led)).objs.size=s.heap.objs.size+1:=Heap.size_push ..
      have ne1:l≠(s.heap.push (newSet led)).objs.size:=by rw [sz];exact Nat.ne_of_lt (Nat.lt_succ_of_lt lt)
      have off:s.heap.objs.size∉[(s.heap.push (newSet led)).objs.size,l]:=by
       rw [sz]
       intro z
       rcases List.mem_cons.mp z with z | z
       · exact absurd z (Nat.ne_of_lt (Nat.lt_succ_self _))
       · exact absurd (List.mem_singleton.mp z) (Nat.ne_of_gt lt)
      refine setD_run (knd:=knd) ((Walks.list h3 _ l ne1 us).toS) off (ys:=ys) hy (fun i v hv'=>hv i v hv') hb (us.size - 0) 0 _ rfl (Nat.zero_le _) ⟨⟨_,Heap.get?_push_size _ rfl,rfl,rfl⟩,l1.push _⟩ ?_ ?_
      · refine ⟨newSet led,#[],0,_,Heap.get?_push_of_some _ at0,⟨rfl,rfl,rfl⟩,rfl,fun e he=>by simp at he,fun k=>by simp [ds],by decide,⟨hled.symm,rfl,fun _=> .nil,by rfl⟩,rfl⟩
      · rintro ⟨h',g',d',tk',os2⟩ mv q'
        have eg:g'=s.gens:=mv.gens
        have ed:d'=s.drawn:=mv.drawn
        have eo:os2=s.os:=mv.os
        subst eg ed eo
        show wpAny _ _ _ _ _ _
        refine wpAny_pure ?_
        show wpAny _ _ (ret Value.none) _ _ _
        refine wpAny_pure ⟨rfl,h',tk',rfl,q',fun b o ho=>mv.heap b o (fun z=>?_) (Heap.get?_push_of_some _ (Heap.get?_push_of_some _ ho))⟩
        have ltb:=Heap.lt_size ho
        rw [sz]at z
        rcases List.mem_cons.mp z with z | z
        · exact absurd z (Nat.ne_of_lt ltb)
        · exact absurd (List.mem_singleton.mp z) (Nat.ne_of_lt (Nat.lt_succ_of_lt ltb))
    · cases r2 with
      | error e=>exact hr2
      | ok fl2=>
       cases fl2 with
       | ret r=>
        obtain ⟨rfl,h',tk,rfl,q',k'⟩:=hr2
        repeat (any_goals (first | assumption | wp_step))
        exact q _ _ q' k'
       | _=>exact hr2.elim
   | _=>exact hr.elim))
end
end L2
namespace L2
open N30
section
variable {prog:Program} {w:World} {A:Around} {E:Value→Shared→Prop} {s:Shared}
theorem SetX.open'{K:Type}[DecidableEq K]{knd:PySem.KeyKind prog w K}{h:Heap}{a:Addr}{l:List K}(q:SetD knd h a l)(nd:l.Nodup):∃es ep t,SetRaw h a es ep t∧TabOk t es.size (!byT w)∧es.size < scanBound∧es.size=l.length∧
 ∃ks:List K,ks.Perm l∧Paired (fun (k:K) (v:Value)=>knd.is k v=true) ks (es.toList.map (·.2)):=by
 obtain ⟨o,es,ep,t,ho,hx,hd,hel,hmem,hb,T,hn⟩:=q
 refine ⟨es,ep,t,⟨o,ho,hx,hd⟩,T,hb,hn,?_⟩
 have key:∀l':List (Int×Value),ElemsOf knd l'→∃ks:List K,Paired (fun (k:K) (v:Value)=>knd.is k v=true) ks (l'.map (·.2)):=by
  intro l'
  induction l' with
  | nil=>intro _;exact ⟨[],.nil⟩
  | cons e r ih=>
   intro h
   obtain ⟨⟨k,hk,_⟩,_⟩:=h.head
   obtain ⟨ks,hp⟩:=ih h.tail
   exact ⟨k::ks,.cons hk hp⟩
 have memP:∀(ks:List K) (vs:List Value),Paired (fun (k:K) (v:Value)=>knd.is k v=true) ks vs→∀v∈vs,∃k∈ks,knd.is k v=true:=by
  intro ks vs h
  induction h with
  | nil=>intro v hv;cases hv
  | cons a _ ih=>
   intro v hv
   rcases List.mem_cons.mp hv with e | hv
   · subst e;exact ⟨_,.head _,a⟩
   · obtain ⟨k,hk,r⟩:=ih v hv
     exact ⟨k,.tail _ hk,r⟩
 obtain ⟨ks,hp⟩:=key es.toList hel
 have hl:ks.length=l.length:=by rw [Paired.length hp,List.length_map,Array.length_toList];exact hn
 refine ⟨ks,perm_of l ks nd (fun x hx=>?_) (Nat.le_of_eq hl),hp⟩
 obtain ⟨e,he,hk⟩:=(hmem x).mp (decide_eq_true hx)
 obtain ⟨k,hk1,hk2⟩:=memP ks _ hp e.2 (List.mem_map.mpr ⟨e,he,rfl⟩)
 rw [knd.inj e.2 x k hk hk2];exact hk1
theorem paired_perm{K:Type}{F:K→Value→Prop}{vs vs':List Value}(p:vs'.Perm vs):∀{ks:List K},Paired F ks vs→∃ks':List K,ks'.Perm ks∧Paired F ks' vs':=by
 induction p with
 | nil=>intro ks h;exact ⟨ks,.refl _,h⟩
 | cons x _ ih=>
  intro ks h
  cases h with
  | cons a r=>
   obtain ⟨ks',h1,h2⟩:=ih r
   exact ⟨_::ks',h1.cons _,.cons a h2⟩
 | swap x y l=>
  intro ks h
  cases h with
  | cons a r=>
   cases r with
   | cons b r'=>exact ⟨_,.swap _ _ _,.cons b (.cons a r')⟩
 | trans _ _ ih1 ih2=>
  intro ks h
  obtain ⟨k1,a1,b1⟩:=ih2 h
  obtain ⟨k2,a2,b2⟩:=ih1 b1
  exact ⟨k2,a2.trans a1,b2⟩
theorem ints_of{ks:List Int}{vs:List Value}(h:Paired (fun (k:Int) (v:Value)=>(intKind prog w).is k v=true) ks vs):IntsAre vs ks:=by
 induction h with
 | nil=>exact .nil
 | cons a _ ih=>
  obtain ⟨t,rfl⟩:=Value.isInt_shape a
  exact .cons _ t ih
theorem sheap_kept{h:Heap}{a:Addr}{vs:List Value}{out:Array Value}(lt:a < h.objs.size):∀b o,b≠a→h.get? b=some o→(sortedHeap h a vs out).get? b=some o:=fun b o nb e=>by
 rw [sortedHeap_old nb (Heap.lt_size e)];exact e
theorem sorted_setI{a:Addr}{l:List Int}{Q:Value→Shared→Prop}(hh:A.handled=none)(q:SetD (intKind prog w) s.heap a l)(nd:l.Nodup)(h64:l.length < 64)
 (h:∀(D:Addr) (h':Heap) (tk:Nat) (d':Drawn) (vs:List Value) (ns:List Int) (c:Nat),s.heap.objs.size≤D→(∀b o,s.heap.get? b=some o→h'.get? b=some o)→h'.get? D=some (seqObj "list" vs.toArray c)→IntsAre vs ns→ns.Perm l→ns.Pairwise (· ≤·)→Q (.ref D) {s with heap:=h',toks:=tk,drawn:=d'}):
 wpAny (model prog w) A (call (.builtin "sorted") [.ref a]) Q E s:=by
 obtain ⟨es,ep,t,hr,T,hb,hn,ks,hp,hk⟩:=q.open' nd
 have hz:es.size≤sizeLine:=fits_of_scanBound hb
 refine Calls.call_function_entry kind_sorted plain_sorted entry_sorted (args_sorted1 _) ?_
 unfold Builtin.«sorted»
 refine wpAny_bind (m:=checkCount "sorted" 1 1 _) (wpAny_pure ?_)
 refine wpAny_bind (collectX (A:=A.in1) hh hr T hz fun h1 tk d1 vs lt1 k1 pv=>?_)
 have hlv:vs.length=l.length:=by rw [pv.length_eq,List.length_map,Array.length_toList];exact hn
 obtain ⟨ks',p2,k2⟩:=paired_perm pv hk
 have hI:IntsAre vs ks':=ints_of k2
 refine wpAny_bind (wpAny_newList ?_ (by rw [hlv,sizeLine_eq];omega))
 have hoL:(h1.push (seqObj "list" vs.toArray 0)).get? h1.objs.size=some (seqObj "list" vs.toArray 0):=Heap.get?_push_size _ rfl
 have sz:(h1.push (seqObj "list" vs.toArray 0)).objs.size=h1.objs.size+1:=Heap.size_push ..
 refine wpAny_bind (wpAny_holding (wpAny_call_entry slot_list_sort ⟨_,hoL,rfl⟩ entry_list_sort (list_sort_tree hoL hI (by omega) fun out ns' a1 a2 a3=>⟨_,rfl,?_⟩) (args_list_sort _)))
 refine wpAny_pure ⟨_,rfl,?_⟩
 obtain ⟨c,hc⟩:=sortedHeap_at (out:=out) hoL
 exact h h1.objs.size _ tk d1 out.toList ns' c (Nat.le_of_lt lt1) (fun b o e=>sheap_kept (by rw [sz];exact Nat.lt_succ_self _) b o (Nat.ne_of_lt (Heap.lt_size (k1 b o e))) (Heap.get?_push_of_some _ (k1 b o e))) (by rw [Array.toArray_toList];exact hc) a1 (a2.trans (p2.trans hp)) a3
end
section
variable {X:Cx}
theorem Inv.laidD{pins:List (Addr×Obj)}{σ:St}{H:Hp}{s:Shared}{h':Heap}{a:Addr}{o:HO}{t':Nat}{d':Drawn}(I:Inv X pins σ H s)(k:∀b u,s.heap.get? b=some u→h'.get? b=some u)(hp:s.heap.objs.size≤a)(new:ObjOk X.prog X.w (upd H a o) h' a o):
 Inv X pins σ (upd H a o) {s with heap:=h',toks:=t',drawn:=d'}:=
 I.call (g':=s.gens) (d':=d') (ch:=[]) (Un.laid k hp (I.hok.fresh hp)) (I.hok.laid k hp new) I.bare fun _ z=>nomatch z
noncomputable def tSortSet(K:PySem.W.Frag)(t:TA):TE:=fun σ H Q=>t σ H fun vs H1=>∃(a:Addr) (ns:List Int),vs=[.ref a]∧SqL K H1 a (ns.map V.int)∧ns.length < 64∧∀(q:Addr) (zs:List Int),H1 q=none→zs.Perm (ds ns)→zs.Pairwise (· ≤·)→Q (.ref q) (upd H1 q (.lst (zs.map V.int)))
theorem ix_int{ns:List Int}:∀{us:List Value},Vals (ns.map V.int) us→∀(i:Nat) (v:Value),us[i]?=some v→∃k,ns[i]?=some k∧(∃t,v= .int k t):=by
 intro us r i v h
 have hl:=r.length
 rw [List.length_map]at hl
 have hi:i < ns.length:=by rw [hl];exact (List.getElem?_eq_some_iff.mp h).1
 obtain ⟨u,hu,ru⟩:=r.get (i:=i) (x:= .int ns[i]) (by rw [List.getElem?_map,List.getElem?_eq_getElem hi];rfl)
 rw [h]at hu;cases hu
 exact ⟨_,List.getElem?_eq_getElem hi,ru⟩
theorem vals_ofI{ns:List Int}{us:List Value}(h:IntsAre us ns):Vals (ns.map V.int) us:=by
 induction h with
 | nil=>exact .nil
 | cons y t _ ih=>exact .cons ⟨t,rfl⟩ ih
variable {e:Expr} {t:TA} {p p2 pos pos2:Pos}
theorem pe_sortset(hc:X.calm=true)(hg:Gl X "sorted")(hm:X.mg "sorted"=none)(hg2:Gl X "set")(hm2:X.mg "set"=none)(ha:PA X [e] t)(he:starEach [e] X.env=(false,eval e X.env)::starEach [] X.env:=by rfl)
 (he2:starEach [.Call (.Name "set" p2) [e] [] pos2] X.env=(false,eval (.Call (.Name "set" p2) [e] [] pos2) X.env)::starEach [] X.env:=by rfl):PE X (.Call (.Name "sorted" p) [.Call (.Name "set" p2) [e] [] pos2] [] pos) (tSortSet X.K t):=by
 intro pins s σ H Q I h
 have hv:bootBuiltins "set"=some (.type "set"):=by decide+kernel
 have hv1:bootBuiltins "sorted"=some (.builtin "sorted"):=by decide+kernel
 refine wpAny_Call_Name_kw (ld_blt I hg hm hv1 (callWith_builtin1 (by
  rw [he2]
  show wpAny _ _ (spliced ((false,eval (.Call (.Name "set" p2) [e] [] pos2) X.env)::backTo pos (starEach [] X.env))) _ _ s
  refine Calls.spliced_cons (wpAny_Call_Name_kw (ld_blt I hg2 hm2 hv (callWith_type1 (thn (ha pos2 pins s σ H _ I h) fun us s1 hq_=>?_) he (by rfl))))
  obtain ⟨vs,H1,I1,r1,q1⟩:=hq_
  obtain ⟨a,ns,rfl,hq,hz,q⟩:=q1
  cases r1 with
  | cons r rr=>
   cases rr
   cases r
   obtain ⟨its,rv,pl,_⟩:=I1.list hq
   have hl:=rv.length
   rw [List.length_map]at hl
   have h0:=I1.ok.hd hc
   refine call_setD (knd:=intKind X.prog X.w) (ys:=ns) h0 pl.isList (by rw [List.size_toArray];exact hl.symm) (fun i v hv'=>?_) (by rw [List.size_toArray,← hl];unfold scanBound;omega) fun h' tk st k=>?_
   · rw [List.getElem?_toArray]at hv'
     obtain ⟨k,hk,t,rfl⟩:=ix_int rv i v hv'
     exact ⟨k,hk,intKind_is _ _ _ _,rfl⟩
   · refine Calls.spliced_nil ?_
     refine sorted_setI h0 st (ds_nodup ns) (Nat.lt_of_le_of_lt (len_ds ns) hz) fun D h2 tk2 d2 vs2 ns2 c hD k2 g2 i2 p2 o2=>?_
     have szk:s1.heap.objs.size≤D:=by
      obtain ⟨o,_,_,_,ho,_⟩:=st
      exact Nat.le_trans (Nat.le_of_lt (Heap.lt_size ho)) hD
     refine ⟨.ref D,_,I1.laidD (t':=tk2) (d':=d2) (fun b u q'=>k2 b u (k b u q')) szk (o:= .lst (ns2.map V.int)) ⟨?_,vs2,c,vals_ofI i2,g2⟩,rfl,q D ns2 (I1.hok.fresh szk) p2 o2⟩
     have:=len_ds ns
     rw [List.length_map,p2.length_eq,sizeLine_eq];omega) he2 (by rfl)))
end
theorem rd_sortset{K:PySem.W.Frag}{σ:St}{H:Hp}{Q:VK}{t:TA}:tSortSet K t σ H Q=t σ H fun vs H1=>∃(a:Addr) (ns:List Int),vs=[.ref a]∧SqL K H1 a (ns.map V.int)∧ns.length < 64∧∀(q:Addr) (zs:List Int),H1 q=none→zs.Perm (ds ns)→zs.Pairwise (· ≤·)→Q (.ref q) (upd H1 q (.lst (zs.map V.int))):=rfl
end L2
namespace N35
open L2 N1 N5 N31 N4 N32 N41
section
variable (ys:List Str)
noncomputable def yat(j:Nat):Str:=ys.getD j Str.empty
noncomputable def isL(n j:Nat):Bool:=decide (lastIx ys (yat ys j) n=some j)
noncomputable def rc(n c:Nat):List Str:=(((List.range' c (n - c)).reverse.filter (isL ys n))).map (yat ys)
end
variable {ys:List Str} {R:Str→Int} {n c:Nat}
theorem rc_end:rc ys n n=[]:=by unfold rc;rw [Nat.sub_self];rfl
theorem rc_step(h:c < n):rc ys n c=rc ys n (c+1)++if isL ys n c=true then [yat ys c] else []:=by
 unfold rc
 rw [show n - c=(n - (c+1))+1 by omega,List.range'_succ,List.reverse_cons,List.filter_append,List.map_append]
 congr 1
 by_cases e:isL ys n c=true
 · rw [if_pos e,List.filter_cons_of_pos e];rfl
 · rw [if_neg e,List.filter_cons_of_neg e];rfl
theorem mem_rc{z:Str}(hc:c≤n):z∈rc ys n c↔∃b,c≤b∧lastIx ys z n=some b:=by
 unfold rc
 rw [List.mem_map]
 constructor
 · rintro ⟨j,hj,rfl⟩
   rw [List.mem_filter,List.mem_reverse,List.mem_range'_1]at hj
   exact ⟨j,hj.1.1,of_decide_eq_true hj.2⟩
 · rintro ⟨b,hb,e⟩
   have h:=last_lt e
   refine ⟨b,?_,h.2⟩
   rw [List.mem_filter,List.mem_reverse,List.mem_range'_1]
   refine ⟨⟨hb,by omega⟩,decide_eq_true ?_⟩
   show lastIx ys (ys.getD b Str.empty) n=some b
   rw [h.2];exact e
theorem rc_nodup:(rc ys n c).Nodup:=by
 unfold rc List.Nodup
 rw [List.pairwise_map]
 refine List.Pairwise.imp_of_mem (R:=fun a b=>a≠b) ?_ (((List.reverse_perm _).nodup_iff.mpr List.nodup_range').sublist List.filter_sublist)
 intro a b ha hb hab e
 rw [List.mem_filter]at ha hb
 have h1:=of_decide_eq_true ha.2
 have h2:=of_decide_eq_true hb.2
 rw [e,h2]at h1
 exact hab (Option.some.inj h1).symm
theorem rc_sum(hc:c≤n):((rc ys n c).map R).sum=tl (W R ys n) c n:=by
 have key:∀m c,n - c=m→c≤n→((rc ys n c).map R).sum=tl (W R ys n) c n:=by
  intro m
  induction m with
  | zero=>
   intro c e h
   have:c=n:=by omega
   subst this
   rw [rc_end,tl_end];rfl
  | succ m ih=>
   intro c e h
   rw [rc_step (by omega),tl_step (by omega),List.map_append,List.sum_append,ih (c+1) (by omega) (by omega),Int.add_comm]
   congr 1
   unfold W isL yat
   by_cases z:lastIx ys (ys.getD c Str.empty) n=some c
   · rw [if_pos (decide_eq_true z),if_pos z];simp
   · rw [if_neg (by rw [decide_eq_true_eq];exact z),if_neg z];simp
 exact key _ c rfl hc
theorem tl_mono(hR:∀z,0≤R z){b c:Nat}(h:c≤b)(hb:b≤n){m:Nat}:tl (W R ys m) b n≤tl (W R ys m) c n:=by
 have hW:∀j,0≤W R ys m j:=fun j=>by
  unfold W
  split
  · exact hR _
  · exact Int.le_refl _
 have key:∀k c,b - c=k→c≤b→tl (W R ys m) b n≤tl (W R ys m) c n:=by
  intro k
  induction k with
  | zero=>
   intro c e h
   have:c=b:=by omega
   subst this;exact Int.le_refl _
  | succ k ih=>
   intro c e h
   rw [tl_step (f:=W R ys m) (b:=c) (by omega)]
   have:=ih (c+1) (by omega) (by omega)
   have:=hW c
   omega
 exact key _ c rfl h
noncomputable def thr(o:Option Int)(P:Int):Bool:=match o with
 | none=>false
 | some d=>decide (d≤P)
noncomputable def mis(R:Str→Int)(ys:List Str)(P:Int)(n:Nat):List Nat:=(List.range n).filter fun i=>!thr (dep R ys i) P
noncomputable def nMis(R:Str→Int)(ys:List Str)(P:Int)(n:Nat):Int:=((mis R ys P n).length:Int)
noncomputable def cMis(C R:Str→Int)(ys:List Str)(P:Int)(n:Nat):Int:=((mis R ys P n).map fun i=>C (yat ys i)).sum
theorem compL_mkT{K:PySem.W.Frag}{H1:Hp}{tail:L2.St}{te:Blk→TE}{Q:VK}{a:Addr}{xs:List V}(f:Nat→List V)(hS:SqL K H1 a xs)(hz:xs.length≤sizeLine)(he:∀b (i:Nat) x H Q',xs[i]?=some x→Same H1 H→(∀t H',Same H H'→H' t=some (.tup (f i))→Q' (.ref t) H')→te b (some x::tail) H Q')
 (q:∀(D:Addr) (as:List Addr) (H':Hp),H1 D=none→Same H1 H'→H' D=some (.lst (as.map V.ref))→as.length=xs.length→(∀i b,as[i]?=some b→H' b=some (.tup (f i)))→Q (.ref D) H'):CompTail (none::tail) (fun _=>gName 0) (fun _=>tYes) te Q (Itl K a) H1:=by
 refine comp_by xs.length (fun b D hD=>⟨fun i ys H=>i≤xs.length∧H D=some (.lst ys)∧Same H1 H∧∃as:List Addr,ys=as.map V.ref∧as.length=i∧∀j c,as[j]?=some c→H c=some (.tup (f j)),⟨Nat.zero_le _,upd_same,same_new hD,[],rfl,rfl,fun j y e=>by simp at e⟩,?_,?_,?_⟩)
 · rintro i ys H ⟨hi,h,_⟩
   exact h
 · rintro ys H ⟨_,h,sm,as,rfl,hl,hall⟩
   exact ⟨⟨xs,sm.seq hS,Nat.le_refl _⟩,q D as H hD sm h hl hall⟩
 · rintro i ys H hi ⟨_,h,sm,as,rfl,hl,hall⟩
   refine ⟨⟨xs,xs[i],sm.seq hS,by simp [hi]⟩,fun x H3 ⟨e3,ex⟩=>?_⟩
   subst e3
   refine he b i x _ _ (ex xs (sm.seq hS)) sm fun t H4 sm4 py=>?_
   have h4:=sm4 _ _ h
   refine compNext h4 (by rw [List.length_map];omega) hi ⟨hi,upd_same,fun c o e=>?_,as++[t],by rw [List.map_append];rfl,by rw [List.length_append,hl];rfl,fun j c e=>?_⟩
   · rw [upd_ne (ne_of_none e hD)];exact sm4 _ _ (sm _ _ e)
   · by_cases hj:j < as.length
     · rw [List.getElem?_append_left hj]at e
       have g:=sm4 _ _ (hall j c e)
       rw [upd_ne (ne_of g h4 (by intro z;cases z))];exact g
     · rw [List.getElem?_append_right (by omega)]at e
       have hj0:j=i:=by have:=(List.getElem?_eq_some_iff.mp e).1;simp at this;omega
       subst hj0
       rw [show j - as.length=0 by omega]at e
       cases e
       rw [upd_ne (ne_of py h4 (by intro z;cases z))];exact py
theorem compL_ifj{K:PySem.W.Frag}{H1:Hp}{tail:L2.St}{tt:Blk→TT}{te:Blk→TE}{Q:VK}{a:Addr}{xs:List V}(p:Nat→Bool)(hS:SqL K H1 a xs)(hz:xs.length≤sizeLine)
 (ht:∀b (i:Nat) x H QT,xs[i]?=some x→Same H1 H→(∀H',Same H H'→QT (p i) H')→tt b (some x::tail) H QT)
 (he:∀b (i:Nat) x H Q',xs[i]?=some x→p i=true→Same H1 H→(∀H',Same H H'→Q' x H')→te b (some x::tail) H Q')
 (q:∀D H',H1 D=none→Same H1 H'→H' D=some (.lst (((List.range xs.length).filter p).map fun i=>xs.getD i .non))→Q (.ref D) H'):CompTail (none::tail) (fun _=>gName 0) tt te Q (Itl K a) H1:=by
 intro b D hD
 refine ⟨fun i m ys H=>m=xs.length - i∧i≤xs.length∧ys=((List.range i).filter p).map (fun i=>xs.getD i .non)∧H D=some (.lst ys)∧Same H1 H,⟨_,rfl,Nat.zero_le _,rfl,upd_same,same_new hD⟩,?_⟩
 rintro i m ys H ⟨rfl,hi,rfl,hd,sm⟩
 refine ⟨hd,?_⟩
 by_cases hlt:i < xs.length
 · have hx:=List.getElem?_eq_getElem hlt
   refine .inr ⟨⟨xs,xs[i],sm.seq hS,hx⟩,fun x H3 ⟨e3,ex⟩=>⟨kept0,?_⟩⟩
   subst e3
   have hx':=(ex xs (sm.seq hS)).symm.trans hx
   cases hx'
   have eg:xs.getD i .non=xs[i]:=by rw [List.getD_eq_getElem?_getD,hx];rfl
   have hl:(((List.range i).filter p).map fun i=>xs.getD i .non).length≤i:=by
    rw [List.length_map];exact Nat.le_trans (List.length_filter_le _ _) (by rw [List.length_range];omega)
   have htk:(List.range (i+1)).filter p=(List.range i).filter p++[i].filter p:=by rw [List.range_succ,List.filter_append]
   refine ht b i _ _ _ hx sm fun H7 s7=>?_
   by_cases hp:p i=true
   · rw [if_pos hp]
     refine he b i _ H7 _ hx hp (sm.trans s7) fun H8 s8=>?_
     have hd8:=(s7.trans s8) _ _ hd
     refine ⟨hd8,by omega,xs.length - (i+1),by omega,rfl,hlt,?_,upd_same,same_put ((sm.trans s7).trans s8) hD⟩
     rw [htk,List.filter_cons_of_pos hp,List.filter_nil,List.map_append]
     show _++[xs[i]]=_++[xs.getD i .non]
     rw [eg]
   · rw [if_neg hp]
     refine ⟨xs.length - (i+1),by omega,rfl,hlt,?_,s7 _ _ hd,sm.trans s7⟩
     rw [htk,List.filter_cons_of_neg hp,List.filter_nil,List.append_nil]
 · have e:i=xs.length:=by omega
   subst e
   exact .inl ⟨⟨xs,sm.seq hS,Nat.le_refl _⟩,q D H hD sm hd⟩
theorem eqQ_nil{K:PySem.W.Frag}{H:Hp}{a b:Addr}{xs:List V}(h1:SqL K H a xs)(hf:xs.all flatV=true)(h2:SqL K H b []):EqQ K H (.ref a) (.ref b) (decide (xs=[])):=⟨a,b,xs,[],rfl,rfl,.inl ⟨h1,h2⟩,hf,rfl,by cases xs <;> simp [flatEq]⟩
theorem deps_flat:(depsV R ys).all flatV=true:=by
 unfold depsV
 rw [List.all_map,List.all_eq_true]
 intro i _
 show flatV (optV (dep R ys i))=true
 cases dep R ys i <;> rfl
noncomputable def dps(R:Str→Int)(ys:List Str)(w:Int):List Int:=(List.range ys.length).filterMap fun i=>match dep R ys i with | none=>none | some v=>if w < v then some v else none
theorem dps_eq{w:Int}:((List.range (depsV R ys).length).filter fun i=>match dep R ys i with | none=>false | some v=>decide (w < v)).map (fun i=>(depsV R ys).getD i V.non)=(dps R ys w).map V.int:=by
 have hdl:(depsV R ys).length=ys.length:=by unfold depsV;rw [List.length_map,List.length_range]
 rw [hdl]
 unfold dps
 have key:∀l:List Nat,(∀i∈l,i < ys.length)→(l.filter fun i=>match dep R ys i with | none=>false | some v=>decide (w < v)).map (fun i=>(depsV R ys).getD i V.non)=(l.filterMap fun i=>match dep R ys i with | none=>none | some v=>if w < v then some v else none).map V.int:=by
  intro l
  induction l with
  | nil=>intro _;rfl
  | cons i r ih=>
   intro h
   have hi:=h i (.head _)
   have ih:=ih fun j hj=>h j (.tail _ hj)
   have eg:(depsV R ys).getD i V.non=optV (dep R ys i):=by unfold depsV;rw [List.getD_eq_getElem?_getD,List.getElem?_map,List.getElem?_range hi];rfl
   rw [List.filter_cons,List.filterMap_cons]
   cases e:dep R ys i with
   | none=>simp only [Bool.false_eq_true,if_false];exact ih
   | some v=>
    by_cases c:w < v
    · simp only [decide_eq_true c,if_true,if_pos c,List.map_cons]
      rw [ih,eg,e];rfl
    · simp only [decide_eq_false c,if_neg c,Bool.false_eq_true,if_false]
      exact ih
 exact key _ fun i hi=>List.mem_range.mp hi
theorem dps_len{w:Int}:(dps R ys w).length≤ys.length:=by
 unfold dps
 exact Nat.le_trans (List.length_filterMap_le _ _) (by rw [List.length_range];exact Nat.le_refl _)
theorem mem_dps{w z:Int}:z∈dps R ys w↔w < z∧∃i,i < ys.length∧dep R ys i=some z:=by
 unfold dps
 rw [List.mem_filterMap]
 constructor
 · rintro ⟨i,hi,h⟩
   cases e:dep R ys i with
   | none=>rw [e]at h;cases h
   | some v=>
    rw [e]at h
    dsimp only at h
    split at h
    · rename_i c;cases h;exact ⟨c,i,List.mem_range.mp hi,e⟩
    · cases h
 · rintro ⟨h,i,hi,e⟩
   exact ⟨i,List.mem_range.mpr hi,by rw [e];exact if_pos h⟩
theorem atI_end{α:Type}{l:List α}{x:α}:atI (l++[x]) (-1)=some x:=by
 unfold atI ixN
 rw [if_neg (by decide)]
 simp only [List.length_append,List.length_singleton]
 rw [if_pos (by omega)]
 show (l++[x])[(-1+((l.length+1:Nat):Int)).toNat]?=some x
 rw [show (-1+((l.length+1:Nat):Int)).toNat=l.length by omega,List.getElem?_append_right (Nat.le_refl _),Nat.sub_self];rfl
theorem cut_3{x y z:V}:cutV [x,y,z] (some 1) none=[y,z]:=rfl
theorem cut_4x(ns:List Int)(lo hi:Nat):∃cs:List Int,cutV (ns.map V.int) (some (lo:Int)) (some (hi:Int))=cs.map V.int∧cs.length≤hi - lo∧cs.length≤ns.length - lo:=by
 unfold cutV
 rw [HT.sIx_nat,HT.sIx_nat,List.length_map,← List.map_drop,← List.map_take]
 refine ⟨_,rfl,?_,?_⟩
 · rw [List.length_take,List.length_drop];omega
 · rw [List.length_take,List.length_drop];omega
theorem rm_nn{ts:List Th}(h:∀t∈ts,0≤t.2.2)(z:Str):0≤rm ts z:=by
 unfold rm
 cases e:ts.find? fun t=>decide (t.1=z) with
 | none=>exact Int.le_refl _
 | some t=>exact h t (List.mem_of_find?_eq_some e)
theorem ixs_eq{F:Str→Int}:(List.range (ys.map V.str).length).map (fun i=>V.int (F (yat ys i)))=(ys.map F).map V.int:=by
 rw [List.length_map]
 apply List.ext_getElem?
 intro i
 rw [List.getElem?_map,List.getElem?_map,List.getElem?_map]
 by_cases hi:i < ys.length
 · rw [List.getElem?_range hi,List.getElem?_eq_getElem hi]
   show some (V.int (F (yat ys i)))=_
   unfold yat
   rw [List.getD_eq_getElem?_getD,List.getElem?_eq_getElem hi];rfl
 · rw [List.getElem?_eq_none (by rw [List.length_range];omega),List.getElem?_eq_none (by omega)];rfl
theorem eqQ_pair{K:PySem.W.Frag}{H:Hp}{a b:Addr}{i j:Int}(h1:SqT K H a [.int i,.int j])(h2:SqT K H b [.int i,.int j]):EqQ K H (.ref a) (.ref b) true:=⟨a,b,_,_,rfl,rfl,.inr ⟨h1,h2⟩,rfl,rfl,by simp [flatEq,eqV]⟩
noncomputable def Zs(R:Str→Int)(ys:List Str)(zs:List Int):Prop:=(ys=[]→zs=[])∧(ys≠[]→∃w,w∈ys.map R∧(∀y∈ys,R y≤w)∧zs.Pairwise (· < ·)∧∀z,z∈zs↔z=w∨(w < z∧∃i,i < ys.length∧dep R ys i=some z))
noncomputable abbrev stT(C R:Str→Int)(ys:List Str)(z:Int):List V:=[.int z,.int (nMis R ys z ys.length),.int (cMis C R ys z ys.length)]
noncomputable def StepsAt(K:PySem.W.Frag)(C R:Str→Int)(ys:List Str)(H:Hp)(as:List Addr)(zs:List Int):Prop:=as.length=zs.length∧∀(j:Nat) (b:Addr) (z:Int),as[j]?=some b→zs[j]?=some z→SqT K H b (stT C R ys z)
theorem StepsAt.same{K:PySem.W.Frag}{C R:Str→Int}{ys:List Str}{H H':Hp}{as:List Addr}{zs:List Int}(s:Same H H')(h:StepsAt K C R ys H as zs):StepsAt K C R ys H' as zs:=⟨h.1,fun j b z e1 e2=>s.tup (h.2 j b z e1 e2)⟩
noncomputable def sp35_there:Sp:=fun vs H Q _=>∃(o:Option Int) (p:Int),vs=[optV o,.int p]∧Q (.bl (thr o p)) H
noncomputable def sp35_step(K:PySem.W.Frag)(X:Addr):Sp:=fun vs H Q _=>∃(st a d:Addr) (P:Int) (ts:List Th) (ys:List Str),vs=[.ref st,.ref a,.ref d,.int P]∧StockAt K X H st ts∧(ts.map (·.1)).Nodup∧SqL K H a (ys.map V.str)∧ys.length≤200∧(∀y∈ys,y∈ts.map (·.1))∧SqL K H d (depsV (rm ts) ys)∧
 ∀t H',H t=none→Same H H'→H' t=some (.tup (stT (cst ts) (rm ts) ys P))→Q (.ref t) H'
noncomputable def sp35_names:Sp:=fun vs H Q _=>∃(i:Int) (m:Nat),vs=[.int i,.int m]∧m≤9∧∀(p:Addr) (ys:List Str) (H':Hp),H p=none→Same H H'→H' p=some (.lst (ys.map V.str))→ys.length=m→ys.Nodup→(∀y∈ys,nameB y.cps.toList=true)→Q (.ref p) H'
end N35
namespace L2
open N1 N5
theorem eqV_self{x:V}(h:flatV x=true):eqV x x=true:=by
 cases x with
 | non=>rfl
 | bl b=>cases b <;> rfl
 | int i=>exact beq_self_eq_true i
 | str z=>rw [eqV_str];simp
 | _=>cases h
end L2
namespace L2
noncomputable abbrev g3(K:PySem.W.Frag):Blk→TG:=fun _=>gTup K 3 (gCons (gName 0) (gCons (gName 1) (gCons (gName 2) gNil)))
end L2
namespace L2
noncomputable def LikeN(K:PySem.W.Frag):Nat→Hp→V→V→Prop
 | 0,_,x,y=>x=y∧flatV x=true
 | n+1,H,x,y=>LikeN K n H x y∨∃a b xs ys,x= .ref a∧y= .ref b∧((SqL K H a xs∧SqL K H b ys)∨(SqT K H a xs∧SqT K H b ys))∧xs.length=ys.length∧∀(i:Nat) (x' y':V),xs[i]?=some x'→ys[i]?=some y'→LikeN K n H x' y'
noncomputable def LikeR(K:PySem.W.Frag)(n:Nat)(H:Hp)(x y:V):Prop:=∃a b xs ys,x= .ref a∧y= .ref b∧((SqL K H a xs∧SqL K H b ys)∨(SqT K H a xs∧SqT K H b ys))∧xs.length=ys.length∧∀(i:Nat) (x' y':V),xs[i]?=some x'→ys[i]?=some y'→LikeN K n H x' y'
theorem LikeN.up{K:PySem.W.Frag}{H:Hp}{n:Nat}{x y:V}(h:LikeN K n H x y):LikeN K (n+1) H x y:=by unfold LikeN;exact .inl h
theorem LikeN.of{K:PySem.W.Frag}{H:Hp}{n:Nat}{x y:V}(h:LikeR K n H x y):LikeN K (n+1) H x y:=by unfold LikeN;exact .inr h
theorem LikeN.flat{K:PySem.W.Frag}{H:Hp}{x:V}(h:flatV x=true):∀{n:Nat},LikeN K n H x x:=by
 intro n
 induction n with
 | zero=>unfold LikeN;exact ⟨rfl,h⟩
 | succ n ih=>exact ih.up
section
variable {X:Cx} {pins:List (Addr×Obj)} {σ:St} {H:Hp} {s:Shared}
theorem items_of{xs ys:List V}{us ws:List Value}{P:V→V→Prop}{R:Value→Value→Prop}(rx:Vals xs us)(ry:Vals ys ws)(hl:xs.length=ys.length)(h:∀(i:Nat) (x y:V),xs[i]?=some x→ys[i]?=some y→P x y)(k:∀x y u w,RelV x u→RelV y w→P x y→R u w):
 ∀j (h1:j < us.toArray.size) (h2:j < ws.toArray.size),R us.toArray[j] ws.toArray[j]:=by
 intro j h1 h2
 have lx:=rx.length
 have ly:=ry.length
 rw [List.size_toArray]at h1 h2
 have hx:j < xs.length:=by omega
 have hy:j < ys.length:=by omega
 obtain ⟨u,hu,ru⟩:=rx.get (i:=j) (x:=xs[j]) (by simp [hx])
 obtain ⟨w,hw,rw'⟩:=ry.get (i:=j) (x:=ys[j]) (by simp [hy])
 have eu:us.toArray[j]=u:=by
  have:=List.getElem?_eq_getElem h1
  rw [this]at hu
  simpa using hu
 have ew:ws.toArray[j]=w:=by
  have:=List.getElem?_eq_getElem h2
  rw [this]at hw
  simpa using hw
 rw [eu,ew]
 exact k _ _ _ _ ru rw' (h j _ _ (List.getElem?_eq_getElem hx) (List.getElem?_eq_getElem hy))
theorem all_true{n:Nat}:((List.range n).all fun _=>true)=true:=by rw [List.all_eq_true];intros;rfl
theorem likeR_rc{n:Nat}{x y:V}{u w:Value}{A:Around}(I:Inv X pins σ H s)(rx:RelV x u)(ry:RelV y w)(h:LikeR X.K n H x y)(hu:A.units < cLine)
 (k:∀x y u w,RelV x u→RelV y w→LikeN X.K n H x y→SeqAt.EqAt A.in1 s u w true):SeqAt.RcAt A s u w true∧SeqAt.RcNeAt A s u w false:=by
 obtain ⟨a,b,xs,ys,rfl,rfl,hq,hl,hall⟩:=h
 cases rx
 cases ry
 rcases hq with ⟨h1,h2⟩ | ⟨h1,h2⟩
 · obtain ⟨us,r1,p1,z1⟩:=I.list h1
   obtain ⟨ws,r2,p2,z2⟩:=I.list h2
   have lx:=r1.length
   have ly:=r2.length
   have he:=items_of r1 r2 hl hall k
   have c1:=SeqAt.RcAt.lists (e:=fun _=>true) p1.isList p2.isList (by simp;omega) hu he
   have c2:=SeqAt.RcNeAt.lists (e:=fun _=>true) p1.isList p2.isList (by simp;omega) hu he
   rw [all_true]at c1 c2
   exact ⟨c1,c2⟩
 · obtain ⟨us,r1,p1,z1⟩:=I.tuple h1
   obtain ⟨ws,r2,p2,z2⟩:=I.tuple h2
   have lx:=r1.length
   have ly:=r2.length
   have he:=items_of r1 r2 hl hall k
   have hsz:us.toArray.size=ws.toArray.size:=by simp;omega
   have c1:=SeqAt.RcAt.tuples (e:=fun _=>true) (show s.heap.IsTuple a us.toArray from p1) (show s.heap.IsTuple b ws.toArray from p2) hu he
   have c2:=SeqAt.RcNeAt.tuples (e:=fun _=>true) (show s.heap.IsTuple a us.toArray from p1) (show s.heap.IsTuple b ws.toArray from p2) hu he
   rw [all_true,hsz,beq_self_eq_true,Bool.and_true]at c1 c2
   exact ⟨c1,c2⟩
theorem likeN_at(I:Inv X pins σ H s):∀(n:Nat) (x y:V) (u w:Value) (A:Around),RelV x u→RelV y w→LikeN X.K n H x y→A.units+n < cLine→SeqAt.EqAt A s u w true:=by
 intro n
 induction n with
 | zero=>
  intro x y u w A rx ry h hu
  unfold LikeN at h
  obtain ⟨rfl,f⟩:=h
  have:=eqAt_V (A:=A) (s:=s) rx ry f f
  rw [show eqV x x=true from eqV_self f]at this
  exact this
 | succ n ih=>
  intro x y u w A rx ry h hu
  unfold LikeN at h
  rcases h with h | h
  · exact ih x y u w A rx ry h (by omega)
  · have c:=likeR_rc I rx ry h (by omega) (fun x y u w r1 r2 k=>ih x y u w A.in1 r1 r2 k (by show A.units+1+n < cLine;omega))
    obtain ⟨a,b,xs,ys,rfl,rfl,_⟩:=h
    cases rx
    cases ry
    by_cases e:a=b
    · subst e;exact SeqAt.EqAt.same _
    · exact SeqAt.EqAt.of_refs e c.1
noncomputable def rEqN(K:PySem.W.Frag)(n:Nat):R2:=fun x y H Q=>LikeR K n H x y∧Q (.bl true) H
noncomputable def rNeN(K:PySem.W.Frag)(n:Nat):R2:=fun x y H Q=>LikeR K n H x y∧Q (.bl false) H
theorem op_eqN{k:Nat}(n:Nat)(hr:Room k X.A)(hn:n≤100:=by decide):OpR X (compareOp .Eq) (rEqN X.K n):=by
 intro pins s σ H x y v u Q I rx ry h
 have hu:X.A.units < cLine:=Nat.lt_of_le_of_lt (by omega) hr.un
 exact (likeR_rc I rx ry h.1 hu (fun x y u w r1 r2 k=>likeN_at I n x y u w X.A.in1 r1 r2 k (by have:=hr.un;show X.A.units+1+n < cLine;omega))).1 X.prog X.w X.xe _ ⟨.bl true,H,I,rfl,h.2⟩
theorem op_neN{k:Nat}(n:Nat)(hr:Room k X.A)(hn:n≤100:=by decide):OpR X (compareOp .NotEq) (rNeN X.K n):=by
 intro pins s σ H x y v u Q I rx ry h
 have hu:X.A.units < cLine:=Nat.lt_of_le_of_lt (by omega) hr.un
 exact (likeR_rc I rx ry h.1 hu (fun x y u w r1 r2 k=>likeN_at I n x y u w X.A.in1 r1 r2 k (by have:=hr.un;show X.A.units+1+n < cLine;omega))).2 X.prog X.w X.xe _ ⟨.bl false,H,I,rfl,h.2⟩
theorem rd_neN{K:PySem.W.Frag}{H:Hp}{Q:VK}{x y:V}{n:Nat}:rNeN K n x y H Q=(LikeR K n H x y∧Q (.bl false) H):=rfl
end
end L2
namespace L2
noncomputable def Itk(o:Obj)(d:Addr):It:=
 ⟨fun i H=>∃kvs p,H d=some (.frz o (.dK kvs))∧kvs[i]?=some p,fun i H v H'=>H'=H∧∀kvs,H d=some (.frz o (.dK kvs))→∃p,kvs[i]?=some p∧v=kV p.1,
  fun i H=>∃kvs,H d=some (.frz o (.dK kvs))∧kvs.length≤i⟩
noncomputable def tnK(o:Obj)(I d:Addr)(i:Nat)(h:Heap):Prop:=d≠I∧∃es ep,o.data= .dict es ep∧h.IsKeyIter I d i es.size ep
theorem turn_keys{P:Program}{w:World}{K:PySem.W.Frag}{tg:Expr}(o:Obj)(d I:Addr):Turn P w K tg (Itk o d) [I] I (tnK o I d) where
 mem:=by simp
 obj:=fun i h st c hc=>by
  obtain ⟨_,es,ep,_,o1,h1,h2,h3⟩:=st
  have hc:c=I:=by simpa using hc
  subst hc
  exact ⟨_,h1,fun v z=>by rw [h3]at z;cases z⟩
 keep:=fun i h h' st kk=>by
  obtain ⟨ne,es,ep,hd,o1,h1,h2,h3⟩:=st
  exact ⟨ne,es,ep,hd,o1,kk I (by simp) _ h1,h2,h3⟩
 item:=by
  intro X hP hw hK hc i pins s σ H E J hf st hg
  subst hP hw hK
  obtain ⟨kvs,p,hd,hp⟩:=hg
  obtain ⟨ne,es,ep,hdat,h1⟩:=st
  obtain ⟨e,z,lo,ws,rel,ob,es2,ep2,e1,c1,d1,r1⟩:=J.hok d _ hd
  have e1':=e1
  rw [e]at e1'
  cases e1'
  rw [hdat]at d1
  cases d1
  have dat:s.heap.DictAt (mixKind X.prog X.w) d ws ep:=⟨o,es,e1,c1,hdat,r1⟩
  have hsz:es.size=ws.length:=by
   obtain ⟨_,hpr,_⟩:=r1
   rw [← hpr.length];simp
  rw [hsz]at h1
  have hlw:i < ws.length:=by rw [← rel.length];exact (List.getElem?_eq_some_iff.mp hp).1
  have hw:ws[i]?=some (ws[i]):=List.getElem?_eq_getElem hlw
  obtain ⟨p',hp',hpk,hpv⟩:=paired_get rel hw
  rw [hp]at hp'
  cases hp'
  obtain ⟨f0,f1,f2,f3,f4,f5⟩:=hf I (by simp)
  refine wpAny_pyNext_dict_item h1 dat (k:=(ws[i]).1) (v:=(ws[i]).2) hw fun key h' hkey hit' sb=>?_
  have I1:Inv X pins σ H {s with heap:=h'}:=J.turned (t':=s.toks) (fun b o hb e=>(sb.2 b hb).trans e) f0 f1 f3 f4 f5
  have rk:RelV (kV p.1) key:=by rw [hpk];exact kV_of hkey
  obtain ⟨o',e',c',d'⟩:=id hit'
  exact ⟨key,rfl,go_of (s:={s with heap:=h'}) e' c' d' (by decide) ⟨kV p.1,H,I1,rk,⟨rfl,fun kvs' hy'=>by rw [hd]at hy';cases hy';exact ⟨p,hp,rfl⟩⟩,⟨ne,es,ep,hdat,by rw [hsz];exact hit'⟩,fun c hc=>(hf c hc).1⟩⟩
 done:=by
   intro X hP hw hK hc i pins s σ H E J hf st hg
   subst hP hw hK
   obtain ⟨kvs,hd,hl⟩:=hg
   obtain ⟨ne,es,ep,hdat,h1⟩:=st
   obtain ⟨e,z,lo,ws,rel,ob,es2,ep2,e1,c1,d1,r1⟩:=J.hok d _ hd
   have e1':=e1
   rw [e]at e1'
   cases e1'
   rw [hdat]at d1
   cases d1
   have dat:s.heap.DictAt (mixKind X.prog X.w) d ws ep:=⟨o,es,e1,c1,hdat,r1⟩
   have hsz:es.size=ws.length:=by
    obtain ⟨_,hpr,_⟩:=r1
    rw [← hpr.length];simp
   rw [hsz]at h1
   have hn:ws[i]?=none:=List.getElem?_eq_none (by rw [← rel.length];exact hl)
   obtain ⟨f0,f1,f2,f3,f4,f5⟩:=hf I (by simp)
   exact wpAny_pyNext_dict_end (J.ok.hd hc) h1 dat hn fun h' eb=>⟨rfl,J.turned (t':=s.toks) (fun b o hb e=>eb b o hb e) f0 f1 f3 f4 f5⟩
 self:=fun A i s Q E st h=>by
  obtain ⟨_,es,ep,_,h1⟩:=st
  exact wpAny_pyIter_keyiter h1 h
section
variable {X:Cx}
noncomputable def iDict(tl:TE):TI:=fun σ H R=>tl σ H fun x H1=>∃d kvs,x= .ref d∧((H1 d=some (.dK kvs)∧∀o,R (Itk o d) (upd H1 d (.frz o (.dK kvs))))∨∃o,H1 d=some (.frz o (.dK kvs))∧R (Itk o d) H1)
theorem pi_dict{tg e:Expr}{tl:TE}(hl:PE X e tl):PI X tg e (iDict tl):=by
 intro pins s σ H R I h
 refine thn (hl pins s σ H _ I h) fun u s1 hq_=>?_
 obtain ⟨x,H1,I1,rx,q⟩:=hq_
 obtain ⟨d,kvs,rfl,hq⟩:=q
 cases rx
 have key:∀(o:Obj) (H2:Hp),Inv X pins σ H2 s1→H2 d=some (.frz o (.dK kvs))→R (Itk o d) H2→wpAny (model X.prog X.w) X.A (pyIter (.ref d)) (PIE X pins σ tg R) X.xe s1:=by
  intro ob H2 I2 hd q
  obtain ⟨e,z,lo,ws,rel,ob',es2,ep2,e1,c1,d1,r1⟩:=I2.hok d _ hd
  have e1':=e1
  rw [e]at e1'
  cases e1'
  have dat:s1.heap.DictAt (mixKind X.prog X.w) d ws ep2:=⟨ob,es2,e1,c1,d1,r1⟩
  have hsz:es2.size=ws.length:=by
   obtain ⟨_,hpr,_⟩:=r1
   rw [← hpr.length];simp
  refine wpAny_pyIter_dict lo dat ?_
  have I3:Inv X pins σ H2 {s1 with heap:=s1.heap.push {cls:= .type "dict_keyiterator",data:= .fields #[.ref d,.int 0 0,.int ws.length 0,.int ep2 0]}}:=I2.kept (t':=s1.toks) fun b o e=>Heap.get?_push_of_some _ e
  have ltd:=Heap.lt_size e1
  refine ⟨s1.heap.objs.size,[s1.heap.objs.size],_,_,_,rfl,I3,turn_keys ob d s1.heap.objs.size,⟨Nat.ne_of_lt ltd,es2,ep2,d1,?_⟩,fun c hc=>?_,q⟩
  · rw [hsz];exact ⟨_,Heap.get?_push_size _ rfl,rfl,rfl⟩
  · have hc:c=s1.heap.objs.size:=by simpa using hc
    subst hc
    exact I2.fpOk (Nat.le_refl _) (I2.hok.fresh (Nat.le_refl _))
 rcases hq with ⟨hd,q⟩ | ⟨o,hd,q⟩
 · obtain ⟨z,lo,ws,rel,ob,es2,ep2,e1,c1,d1,r1⟩:=I1.hok d _ hd
   have I2:Inv X pins σ (upd H1 d (.frz ob (.dK kvs))) {s1 with heap:=s1.heap,toks:=s1.toks}:=I1.write (x:=d) (e:=d) (by rw [hd];trivial) (.inl rfl) (fun b u _ e=>e) ⟨ob,e1⟩ ⟨e1,z,lo,ws,rel,ob,es2,ep2,e1,c1,d1,r1⟩
   exact key ob _ I2 upd_same (q ob)
 · exact key o H1 I1 hd q
end
section
variable {σ:St} {H:Hp} {D:Ends}
theorem rd_idict{tl:TE}{R:It→Hp→Prop}:iDict tl σ H R=tl σ H fun x H1=>∃d kvs,x= .ref d∧((H1 d=some (.dK kvs)∧∀o,R (Itk o d) (upd H1 d (.frz o (.dK kvs))))∨∃o,H1 d=some (.frz o (.dK kvs))∧R (Itk o d) H1):=rfl
end
end L2
namespace L2
section
variable {tail:St} {te:Blk→TE} {Q:VK} {H1:Hp}
theorem compK_ix{o:Obj}{d:Addr}{kvs:List (Key×V)}(f:Nat→V)(hS:H1 d=some (.frz o (.dK kvs)))(hz:kvs.length≤sizeLine)(he:∀b i p H Q',kvs[i]?=some p→Same H1 H→Q' (f i) H→te b (some (kV p.1)::tail) H Q')
 (q:∀D,H1 D=none→Q (.ref D) (upd H1 D (.lst ((List.range kvs.length).map f)))):CompTail (none::tail) (fun _=>gName 0) (fun _=>tYes) te Q (Itk o d) H1:=by
 refine comp_by kvs.length (fun b D hD=>⟨fun i ys H=>i≤kvs.length∧ys=(List.range i).map f∧H=upd H1 D (.lst ys),⟨Nat.zero_le _,rfl,rfl⟩,?_,?_,?_⟩)
 · rintro i ys H ⟨hi,rfl,rfl⟩
   exact upd_same
 · rintro ys H ⟨_,rfl,rfl⟩
   exact ⟨⟨kvs,same_new hD _ _ hS,Nat.le_refl _⟩,q D hD⟩
 · rintro i ys H hi ⟨_,rfl,rfl⟩
   refine ⟨⟨kvs,kvs[i],same_new hD _ _ hS,by simp [hi]⟩,fun x H3 ⟨e3,ex⟩=>?_⟩
   subst e3
   obtain ⟨p,e1,e2⟩:=ex kvs (same_new hD _ _ hS)
   subst e2
   refine he b i p _ _ e1 (same_new hD) (compNext upd_same (by rw [List.length_map,List.length_range];omega) hi ⟨hi,?_,?_⟩)
   · rw [List.range_succ];simp
   · funext a;by_cases ha:a=D <;> simp [upd,ha]
end
end L2
namespace L2
theorem compR_if{tail:St}{tt:Blk→TT}{te:Blk→TE}{Q:VK}{H1:Hp}{n:Nat}(p:Nat→Bool)(f:Nat→V)(hz:n≤sizeLine)
 (ht:∀b (i:Nat) H QT,i < n→Same H1 H→(∀H',Same H H'→QT (p i) H')→tt b (some (.int (0+(i:Int)))::tail) H QT)
 (he:∀b (i:Nat) H Q',i < n→p i=true→Same H1 H→(∀H',Same H H'→Q' (f i) H')→te b (some (.int (0+(i:Int)))::tail) H Q')
 (q:∀D H',H1 D=none→Same H1 H'→H' D=some (.lst (((List.range n).filter p).map f))→Q (.ref D) H'):CompTail (none::tail) (fun _=>gName 0) tt te Q (Itr 0 n) H1:=by
 intro b D hD
 refine ⟨fun i m ys H=>m=n - i∧i≤n∧ys=((List.range i).filter p).map f∧H D=some (.lst ys)∧Same H1 H,⟨_,rfl,Nat.zero_le _,rfl,upd_same,same_new hD⟩,?_⟩
 rintro i m ys H ⟨rfl,hi,rfl,hd,sm⟩
 refine ⟨hd,?_⟩
 by_cases hlt:i < n
 · refine .inr ⟨hlt,fun x H3 ⟨e3,ex⟩=>⟨kept0,?_⟩⟩
   subst e3 ex
   have hl:(((List.range i).filter p).map f).length≤i:=by
    rw [List.length_map];exact Nat.le_trans (List.length_filter_le _ _) (by rw [List.length_range];omega)
   have htk:(List.range (i+1)).filter p=(List.range i).filter p++[i].filter p:=by rw [List.range_succ,List.filter_append]
   refine ht b i _ _ hlt sm fun H7 s7=>?_
   by_cases hp:p i=true
   · rw [if_pos hp]
     refine he b i H7 _ hlt hp (sm.trans s7) fun H8 s8=>?_
     have hd8:=(s7.trans s8) _ _ hd
     refine ⟨hd8,by omega,n - (i+1),by omega,rfl,hlt,?_,upd_same,same_put ((sm.trans s7).trans s8) hD⟩
     rw [htk,List.filter_cons_of_pos hp,List.filter_nil,List.map_append];rfl
   · rw [if_neg hp]
     refine ⟨n - (i+1),by omega,rfl,hlt,?_,s7 _ _ hd,sm.trans s7⟩
     rw [htk,List.filter_cons_of_neg hp,List.filter_nil,List.append_nil]
 · have e:i=n:=by omega
   subst e
   exact .inl ⟨Nat.le_refl _,q D H hD sm hd⟩
end L2
namespace L2
noncomputable def rSortI(K:PySem.W.Frag):List V→Hp→VK→Prop:=fun xs H Q=>∃(p:Addr) (ys:List Int),xs=[.ref p]∧SqL K H p (ys.map V.int)∧ys.length < 64∧∀(q:Addr) (zs:List Int),H q=none→zs.Perm ys→zs.Pairwise (· ≤·)→Q (.ref q) (upd H q (.lst (zs.map V.int)))
theorem sorI_in{ys:List Int}:∀{us:List Value},Vals (ys.map V.int) us→IntsAre us ys:=by
 induction ys with
 | nil=>intro us h;cases h;exact .nil
 | cons y r ih=>
  intro us h
  cases h with
  | cons a b=>
   obtain ⟨t,rfl⟩:=a
   exact .cons y t (ih b)
section
variable {X:Cx}
theorem call_sortI:CallR X (.builtin "sorted") (rSortI X.K):=by
 intro pins s σ H xs us Q I r h
 obtain ⟨p,ys,rfl,hp,hl,q⟩:=h
 obtain ⟨u,rfl,rx⟩:=vals1 r
 cases rx
 obtain ⟨its,rel,pl,hz⟩:=I.list hp
 have hlen:=rel.length
 rw [List.length_map]at hlen
 refine sorted_ints pl.isList (sorI_in rel) (by omega) fun out ns' a1 a2 a3=>?_
 obtain ⟨e,he⟩:=sortedAll_at s.heap its out
 refine ⟨.ref (s.heap.objs.size+1),_,I.laid (t':=s.toks) (fun b u q=>sortedAll_old q) (Nat.le_succ _) (show ObjOk X.prog X.w _ (sortedAll s.heap its out) _ (.lst (ns'.map V.int)) from ⟨?_,out.toList,e,vals_ofI a1,?_⟩),rfl,q _ ns' (I.hok.fresh (Nat.le_succ _)) a2 a3⟩
 · rw [List.length_map,a2.length_eq];exact Nat.le_trans (Nat.le_of_lt hl) (by rw [sizeLine_eq];decide)
 · rw [Array.toArray_toList];exact he
end
theorem rd_sortI{K:PySem.W.Frag}{xs:List V}{H:Hp}{Q:VK}:rSortI K xs H Q=∃(p:Addr) (ys:List Int),xs=[.ref p]∧SqL K H p (ys.map V.int)∧ys.length < 64∧∀(q:Addr) (zs:List Int),H q=none→zs.Perm ys→zs.Pairwise (· ≤·)→Q (.ref q) (upd H q (.lst (zs.map V.int))):=rfl
end L2
namespace N34
open L2 N1 N5 N31 N4 N32 N41 N35
variable {ys:List Str} {R:Str→Int} {n c:Nat}
theorem perm_sum{l l':List Str}(p:l.Perm l'):(l.map R).sum=(l'.map R).sum:=by
 induction p with
 | nil=>rfl
 | cons x _ ih=>rw [List.map_cons,List.map_cons,List.sum_cons,List.sum_cons,ih]
 | swap x y l=>rw [List.map_cons,List.map_cons,List.map_cons,List.map_cons,List.sum_cons,List.sum_cons,List.sum_cons,List.sum_cons];omega
 | trans _ _ a b=>exact a.trans b
theorem lt_uniq:∀(a b:List Int),a.Pairwise (· < ·)→b.Pairwise (· < ·)→(∀z,z∈a↔z∈b)→a=b:=by
 intro a
 induction a with
 | nil=>
  intro b _ _ h
  cases b with
  | nil=>rfl
  | cons y t=>exact absurd ((h y).mpr (.head _)) (by simp)
 | cons x r ih=>
  intro b ha hb h
  cases b with
  | nil=>exact absurd ((h x).mp (.head _)) (by simp)
  | cons y t=>
   obtain ⟨a1,a2⟩:=List.pairwise_cons.mp ha
   obtain ⟨b1,b2⟩:=List.pairwise_cons.mp hb
   have e:x=y:=by
    rcases List.mem_cons.mp ((h x).mp (.head _)) with e | e
    · exact e
    · rcases List.mem_cons.mp ((h y).mpr (.head _)) with e' | e'
      · exact e'.symm
      · have:=b1 x e
        have:=a1 y e'
        omega
   subst e
   congr 1
   refine ih t a2 b2 fun z=>⟨fun hz=>?_,fun hz=>?_⟩
   · rcases List.mem_cons.mp ((h z).mp (.tail _ hz)) with e | e
     · subst e;exact absurd (a1 z hz) (Int.lt_irrefl _)
     · exact e
   · rcases List.mem_cons.mp ((h z).mpr (.tail _ hz)) with e | e
     · subst e;exact absurd (b1 z hz) (Int.lt_irrefl _)
     · exact e
theorem Zs.one{zs zs':List Int}(h:Zs R ys zs)(h':Zs R ys zs'):zs=zs':=by
 by_cases e:ys=[]
 · rw [h.1 e,h'.1 e]
 · obtain ⟨w,a1,a2,a3,a4⟩:=h.2 e
   obtain ⟨w',b1,b2,b3,b4⟩:=h'.2 e
   have ew:w=w':=by
    obtain ⟨y,hy,rfl⟩:=List.mem_map.mp a1
    obtain ⟨y',hy',rfl⟩:=List.mem_map.mp b1
    have:=a2 y' hy'
    have:=b2 y hy
    omega
   subst ew
   exact lt_uniq _ _ a3 b3 fun z=>(a4 z).trans (b4 z).symm
theorem len_sub:∀(l l':List Str),l.Nodup→(∀x∈l,x∈l')→l.length≤l'.length:=by
 intro l
 induction l with
 | nil=>intro l' _ _;exact Nat.zero_le _
 | cons a r ih=>
  intro l' nd sub
  obtain ⟨na,nr⟩:=List.nodup_cons.mp nd
  have hl:=(List.perm_cons_erase (sub a (.head _))).length_eq
  have:=ih (l'.erase a) nr fun x hx=>(List.mem_erase_of_ne (fun e=>by rw [e]at hx;exact na hx)).mpr (sub x (.tail _ hx))
  simp only [List.length_cons]at hl ⊢
  omega
noncomputable def d0:Option Int→Int
 | none=>0
 | some d=>d
structure Back(ys:List Str)(i:Nat)(m:Int)(ks:List Str):Prop where
 nd:ks.Nodup
 mem:∀z,z∈ks↔z=yat ys i∨∃j:Nat,m < j∧j < i∧yat ys j=z
 no:∀j:Nat,m < j→j < i→yat ys j≠yat ys i
theorem Back.zero{i:Nat}:Back ys i ((i:Int) - 1) [yat ys i]:=by
 refine ⟨List.pairwise_singleton _ _,fun z=>?_,fun j h1 h2=>absurd h1 (by omega)⟩
 rw [List.mem_singleton]
 exact ⟨.inl,fun h=>h.elim id fun ⟨j,h1,h2,_⟩=>absurd h1 (by omega)⟩
noncomputable def addK(ks:List Str)(z:Str):List Str:=if z∈ks then ks else ks++[z]
theorem Back.step{i m:Nat}{ks:List Str}(h:Back ys i m ks)(hm:m < i)(hn:yat ys m≠yat ys i):Back ys i ((m:Int) - 1) (addK ks (yat ys m)):=by
 unfold addK
 have key:∀z,(z∈ks∨z=yat ys m)↔z=yat ys i∨∃j:Nat,(m:Int) - 1 < j∧j < i∧yat ys j=z:=fun z=>by
  rw [h.mem z]
  constructor
  · rintro ((e | ⟨j,h1,h2,h3⟩) | e)
    · exact .inl e
    · exact .inr ⟨j,by omega,h2,h3⟩
    · exact .inr ⟨m,by omega,hm,e.symm⟩
  · rintro (e | ⟨j,h1,h2,h3⟩)
    · exact .inl (.inl e)
    · by_cases e:j=m
      · subst e;exact .inr h3.symm
      · exact .inl (.inr ⟨j,by omega,h2,h3⟩)
 have no:∀j:Nat,(m:Int) - 1 < j→j < i→yat ys j≠yat ys i:=fun j h1 h2=>by
  by_cases e:j=m
  · subst e;exact hn
  · exact h.no j (by omega) h2
 split
 · rename_i hz
   exact ⟨h.nd,fun z=>by rw [← key z];exact ⟨.inl,fun x=>x.elim id fun e=>e▸hz⟩,no⟩
 · rename_i hz
   refine ⟨List.nodup_append.mpr ⟨h.nd,List.pairwise_singleton _ _,fun a ha b hb e=>hz (by rw [List.mem_singleton.mp hb]at e;rw [← e];exact ha)⟩,fun z=>?_,no⟩
   rw [List.mem_append,List.mem_singleton];exact key z
theorem Back.none{i:Nat}{ks:List Str}(h:Back ys i (-1) ks):d0 (dep R ys i)=0:=by
 rw [dep_none fun j _ h2=>h.no j (by omega) h2];rfl
theorem Back.some{i m:Nat}{ks:List Str}(h:Back ys i m ks)(hm:m < i)(e:yat ys m=yat ys i):d0 (dep R ys i)=(ks.map R).sum:=by
 rw [dep_some hm e fun j h1 h2=>h.no j (by omega) h2]
 show R (yat ys i)+tl (W R ys i) (m+1) i=_
 rw [← rc_sum (by omega),← List.sum_cons,← List.map_cons]
 have hy:yat ys i∉rc ys i (m+1):=fun z=>by
  obtain ⟨b,hb,eb⟩:=(mem_rc (by omega)).mp z
  have:=last_lt eb
  exact h.no b (by omega) this.1 this.2
 refine (perm_sum (perm_of (yat ys i::rc ys i (m+1)) ks (List.nodup_cons.mpr ⟨hy,rc_nodup⟩) (fun x hx=>?_) ?_)).symm
 · rw [h.mem x]
   rcases List.mem_cons.mp hx with e | hx
   · exact .inl e
   · obtain ⟨b,hb,eb⟩:=(mem_rc (by omega)).mp hx
     have:=last_lt eb
     exact .inr ⟨b,by omega,this.1,this.2⟩
 · have sub:∀x∈ks,x∈yat ys i::rc ys i (m+1):=fun x hx=>by
    rcases (h.mem x).mp hx with e | ⟨j,h1,h2,h3⟩
    · exact List.mem_cons.mpr (.inl e)
    · refine List.mem_cons.mpr (.inr ((mem_rc (by omega)).mpr ?_))
      cases hl:lastIx ys x i with
      | none=>
       exfalso
       have:∀n,n≤i→lastIx ys x n=Option.none→∀j,j < n→yat ys j≠x:=by
        intro n
        induction n with
        | zero=>intro _ _ j hj;omega
        | succ n ih=>
         intro hn hnone j hj
         unfold lastIx at hnone
         split at hnone
         · cases hnone
         · rename_i hne
           by_cases e:j=n
           · subst e;exact hne
           · exact ih (by omega) hnone j (by omega)
       exact this i (Nat.le_refl _) hl j h2 h3
      | some b=>
       refine ⟨b,?_,rfl⟩
       rcases Nat.lt_or_ge b (m+1) with hb | hb
       · exact absurd h3 (last_not hl (by omega) h2)
       · exact hb
   exact len_sub _ _ h.nd sub
noncomputable def Fp(i:Int)(k:Nat):Nat→Int
 | 0=>i+(k:Int) / 8
 | j+1=>(i / 24).fdiv ((j:Int)+1)+5 * j
noncomputable def nmP(i:Int)(k:Nat):List Nat:=nmL (Fp i k) (-1) (1+k % 8) 0
noncomputable def tailL(i:Int)(n:Nat):List Nat:=(List.range n).map fun (j:Nat)=>bc (((i / 24).fdiv ((j:Int)+1)+5 * j) % 36)
theorem tail_succ{i:Int}{n:Nat}:tailL i (n+1)=tailL i n++[bc (((i / 24).fdiv ((n:Int)+1)+5 * n) % 36)]:=by
 unfold tailL;rw [List.range_succ,List.map_append];rfl
theorem nmP_eq{i:Int}{k:Nat}:nmP i k=bc ((i+(k:Int) / 8) % 26)::(tailL i 7).take (k % 8):=by
 unfold nmP nmL tailL
 rw [Nat.add_comm,List.range_succ_eq_map,List.map_cons,List.map_map,← List.map_take,List.take_range,Nat.min_eq_left (by omega)]
 congr 1
 · unfold sgn md
   rw [if_neg (by omega),if_pos rfl,Int.add_zero];rfl
 · refine List.map_congr_left fun j _=>?_
   show sgn (Fp i k) (-1) 0 (j+1)=_
   unfold sgn md
   rw [if_neg (by omega),if_neg (by omega),Int.add_zero];rfl
theorem nmP_name{i:Int}{k:Nat}:nameB (nmP i k)=true:=nmL_name (by omega) (by omega)
theorem nmP_inj{i:Int}{k k':Nat}(hk:k < 26)(hk':k' < 26)(h:nmP i k=nmP i k'):k=k':=by
 have hl:=congrArg List.length h
 unfold nmP nmL at hl
 rw [List.length_map,List.length_map,List.length_range,List.length_range]at hl
 rw [nmP_eq,nmP_eq]at h
 injection h with h1 _
 have h2:=bc_mod (j:=0) (show bc ((i+(k:Int) / 8) % md 0)=bc ((i+(k':Int) / 8) % md 0) from h1)
 have h3:(i+(k:Int) / 8) % 26=(i+(k':Int) / 8) % 26:=h2
 omega
noncomputable def nmsP(i:Int)(m:Nat):List Str:=(List.range m).map fun k=>tx (nmP i k)
theorem nmsP_nodup{i:Int}{m:Nat}(hm:m≤26):(nmsP i m).Nodup:=by
 unfold nmsP List.Nodup
 rw [List.pairwise_map]
 refine List.Pairwise.imp_of_mem (R:=fun a b=>a≠b) ?_ List.nodup_range
 intro a b ha hb hab e
 exact hab (nmP_inj (by have:=List.mem_range.mp ha;omega) (by have:=List.mem_range.mp hb;omega) (T_inj e))
theorem compR_pureS{tail:L2.St}{te:Blk→TE}{Q:VK}{H1:Hp}{n:Nat}(f:Nat→V)(hz:n≤sizeLine)(he:∀b (i:Nat) H Q',i < n→Same H1 H→(∀H',Same H H'→Q' (f i) H')→te b (some (.int (0+(i:Int)))::tail) H Q')
 (q:∀D H',H1 D=none→Same H1 H'→H' D=some (.lst ((List.range n).map f))→Q (.ref D) H'):CompTail (none::tail) (fun _=>gName 0) (fun _=>tYes) te Q (Itr 0 n) H1:=by
 refine compR_mk (lo:=0) (fun i v _=>v=f i) (fun i y H H' l zs h _ _=>h) hz (fun b i H Q' hi sm q'=>he b i H Q' hi sm fun H' sm'=>q' _ _ sm' rfl) fun D ys H' hD sm hd hl hall=>?_
 have e:ys=(List.range n).map f:=by
  apply List.ext_getElem?
  intro i
  by_cases hi:i < n
  · rw [List.getElem?_map,List.getElem?_range hi,List.getElem?_eq_getElem (by omega)]
    exact congrArg some (hall i _ (List.getElem?_eq_getElem (by omega)))
  · rw [List.getElem?_eq_none (by omega),List.getElem?_eq_none (by rw [List.length_map,List.length_range];omega)]
 rw [e]at hd
 exact q D H' hD sm hd
theorem ixm_eq{l:List Nat}{F:Nat→Int}:(List.range (l.map (fun (j:Nat)=>V.int (j:Int))).length).map (fun j=>V.int (F (l.getD j 0)))=(l.map F).map V.int:=by
 rw [List.length_map]
 apply List.ext_getElem?
 intro i
 rw [List.getElem?_map,List.getElem?_map,List.getElem?_map]
 by_cases hi:i < l.length
 · rw [List.getElem?_range hi,List.getElem?_eq_getElem hi]
   show some (V.int (F (l.getD i 0)))=_
   rw [List.getD_eq_getElem?_getD,List.getElem?_eq_getElem hi];rfl
 · rw [List.getElem?_eq_none (by rw [List.length_range];omega),List.getElem?_eq_none (by omega)];rfl
theorem slice_take{l:List Nat}{k:Nat}(h:k≤l.length):Txt.slice (tx l) none (some (k:Int))=tx (l.take k):=by
 have e:=beq_iff_eq.mp (PyProof.Rows.slice_closes_toL (x:=tx l) (j:=(k:Int)) (by omega) (by rw [T_len];omega))
 rw [e,T_list]
 unfold tx
 rw [show ((k:Int) - 0).toNat=k by omega];rfl
structure Edg(w:Int)(ds zs:List Int):Prop where
 inc:zs.Pairwise (· < ·)
 mem:∀z,z∈zs↔z=w∨(w < z∧z∈ds)
theorem Edg.zero{w:Int}:Edg w [] [w]:=⟨List.pairwise_singleton _ _,fun z=>by simp⟩
theorem Edg.last{w:Int}{ds pre:List Int}{e:Int}(h:Edg w ds (pre++[e])):w≤e∧(w < e→e∈ds)∧∀z∈pre,z < e:=by
 have he:=(h.mem e).mp (List.mem_append_right _ (.head _))
 refine ⟨?_,fun c=>he.elim (fun x=>by omega) (·.2),fun z hz=>(List.pairwise_append.mp h.inc).2.2 z hz e (.head _)⟩
 rcases he with x | x
 · omega
 · omega
theorem Edg.more{w d e:Int}{ds pre:List Int}(h:Edg w ds (pre++[e]))(hs:∀x∈ds,x≤d)(c:e < d):Edg w (ds++[d]) (pre++[e]++[d]):=by
 obtain ⟨l1,l2,l3⟩:=h.last
 refine ⟨List.pairwise_append.mpr ⟨h.inc,List.pairwise_singleton _ _,fun a ha b hb=>?_⟩,fun z=>?_⟩
 · rw [List.mem_singleton.mp hb]
   rcases List.mem_append.mp ha with ha | ha
   · have:=l3 a ha;omega
   · rw [List.mem_singleton.mp ha];exact c
 · rw [List.mem_append,h.mem z,List.mem_singleton,List.mem_append,List.mem_singleton]
   constructor
   · rintro ((e | e) | e)
     · exact .inl e
     · exact .inr ⟨e.1,.inl e.2⟩
     · exact .inr ⟨by omega,.inr e⟩
   · rintro (e | ⟨e,e' | e'⟩)
     · exact .inl (.inl e)
     · exact .inl (.inr ⟨e,e'⟩)
     · exact .inr e'
theorem Edg.keep{w d e:Int}{ds pre:List Int}(h:Edg w ds (pre++[e]))(hs:∀x∈ds,x≤d)(c:¬e < d):Edg w (ds++[d]) (pre++[e]):=by
 obtain ⟨l1,l2,l3⟩:=h.last
 refine ⟨h.inc,fun z=>?_⟩
 rw [h.mem z,List.mem_append,List.mem_singleton]
 constructor
 · rintro (e | e)
   · exact .inl e
   · exact .inr ⟨e.1,.inl e.2⟩
 · rintro (e' | ⟨e',e'' | e''⟩)
   · exact .inl e'
   · exact .inr ⟨e',e''⟩
   · subst e''
     have h1:=l2 (by omega)
     have:=hs e h1
     have:e=z:=by omega
     subst this
     exact .inr ⟨e',h1⟩
noncomputable def ldp(R:Str→Int)(ys:List Str):List Int:=(List.range ys.length).map fun i=>d0 (dep R ys i)
theorem dep_pos(hR:∀y∈ys,1≤R y)(h0:∀z,0≤R z){i:Nat}(hi:i < ys.length){d:Int}(h:dep R ys i=some d):1≤d:=by
 unfold dep at h
 cases e:ear ys i with
 | none=>rw [e]at h;cases h
 | some b=>
  rw [e]at h
  have h:tl (W R ys i) b i=d:=by simpa using h
  obtain ⟨h1,h2⟩:=last_lt e
  rw [tl_step h1]at h
  have hW:W R ys i b=R (ys.getD b Str.empty):=by
   unfold W
   rw [h2]
   exact if_pos e
  have hy:ys.getD b Str.empty∈ys:=by rw [List.getD_eq_getElem?_getD,List.getElem?_eq_getElem (by omega)];exact List.getElem_mem _
  have:=hR _ hy
  have h3:=tl_mono (ys:=ys) (R:=R) (m:=i) h0 (show b+1≤i from h1) (Nat.le_refl i)
  rw [tl_end]at h3
  rw [hW]at h
  omega
theorem ldp_mem(hR:∀y∈ys,1≤R y)(h0:∀z,0≤R z){w z:Int}(hw:0≤w)(hz:w < z):z∈ldp R ys↔∃i,i < ys.length∧dep R ys i=some z:=by
 unfold ldp
 rw [List.mem_map]
 constructor
 · rintro ⟨i,hi,e⟩
   refine ⟨i,List.mem_range.mp hi,?_⟩
   cases h:dep R ys i with
   | none=>rw [h]at e;have:(0:Int)=z:=e;omega
   | some d=>rw [h]at e;have:d=z:=e;rw [this]
 · rintro ⟨i,hi,e⟩
   exact ⟨i,List.mem_range.mpr hi,by rw [e];rfl⟩
theorem gone_is(hR:∀y∈ys,1≤R y)(h0:∀z,0≤R z){z:Int}:((List.range ys.length).filter fun i=>decide (d0 (dep R ys i)=0) || decide (z < d0 (dep R ys i)))=mis R ys z ys.length:=by
 unfold mis
 refine List.filter_congr fun i hi=>?_
 have hi:=List.mem_range.mp hi
 cases h:dep R ys i with
 | none=>rfl
 | some d=>
  have:=dep_pos hR h0 hi h
  show (decide (d=0) || decide (z < d))=!decide (d≤z)
  by_cases c:d≤z
  · rw [decide_eq_true c,decide_eq_false (by omega),decide_eq_false (by omega)];rfl
  · rw [decide_eq_false c,decide_eq_true (show z < d by omega),Bool.or_true];rfl
theorem Edg.zs{w:Int}{ds zs:List Int}(h:Edg w ds zs)(hp:∀z,z∈ds↔z∈ldp R ys)(hR:∀y∈ys,1≤R y)(h0:∀z,0≤R z)(hw:w∈ys.map R)(hx:∀y∈ys,R y≤w):Zs R ys zs:=by
 have hw0:0≤w:=by
  obtain ⟨y,hy,rfl⟩:=List.mem_map.mp hw
  exact h0 y
 refine ⟨fun e=>(by rw [e]at hw;cases hw),fun _=>⟨w,hw,hx,h.inc,fun z=>?_⟩⟩
 rw [h.mem z]
 constructor
 · rintro (e | ⟨e,e'⟩)
   · exact .inl e
   · exact .inr ⟨e,(ldp_mem hR h0 hw0 e).mp ((hp z).mp e')⟩
 · rintro (e | ⟨e,e'⟩)
   · exact .inl e
   · exact .inr ⟨e,(hp z).mpr ((ldp_mem hR h0 hw0 e).mpr e')⟩
noncomputable def StepsH(C R:Str→Int)(ys:List Str)(H:Hp)(as:List Addr)(zs:List Int):Prop:=as.length=zs.length∧∀(j:Nat) (b:Addr) (z:Int),as[j]?=some b→zs[j]?=some z→H b=some (.tup (stT C R ys z))
theorem StepsH.at{K:PySem.W.Frag}{C R:Str→Int}{ys:List Str}{H:Hp}{as:List Addr}{zs:List Int}(h:StepsH C R ys H as zs):StepsAt K C R ys H as zs:=⟨h.1,fun j b z e1 e2=>SqT.of (h.2 j b z e1 e2)⟩
theorem StepsH.same{C R:Str→Int}{ys:List Str}{H H':Hp}{as:List Addr}{zs:List Int}(s:Same H H')(h:StepsH C R ys H as zs):StepsH C R ys H' as zs:=⟨h.1,fun j b z e1 e2=>s _ _ (h.2 j b z e1 e2)⟩
theorem eqQ_trip{K:PySem.W.Frag}{H:Hp}{a b:Addr}{i j k:Int}(h1:SqT K H a [.int i,.int j,.int k])(h2:SqT K H b [.int i,.int j,.int k]):EqQ K H (.ref a) (.ref b) true:=⟨a,b,_,_,rfl,rfl,.inr ⟨h1,h2⟩,rfl,rfl,by simp [flatEq,eqV]⟩
theorem like_steps{K:PySem.W.Frag}{C R:Str→Int}{ys:List Str}{H:Hp}{q q2:Addr}{as bs:List Addr}{zs:List Int}(h1:SqL K H q (as.map V.ref))(h2:SqL K H q2 (bs.map V.ref))(s1:StepsAt K C R ys H as zs)(s2:StepsAt K C R ys H bs zs):LikeR K 2 H (.ref q) (.ref q2):=by
 have e1:=s1.1
 have e2:=s2.1
 refine ⟨q,q2,_,_,rfl,rfl,.inl ⟨h1,h2⟩,by rw [List.length_map,List.length_map];omega,fun i x y hx hy=>?_⟩
 rw [List.getElem?_map]at hx hy
 cases ha:as[i]? with
 | none=>rw [ha]at hx;cases hx
 | some a=>
  cases hb:bs[i]? with
  | none=>rw [hb]at hy;cases hy
  | some b=>
   rw [ha]at hx
   rw [hb]at hy
   cases hx
   cases hy
   have hi:i < zs.length:=by have:=(List.getElem?_eq_some_iff.mp ha).1;omega
   have t1:=s1.2 i a _ ha (List.getElem?_eq_getElem hi)
   have t2:=s2.2 i b _ hb (List.getElem?_eq_getElem hi)
   refine LikeN.of ⟨a,b,_,_,rfl,rfl,.inr ⟨t1,t2⟩,rfl,fun j x y hx hy=>?_⟩
   rw [hx]at hy
   cases hy
   refine LikeN.flat ?_
   have:=List.mem_of_getElem? hx
   simp only [List.mem_cons,List.not_mem_nil,or_false]at this
   rcases this with rfl | rfl | rfl <;> rfl
noncomputable def sp34_steps(K:PySem.W.Frag)(X:Addr):Sp:=fun vs H Q _=>∃(st a:Addr) (ts:List Th) (ys:List Str),vs=[.ref st,.ref a]∧StockAt K X H st ts∧(ts.map (·.1)).Nodup∧SqL K H a (ys.map V.str)∧ys.length≤60∧(∀y∈ys,y∈ts.map (·.1))∧(∀t∈ts,t.2.2≤1000000)∧
 ∀q as zs H',H q=none→Same H H'→H' q=some (.lst (as.map V.ref))→StepsH (cst ts) (rm ts) ys H' as zs→Zs (rm ts) ys zs→zs.length≤61→Q (.ref q) H'
noncomputable def sp34_whole:Sp:=fun vs H Q _=>∃i:Int,vs=[.int i]∧Q (.bl true) H
noncomputable def sp34_at(K:PySem.W.Frag)(N:Addr):Sp:=fun vs H Q E=>∃(q:Addr) (as:List Addr) (zs:List Int) (P:Int) (C R:Str→Int) (ys:List Str),vs=[.ref q,.int P]∧SqL K H q (as.map V.ref)∧StepsAt K C R ys H as zs∧Zs R ys zs∧zs.length≤61∧
 (∀t z H',H t=none→Same H H'→z∈zs→z≤P→(∀z'∈zs,z'≤P→z'≤z)→H' t=some (.tup [.int (nMis R ys z ys.length),.int (cMis C R ys z ys.length)])→Q (.ref t) H')∧((∀z∈zs,P < z)→∀H' x,Same H H'→H' x=none→E (.ref N) (some x) H')
noncomputable def sp34_depth(K:PySem.W.Frag):Sp:=fun vs H Q _=>∃(a d:Addr) (i:Nat) (ys ns:List Str) (R:Str→Int),vs=[.ref a,.int i,.ref d]∧SqL K H a (ys.map V.str)∧ys.length≤60∧i < ys.length∧RoomsAt H d ns R∧(∀y∈ys,y∈ns)∧∀H',Same H H'→Q (.int (d0 (dep R ys i))) H'
noncomputable def sp34_due(K:PySem.W.Frag):Sp:=fun vs H Q _=>∃(a d e:Addr) (ys ns:List Str) (C R:Str→Int),vs=[.ref a,.ref d,.ref e]∧SqL K H a (ys.map V.str)∧ys.length≤60∧RoomsAt H d ns R∧RoomsAt H e ns C∧(∀y∈ys,y∈ns)∧(∀y∈ys,1≤R y)∧(∀z,0≤R z)∧
 ∀q as zs H',H q=none→Same H H'→H' q=some (.lst (as.map V.ref))→StepsH C R ys H' as zs→Zs R ys zs→zs.length≤61→Q (.ref q) H'
noncomputable def sp34_refused(K:PySem.W.Frag):Sp:=fun vs H Q _=>∃(q:Addr) (as:List Addr) (zs:List Int) (P:Int) (C R:Str→Int) (ys:List Str),vs=[.ref q,.int P]∧SqL K H q (as.map V.ref)∧StepsAt K C R ys H as zs∧Zs R ys zs∧zs.length≤61∧(∀z∈zs,P < z)∧∀H',Same H H'→Q (.bl true) H'
noncomputable def sp34_pair(K:PySem.W.Frag):Sp:=fun vs H Q _=>∃(t:Addr) (m p:Int),vs=[.ref t,.int m,.int p]∧H t=some (.tup [.int m,.int p])∧∀H',Same H H'→Q (.bl true) H'
noncomputable def sp34_between(K:PySem.W.Frag):Sp:=fun vs H Q _=>∃(q q2:Addr) (as bs:List Addr) (zs:List Int) (C R:Str→Int) (ys:List Str),vs=[.ref q,.ref q2]∧SqL K H q (as.map V.ref)∧SqL K H q2 (bs.map V.ref)∧StepsAt K C R ys H as zs∧StepsAt K C R ys H bs zs∧Zs R ys zs∧zs.length≤61∧(∀z∈zs,1≤z)∧∀H',Same H H'→Q (.bl true) H'
end N34
open PySem PySem.W PyProof.Rows
namespace L2
structure Bs(P:Program)(w:World)(K:PySem.W.Frag)(mg:Str→Option Value)(base:Heap):Prop where
 ex:∃h:Heap,K.In h∧h.Ns mainGlobals mg
theorem lc{α:Type}{us:List α}{n:Nat}(h:us.length=n+1):∃u r,us=u::r∧r.length=n:=by
 cases us with
 | nil=>cases h
 | cons u r=>exact ⟨u,r,rfl,Nat.succ.inj h⟩
theorem l0{α:Type}{us:List α}(h:us.length=0):us=[]:=by
 cases us with
 | nil=>rfl
 | cons u r=>cases h
section
variable {P:Program} {w:World} {K:PySem.W.Frag} {mg:Str→Option Value} {base:Heap} {CX:CXT} {k:Nat} {sp:Sp} {ps:List Str} {x qual n p1 p2 p3 p4 p5 p6 p7:Str} {st:Stmt} {f C:Addr} {fd:FuncData}
theorem Fun.d(F:Fun K x qual st f fd)(B:Bs P w K mg base)(a:PySem.W.nsIn K mainGlobals x=some (some (.ref f)))(o:FnOk P w K mg base CX k f fd ps sp)(b:Binds K fd ps []):Def P w K mg base CX k x ps sp:=
 let ⟨_,X,G⟩:=B.ex;⟨f,fd,o,PySem.W.mg_of X G a,F.kp,b⟩
theorem Fun.m(F:Fun K x qual st f fd)(B:Bs P w K mg base)(M:Meth K C x f)(o:FnOk P w K mg base CX k f fd ps sp)(b:Binds K fd ps []):DefM P w K mg base CX k C x ps sp:=
 ⟨f,fd,o,M,b⟩
theorem Fun.i(F:Fun K x qual st f fd)(B:Bs P w K mg base)(M:Mk K C f)(a:PySem.W.nsIn K mainGlobals n=some (some (.ref C)))(o:FnOk P w K mg base CX k f fd ps sp)(b:Binds K fd ps []):DefI P w K mg base CX k n C ps sp:=
 let ⟨_,X,G⟩:=B.ex;⟨f,fd,o,M,PySem.W.mg_of X G a,b⟩
theorem Fun.e1(F:Fun K x qual st f fd)(h:∀(kV doc pm:Value) (an:Option Addr) (cdv ct u:Value),bindArgs (PySem.W.fnOf x qual (defArgs st) (defBody st) (defScope st) .none kV doc pm an cdv ct) ⟨[u],[]⟩=pure [(p1,u)]):Binds K fd [p1] []:=
 F.binds (ps:=[p1]) fun kV doc pm an cdv ct us hl=>by
  obtain ⟨u,us,rfl,h1⟩:=lc hl
  cases l0 h1
  exact h kV doc pm an cdv ct u
theorem Fun.e2(F:Fun K x qual st f fd)(h:∀(kV doc pm:Value) (an:Option Addr) (cdv ct u v:Value),bindArgs (PySem.W.fnOf x qual (defArgs st) (defBody st) (defScope st) .none kV doc pm an cdv ct) ⟨[u,v],[]⟩=pure [(p1,u),(p2,v)]):Binds K fd [p1,p2] []:=
 F.binds (ps:=[p1,p2]) fun kV doc pm an cdv ct us hl=>by
  obtain ⟨u,us,rfl,h1⟩:=lc hl
  obtain ⟨v,us,rfl,h2⟩:=lc h1
  cases l0 h2
  exact h kV doc pm an cdv ct u v
theorem Fun.e3(F:Fun K x qual st f fd)(h:∀(kV doc pm:Value) (an:Option Addr) (cdv ct u v w:Value),bindArgs (PySem.W.fnOf x qual (defArgs st) (defBody st) (defScope st) .none kV doc pm an cdv ct) ⟨[u,v,w],[]⟩=pure [(p1,u),(p2,v),(p3,w)]):Binds K fd [p1,p2,p3] []:=
 F.binds (ps:=[p1,p2,p3]) fun kV doc pm an cdv ct us hl=>by
  obtain ⟨u,us,rfl,h1⟩:=lc hl
  obtain ⟨v,us,rfl,h2⟩:=lc h1
  obtain ⟨w,us,rfl,h3⟩:=lc h2
  cases l0 h3
  exact h kV doc pm an cdv ct u v w
theorem Fun.e4(F:Fun K x qual st f fd)(h:∀(kV doc pm:Value) (an:Option Addr) (cdv ct u v w y:Value),bindArgs (PySem.W.fnOf x qual (defArgs st) (defBody st) (defScope st) .none kV doc pm an cdv ct) ⟨[u,v,w,y],[]⟩=pure [(p1,u),(p2,v),(p3,w),(p4,y)]):Binds K fd [p1,p2,p3,p4] []:=
 F.binds (ps:=[p1,p2,p3,p4]) fun kV doc pm an cdv ct us hl=>by
  obtain ⟨u,us,rfl,h1⟩:=lc hl
  obtain ⟨v,us,rfl,h2⟩:=lc h1
  obtain ⟨w,us,rfl,h3⟩:=lc h2
  obtain ⟨y,us,rfl,h4⟩:=lc h3
  cases l0 h4
  exact h kV doc pm an cdv ct u v w y
end
theorem st_c{n:Str}{N:List Str}{v:V}{vs:List V}:start (n::N) (v::vs)=some v::start N vs:=by
 simp [start]
theorem st_n{n:Str}{N:List Str}:start (n::N) []=none::start N []:=rfl
theorem st_e:start [] []=[]:=rfl
end L2
namespace K34
open L2 N1 N5 N31 N4 N32 N41 N35 N34
local macro_rules | `(tactic| walk_at "rq") => `(tactic| simp only [rd_asg, rd_var, rd_c, rd_op, rd_I0, rd_I, rd_U, rd_name, rd_ifS, rd_test, rd_b, rd_ret, rd_retN, rd_next, rd_break, rd_cont, rd_cb, rd_cons, rd_nil, rd_call, rd_not, rd_or, rd_and, rd_andV, rd_orV, rd_notV, rd_if, rd_un, rd_eq, rd_ne, rd_par, rd_tup, rd_lst, rd_never, rd_drop, rd_gcons, rd_gnil, rd_gsub, rd_chain, rd_rng1, rd_rng2, rd_ilist, rd_itup, rd_for', scal, rd_comp, rd_istr, rd_sl, rd_noPart, rd_part, rd_slS, rd_slL, rd_bm, rd_bm0, tyV_str, rd_join, rd_find, rd_split, rd_all, rd_mulS, rd_jnil, rd_jcons, rd_fstr, rd_fmt, rd_fmtR, rd_dnewK, true_implies, false_implies, Bool.false_and, Bool.true_and, Bool.and_true, Bool.and_false, Bool.false_or, Bool.true_or, Bool.or_true, Bool.or_false, rd_eqQ, rd_neQ, rd_methE, rd_makeE, rd_fld, rd_sfld, rd_din, rd_dnotin, rd_dget, rd_dput, rd_gtup, rd_inS, rd_notinS, hasS_one, blk_K, Int.zero_add, Int.toNat_natCast, upd_upd, List.map_cons, List.map_nil, List.getD_cons_zero, List.getD_cons_succ, cxOf_K, List.length_cons, List.length_nil, List.getElem?_cons_zero, List.getElem?_cons_succ, List.set_cons_zero, List.set_cons_succ, Option.some.injEq, V.int.injEq, V.bl.injEq, V.str.injEq, V.ref.injEq, V.ty.injEq, exists_eq_left', exists_eq_left, exists_and_left, exists_eq, exists_eq', List.cons.injEq, and_true, true_and, decide_eq_true_eq, Bool.not_eq_true', decide_eq_false_iff_not, reduceCtorEq, exists_const, Bool.true_eq_false, Bool.false_eq_true, if_true, if_false, ite_true, ite_false, Bool.not_true, Bool.not_false, decide_true, decide_false, Bool.not_not, false_and, and_false, exists_false, false_or, or_false, true_or, or_true, and_assoc, not_true_eq_false, not_false_eq_true, Int.reduceToNat, Nat.reduceAdd, rd_tryV, rd_hclsV, rd_hasV, tryX_K, sui_K, rd_raise, rd_callE, rd_hnil, rd_ends, rd_isiE, exists_eq_right, sp_cell, sp_made, sp_is_name, sp_law, sp_is_whole, sp_within, sp_checkG, sp_initG, sp_has, sp32_check, sp32_thing, sp32_room, sp32_asks, sp32_early, sp32_init, sp32_add, sp32_upto, sp32_depths, rd_ienum, rd_izip, rd_dget1, rd_disp1, rd_setL, rd_sumL, rd_getL, rd_augS, rd_ipI, sp41_cost, sp35_there, sp35_step, sp35_names, rd_sortset, rd_maxL, rd_compI, rd_comp2, rd_isiR, rd_sortI, rd_idict, rd_neN, sp34_whole, sp34_steps, sp34_at, sp34_depth, sp34_due, sp34_refused, sp34_pair, sp34_between])
local macro_rules | `(tactic| walk_at "rd") => `(tactic| first | (dsimp only [rd_asg, rd_var, rd_c, rd_op, rd_I0, rd_I, rd_U, rd_name, rd_ifS, rd_test, rd_b, rd_ret, rd_retN, rd_next, rd_break, rd_cont, rd_cb, rd_cons, rd_nil, rd_call, rd_not, rd_or, rd_and, rd_andV, rd_orV, rd_notV, rd_if, rd_un, rd_eq, rd_ne, rd_par, rd_tup, rd_lst, rd_never, rd_drop, rd_gcons, rd_gnil, rd_gsub, rd_chain, rd_rng1, rd_rng2, rd_ilist, rd_itup, rd_for', scal, rd_comp, rd_istr, rd_sl, rd_noPart, rd_part, rd_slS, rd_slL, rd_bm, rd_bm0, tyV_str, rd_join, rd_find, rd_split, rd_all, rd_mulS, rd_jnil, rd_jcons, rd_fstr, rd_fmt, rd_fmtR, rd_dnewK, true_implies, false_implies, Bool.false_and, Bool.true_and, Bool.and_true, Bool.and_false, Bool.false_or, Bool.true_or, Bool.or_true, Bool.or_false, rd_eqQ, rd_neQ, rd_methE, rd_makeE, rd_fld, rd_sfld, rd_din, rd_dnotin, rd_dget, rd_dput, rd_gtup, rd_inS, rd_notinS, hasS_one, blk_K, Int.zero_add, Int.toNat_natCast, upd_upd, List.map_cons, List.map_nil, List.getD_cons_zero, List.getD_cons_succ, cxOf_K, List.length_cons, List.length_nil, List.getElem?_cons_zero, List.getElem?_cons_succ, List.set_cons_zero, List.set_cons_succ, Option.some.injEq, V.int.injEq, V.bl.injEq, V.str.injEq, V.ref.injEq, V.ty.injEq, exists_eq_left', exists_eq_left, exists_and_left, exists_eq, exists_eq', List.cons.injEq, and_true, true_and, decide_eq_true_eq, Bool.not_eq_true', decide_eq_false_iff_not, reduceCtorEq, exists_const, Bool.true_eq_false, Bool.false_eq_true, if_true, if_false, ite_true, ite_false, Bool.not_true, Bool.not_false, decide_true, decide_false, Bool.not_not, false_and, and_false, exists_false, false_or, or_false, true_or, or_true, and_assoc, not_true_eq_false, not_false_eq_true, Int.reduceToNat, Nat.reduceAdd, rd_tryV, rd_hclsV, rd_hasV, tryX_K, sui_K, rd_raise, rd_callE, rd_hnil, rd_ends, rd_isiE, exists_eq_right, sp_cell, sp_made, sp_is_name, sp_law, sp_is_whole, sp_within, sp_checkG, sp_initG, sp_has, sp32_check, sp32_thing, sp32_room, sp32_asks, sp32_early, sp32_init, sp32_add, sp32_upto, sp32_depths, rd_ienum, rd_izip, rd_dget1, rd_disp1, rd_setL, rd_sumL, rd_getL, rd_augS, rd_ipI, sp41_cost, sp35_there, sp35_step, sp35_names, rd_sortset, rd_maxL, rd_compI, rd_comp2, rd_isiR, rd_sortI, rd_idict, rd_neN, sp34_whole, sp34_steps, sp34_at, sp34_depth, sp34_due, sp34_refused, sp34_pair, sp34_between]; try walk_at "rq") | walk_at "rq")
local macro_rules | `(tactic| walk_at "hp") => `(tactic| first | with_reducible assumption | exact upd_same | (rw [upd_ne (by first | with_reducible assumption | exact ne_of_none (by with_reducible assumption) (by with_reducible assumption))]; first | with_reducible assumption | exact upd_same))
local macro_rules | `(tactic| walk_at "sq") => `(tactic| (repeat' first | with_reducible assumption | exact SqT.of upd_same | exact SqL.of upd_same | refine' Same.tup (Same.new (by with_reducible assumption)) ?_ | refine' Same.seq (Same.new (by with_reducible assumption)) ?_))
local macro_rules | `(tactic| walk_at "isi") => `(tactic| first | exact isi_ii | exact isi_ib | exact isi_bb | exact isi_is | exact isi_ss | exact isi_si | exact isi_sb | exact isi_bi | exact isi_bs | exact isi_ni | exact isi_ns | exact isi_tupt (by walk_at "hp") | exact isi_lstl (by walk_at "hp") | exact isi_tupl (by walk_at "hp") | exact isi_lstt (by walk_at "hp") | exact isi_tups (by walk_at "hp") | exact isi_lsts (by walk_at "hp") | exact isi_tupi (by walk_at "hp") | exact isi_lsti (by walk_at "hp"))
local macro_rules | `(tactic| walk_at "slen") => `(tactic| first | omega | decide +kernel | (refine le_app ?_ ?_ <;> walk_at "slen"))
local macro_rules | `(tactic| walk_at "side") => `(tactic| first | with_reducible assumption | with_reducible exact cdiv_of (by omega) (by omega) | with_reducible exact cpow_of (by decide) (by decide) (by decide) | with_reducible exact cmul_l (by omega) (by omega) | with_reducible exact cmul_r (by omega) (by omega) | omega | decide | decide +kernel | (have := line_val; omega) | (simp only [len_app, len_one, line_val]; omega) | (rw [line_val]; walk_at "slen"; done))
local macro_rules | `(tactic| walk_at "go1") => `(tactic| first | walk_at "rd" | ((with_reducible refine And.intro ?_ ?_); (focus (walk_at "side"; done))) | ((with_reducible apply isi_go); (focus (walk_at "isi"; done))) | ((with_reducible apply ixT_of); (focus (walk_at "sq"; done)); (focus rfl)) | ((with_reducible apply ixL_of); (focus (walk_at "sq"; done)); (focus rfl)) | ((with_reducible apply len_goT); (focus (walk_at "sq"; done))) | ((with_reducible apply len_goL); (focus (walk_at "sq"; done))) | ((with_reducible apply script_go); (focus (walk_at "sq"; done)); (focus (assumption; done))) | ((with_reducible apply cell_go); (focus (walk_at "sq"; done)); (focus (decide; done)); (focus (assumption; done))) | (intro (_ : List (Addr × PySem.Obj)) (_ : PySem.Value → PySem.Shared → Prop)) | with_reducible refine seq_go fun _ _ => ?_ | (refine leaf_go (by with_reducible assumption) ?_; subst_vars))
local macro_rules | `(tactic| walk_at "go") => `(tactic| repeat walk_at "go1")
noncomputable def top(i:Nat):Stmt:=PySem.Challenge.pw_castoff_k34_steps_told.main.body.getD i (.Pass ⟨0,0,0,0⟩)
structure Txt(K:W.Frag)(mg:Str→Option Value)(Z2 Z1 Z0 Z3:Addr):Prop where
 Z3u:mg "Stock"=some (.ref Z0)
 Z9:Cls K Z0
 Z5:NoAttr K Z0 "things"
 Z3v:mg "Sums"=some (.ref Z3)
 Zn:Cls K Z3
 Z8:NoAttr K Z3 "numbers"
 Z2q:mg "CastError"=some (.ref Z2)
 Z1y:mg "NoNumber"=some (.ref Z1)
 Z3d:ExcC K Z1
 Z1e:W.exmOne K (.ref Z1) (.ref Z1)=some true
 Z3e:W.exmOne K (.ref Z1) (.ref Z2)=some true
 w_NoNumber_CastError:W.kitOne K (.ref Z1) (.ref Z2)=some true
 Za:mg "len"=none
 Z6:mg "isinstance"=none
 Z1p:mg "int"=none
 Z13:mg "bool"=none
 Z1z:mg "str"=none
 Z14:mg "list"=none
 Z20:mg "all"=none
 Zd:mg "range"=none
 Zh:mg "enumerate"=none
 Z1q:mg "zip"=none
 Z0g:mg "sum"=none
 Z21:mg "set"=none
 Zz:mg "sorted"=none
 Z1r:mg "max"=none
 Z0b:mg "tuple"=none
 Zt:∃t,mg "LETTERS"=some (.str "abcdefghijklmnopqrstuvwxyz" t)
 Z05:∃t,mg "FIGURES"=some (.str "0123456789" t)
 Zl:∃t,mg "MOST_SIGNS"=some (.int 8 t)
 Zk:∃t,mg "MOST_THINGS"=some (.int 60 t)
 Zo:∃t,mg "MOST_ROOM"=some (.int 1000 t)
 Zf:∃t,mg "MOST_PLACES"=some (.int 1000000 t)
 Zp:∃t,mg "MOST_ASKS"=some (.int 200 t)
 Zq:∃t,mg "MOST_SUMS"=some (.int 200 t)
local macro_rules | `(tactic| walk_at "sc") => `(tactic| exact ⟨rfl, rfl, rfl, by decide +kernel, rfl, by decide +kernel, by decide +kernel⟩)
local macro_rules | `(tactic| walk_at "st") => `(tactic| simp only [st_c, st_n, st_e])
section
variable {P:Program} {w:World} {K:W.Frag} {mg:Str→Option Value} {base:Heap} {Z2 Z1 Z0 Z3:Addr}
noncomputable abbrev Z15:Stmt:=top 10
noncomputable abbrev Z0h:Stmt:=top 11
noncomputable abbrev Z00:Stmt:=top 14
noncomputable abbrev Z1f:Stmt:=top 21
noncomputable abbrev Z1g:Stmt:=top 22
noncomputable abbrev Z06:Stmt:=top 23
noncomputable abbrev Z0c:Stmt:=inClass (top 24) 0
noncomputable abbrev Z0i:Stmt:=inClass (top 24) 2
noncomputable abbrev Zr:Stmt:=inClass (top 24) 3
noncomputable abbrev Zu:Stmt:=inClass (top 24) 6
noncomputable abbrev Z0d:Stmt:=top 27
noncomputable abbrev Z01:Stmt:=top 28
noncomputable abbrev Z0j:Stmt:=inClass (top 31) 0
noncomputable abbrev Z16:Stmt:=inClass (top 31) 1
noncomputable abbrev Z0k:Stmt:=inClass (top 31) 2
noncomputable abbrev Z0l:Stmt:=top 33
noncomputable abbrev Zv:Stmt:=inClass (top 24) 5
noncomputable abbrev Z17:Stmt:=top 34
noncomputable abbrev Z0m:Stmt:=top 35
noncomputable abbrev Z18:Stmt:=top 36
noncomputable abbrev Z1h:Stmt:=top 37
noncomputable abbrev Z1u:Stmt:=top 39
noncomputable abbrev Z1i:Stmt:=top 40
noncomputable abbrev Z1j:Stmt:=top 41
noncomputable abbrev Z1k:Stmt:=top 42
noncomputable abbrev Z26:Stmt:=top 43
noncomputable abbrev Z0n:Stmt:=top 44
noncomputable abbrev Z1v:Stmt:=top 45
noncomputable abbrev Z0o:Stmt:=top 46
noncomputable abbrev Z08:Stmt:=top 47
theorem Z2r{f:Addr}{fd:FuncData}(F:Fun K "is_whole" "is_whole" Z15 f fd)(T:Txt K mg Z2 Z1 Z0 Z3):FnOk P w K mg base (CXE P w) 1 f fd ["thing"] (sp_is_whole K):=by
 have sc:FnScope ["thing"] ["thing"] (defScope Z15):=by walk_at "sc"
 refine F.okE sc (fun vs H Q E h=>?_) (fun cdv A outer s H vs Q E hr h=>?_)
 · obtain ⟨_,_,_,rfl,_⟩:=h;rfl
 obtain ⟨x,b,c,rfl,h1,h2,q⟩:=h
 refine ⟨_,(@pss_one _ _ _ (@ps_ret _ _ _ _ (pe_and (pe_callB call_isinst rfl T.Z6 (by first | rfl | decide+kernel) (pa_cons (pv 0) (pa_cons (pe_bltn (v:= .ty "int") rfl T.Z1p (by first | rfl | decide+kernel) rfl) pa_nil))) (pe_one (pe_not (pe_callB call_isinst rfl T.Z6 (by first | rfl | decide+kernel) (pa_cons (pv 0) (pa_cons (pe_bltn (v:= .ty "bool") rfl T.Z13 (by first | rfl | decide+kernel) rfl) pa_nil)))))))),?_⟩
 walk_at "st"
 walk_at "go"
 refine ⟨_,h1,?_⟩
 cases b
 · walk_at "go"
   exact q
 · walk_at "go"
   refine ⟨_,h2 rfl,?_⟩
   walk_at "go"
   exact q
theorem Z2e{f:Addr}{fd:FuncData}(F:Fun K "is_within" "is_within" Z0h f fd)(T:Txt K mg Z2 Z1 Z0 Z3)(Z19:Def P w K mg base (CXE P w) 1 "is_whole" ["thing"] (sp_is_whole K)):FnOk P w K mg base (CXE P w) 2 f fd ["thing","least","most"] (sp_within K):=by
 have sc:FnScope ["thing","least","most"] ["thing","least","most"] (defScope Z0h):=by walk_at "sc"
 refine F.okE sc (fun vs H Q E h=>?_) (fun cdv A outer s H vs Q E hr h=>?_)
 · obtain ⟨_,_,_,rfl,_⟩:=h;rfl
 obtain ⟨v,lo,hi,rfl,hv,q⟩:=h
 refine ⟨_,(@pss_one _ _ _ (@ps_ret _ _ _ _ (pe_and (pe_callD Z19 hr rfl pass_on (pa_cons (pv 0) pa_nil)) (pe_one (pe_chain op_le op_le (pv 1) (pv 0) (pv 2)))))),?_⟩
 walk_at "st"
 obtain ⟨b,c,h1,h2,h3,h4⟩:=num_isi (K:=K) (H:=H) hv
 walk_at "go"
 refine ⟨b,h1,c,h2,?_⟩
 split
 · rename_i h
   obtain ⟨i,rfl⟩:=h3 h
   simp only [wIn]at q
   walk_at "go"
   split
   · rename_i h'
     rw [decide_eq_true h',Bool.true_and]at q;exact q
   · rename_i h'
     rw [decide_eq_false h',Bool.false_and]at q;exact q
 · rename_i h
   have e:wIn lo hi v=false:=by
    cases v with
    | int i=>exact absurd rfl (h4 (by simpa using h) i)
    | _=>rfl
   rw [e]at q;exact q
theorem Z22{f:Addr}{fd:FuncData}(F:Fun K "check_places" "check_places" Z00 f fd)(T:Txt K mg Z2 Z1 Z0 Z3)(Z4:Def P w K mg base (CXE P w) 2 "is_within" ["thing","least","most"] (sp_within K)):FnOk P w K mg base (CXE P w) 3 f fd ["places"] (sp32_check):=by
 have sc:FnScope ["places"] ["places"] (defScope Z00):=by walk_at "sc"
 refine F.okE sc (fun vs H Q E h=>?_) (fun cdv A outer s H vs Q E hr h=>?_)
 · obtain ⟨_,rfl,_⟩:=h;rfl
 obtain ⟨i,rfl,h1,h2,q⟩:=h
 refine ⟨_,(@pss_one _ _ _ (ps_if (pt_not (pt_val (pe_callD Z4 hr rfl pass_on (pa_cons (pv 0) (pa_cons pe_int (pa_cons (pe_gint rfl T.Zf) pa_nil))))))
  (@pss_one _ _ _ ps_never)
  pss_nil)),?_⟩
 walk_at "st"
 walk_at "go"
 rw [if_neg (by rw [wIn_ok h1 h2];decide)]
 exact ⟨rfl,q⟩
theorem Z3f{f:Addr}{fd:FuncData}(F:Fun K "made_of" "made_of" Z1f f fd)(T:Txt K mg Z2 Z1 Z0 Z3):FnOk P w K mg base (CXE P w) 1 f fd ["text","signs"] (sp_made):=by
 have sc:FnScope ["text","signs"] ["text","signs"] (defScope Z1f):=by walk_at "sc"
 refine F.okE sc (fun vs H Q E h=>?_) (fun cdv A outer s H vs Q E hr h=>?_)
 · obtain ⟨_,_,rfl,_⟩:=h;rfl
 obtain ⟨z,w,rfl,hz,q⟩:=h
 refine ⟨_,(@pss_one _ _ _ (@ps_ret _ _ _ _ (pe_callB (call_all rfl) rfl T.Z20 (by first | rfl | decide+kernel) (pa_cons (pe_comp1 "sign" [1] rfl rfl (pi_str (pv 0)) (fun b=>(pe_cmpR op_inS (pv 0) (pv 1) (by with_unfolding_all rfl)))) pa_nil)))),?_⟩
 walk_at "st"
 walk_at "go"
 refine compS_pure (fun c=>V.bl (decide (c∈w.cps.toList))) hz (fun b c H' Q' hc sm q'=>?_) fun D hD=>?_
 · walk_at "go"
   exact q'
 · refine ⟨_,rfl,z.cps.toList.map fun c=>decide (c∈w.cps.toList),?_,?_⟩
   · rw [List.map_map];exact SqL.of upd_same
   · rw [List.all_map];exact q _ (Same.new hD)
theorem Z3g{f:Addr}{fd:FuncData}(F:Fun K "is_name" "is_name" Z1g f fd)(T:Txt K mg Z2 Z1 Z0 Z3)(Z1l:Def P w K mg base (CXE P w) 1 "made_of" ["text","signs"] (sp_made)):FnOk P w K mg base (CXE P w) 2 f fd ["thing"] (sp_is_name K):=by
 have sc:FnScope ["thing"] ["thing"] (defScope Z1g):=by walk_at "sc"
 refine F.okE sc (fun vs H Q E h=>?_) (fun cdv A outer s H vs Q E hr h=>?_)
 · obtain ⟨_,rfl,_⟩:=h;rfl
 obtain ⟨x,rfl,hx⟩:=h
 refine ⟨_,(@pss_cons _ _ _ _ _ (ps_if (pt_not (pt_val (pe_callB call_isinst rfl T.Z6 (by first | rfl | decide+kernel) (pa_cons (pv 0) (pa_cons (pe_bltn (v:= .ty "str") rfl T.Z1z (by first | rfl | decide+kernel) rfl) pa_nil)))))
  (@pss_one _ _ _ (@ps_ret _ _ _ _ pe_bl))
  pss_nil)
  (@pss_cons _ _ _ _ _ (ps_if (PW.pt (pw_or (pt_cmpR op_lt (pe_callB call_len_str rfl T.Za PySem.boot_len (pa_cons (pv 0) pa_nil)) pe_int (nomark _)) (pw_or1 (pt_cmpR op_gt (pe_callB call_len_str rfl T.Za PySem.boot_len (pa_cons (pv 0) pa_nil)) (pe_gint rfl T.Zl) (nomark _)))))
   (@pss_one _ _ _ (@ps_ret _ _ _ _ pe_bl))
   pss_nil)
  (@pss_one _ _ _ (@ps_ret _ _ _ _ (pe_and (pe_cmpR op_inS (@pe_ix _ _ _ _ _ _ _ ix_str (pv 0) pe_int (fun _ _=>rfl)) (pe_gstr rfl T.Zt) (by with_unfolding_all rfl)) (pe_one (pe_callD Z1l hr rfl pass_on (pa_cons (pv 0) (pa_cons (pe_op op_add_str (pe_gstr rfl T.Zt) (pe_gstr rfl T.Z05)) pa_nil))))))))),?_⟩
 walk_at "st"
 rcases hx with ⟨z,rfl,hz,q⟩ | ⟨hi,q⟩
 · walk_at "go"
   have hl:=str_len (z:=z)
   split
   · rename_i h1
     have e:nameB z.cps.toList=false:=by unfold nameB;rw [decide_eq_false (show ¬1≤z.cps.toList.length by omega)];rfl
     rw [e]at q;exact q _ (Same.refl H)
   · rename_i h1
     refine ⟨hz,?_⟩
     split
     · have e:nameB z.cps.toList=false:=by unfold nameB;rw [decide_eq_false (show ¬z.cps.toList.length≤8 by omega),Bool.and_false];rfl
       rw [e]at q;exact q _ (Same.refl H)
     · rename_i h2
       obtain ⟨c,r,hcr⟩:∃c r,z.cps.toList=c::r:=by
        cases h:z.cps.toList with
        | nil=>rw [h]at hl;simp at hl;omega
        | cons c r=>exact ⟨c,r,rfl⟩
       have hn:nameB z.cps.toList=(decide (c∈letters) && z.cps.toList.all fun c=>decide (c∈letters++figures)):=by
        unfold nameB;rw [decide_eq_true (show 1≤z.cps.toList.length by omega),decide_eq_true (show z.cps.toList.length≤8 by omega)];rw [hcr];rfl
       rw [hn]at q
       walk_at "go"
       refine ixS_of hz (by rw [hcr];exact at_0) ?_
       walk_at "go"
       rw [let_list]
       split
       · rename_i hc
         rw [decide_eq_true hc,Bool.true_and]at q
         walk_at "go"
         rw [app_list,let_list,fig_list]
         exact q
       · rename_i hc
         rw [decide_eq_false hc,Bool.false_and]at q
         exact q _ (Same.refl H)
 · walk_at "go"
   refine ⟨_,hi,?_⟩
   walk_at "go"
   exact q
theorem Z27{f:Addr}{fd:FuncData}(F:Fun K "check_thing" "check_thing" Z06 f fd)(T:Txt K mg Z2 Z1 Z0 Z3)(Z1m:Def P w K mg base (CXE P w) 2 "is_name" ["thing"] (sp_is_name K))(Z4:Def P w K mg base (CXE P w) 2 "is_within" ["thing","least","most"] (sp_within K)):FnOk P w K mg base (CXE P w) 3 f fd ["name","cost","room","earlier"] (sp_checkG K):=by
 have sc:FnScope ["name","cost","room","earlier"] ["name","cost","room","earlier"] (defScope Z06):=by walk_at "sc"
 refine F.okE sc (fun vs H Q E h=>?_) (fun cdv A outer s H vs Q E hr h=>?_)
 · obtain ⟨_,_,_,_,_,_,rfl,_⟩:=h;rfl
 obtain ⟨n,co,r,e,kvs,ks,rfl,he,hk,hrow,q⟩:=h
 refine ⟨_,(@pss_cons _ _ _ _ _ (ps_if (pt_not (pt_val (pe_callD Z1m hr rfl pass_on (pa_cons (pv 0) pa_nil))))
  (@pss_one _ _ _ ps_never)
  pss_nil)
  (@pss_cons _ _ _ _ _ (ps_if (pt_cmp (pc_din (hu_of hr) (pv 0) (pv 3)))
   (@pss_one _ _ _ ps_never)
   pss_nil)
  (@pss_cons _ _ _ _ _ (ps_if (pt_not (pt_val (pe_callD Z4 hr rfl pass_on (pa_cons (pv 1) (pa_cons pe_int (pa_cons (pe_op op_pow pe_int pe_int) pa_nil))))))
   (@pss_one _ _ _ ps_never)
   pss_nil)
  (@pss_one _ _ _ (ps_if (pt_not (pt_val (pe_callD Z4 hr rfl pass_on (pa_cons (pv 2) (pa_cons pe_int (pa_cons (pe_gint rfl T.Zo) pa_nil))))))
   (@pss_one _ _ _ ps_never)
   pss_nil))))),?_⟩
 walk_at "st"
 obtain ⟨z,c,w,rfl,rfl,rfl,nz,hb,h1,h2,h3,h4⟩:=rowR_none hrow
 have line:=line_val
 have hz8:=name_len hb
 walk_at "go"
 intro H1 sm1
 rw [hb]
 have he1:=sm1 _ _ he
 walk_at "go"
 refine ⟨_,DGet.k (k:=Sum.inr z) he1,?_⟩
 rw [key_mem hk,decide_eq_false nz]
 walk_at "go"
 refine ⟨rfl,?_⟩
 split
 · rename_i h
   exact absurd h (by rw [wIn_ok h1 h2];decide)
 · walk_at "go"
   refine ⟨rfl,?_⟩
   split
   · rename_i h
     exact absurd h (by rw [wIn_ok h3 h4];decide)
   · walk_at "go"
     exact q _ sm1
theorem Z2b{f:Addr}{fd:FuncData}(F:Fun K "__init__" "Stock.__init__" Z0c f fd)(T:Txt K mg Z2 Z1 Z0 Z3)(Z07:Def P w K mg base (CXE P w) 3 "check_thing" ["name","cost","room","earlier"] (sp_checkG K)):FnOk P w K mg base (CXE P w) 4 f fd ["self","rows"] (sp_initG K Z0):=by
 have sc:FnScope ["self","rows","name","cost","room"] ["self","rows"] (defScope Z0c):=by walk_at "sc"
 refine F.okE sc (fun vs H Q E h=>?_) (fun cdv A outer s H vs Q E hr h=>?_)
 · obtain ⟨_,_,_,_,rfl,_⟩:=h;rfl
 obtain ⟨p,dx,ra,rs,rfl,hp,hrs,hall,er,q⟩:=h
 refine ⟨_,(@pss_cons _ _ _ _ _ (ps_if (pt_cmpR op_gt (pe_callB call_len_seq rfl T.Za PySem.boot_len (pa_cons (pv 1) pa_nil)) (pe_gint rfl T.Zk) (nomark _))
  (@pss_one _ _ _ ps_never)
  pss_nil)
  (@pss_cons _ _ _ _ _ (ps_fld (pv 0) pe_dnewK rfl)
  (@pss_one _ _ _ (ps_for own_out rfl (pi_list (pv 1)) (pg_tup rfl (pgs_cons (pg_name (i:=2) sc.nd rfl (Or.inl rfl)) (pgs_cons (pg_name (i:=3) sc.nd rfl (Or.inl rfl)) (pgs_cons (pg_name (i:=4) sc.nd rfl (Or.inl rfl)) pgs_nil))))
   (@pss_cons _ _ _ _ _ (ps_expr (pe_callD Z07 hr rfl pass_on (pa_cons (pv 2) (pa_cons (pv 3) (pa_cons (pv 4) (pa_cons (pe_fld (pv 0) rfl) pa_nil))))))
   (@pss_one _ _ _ (ps_dput (hu_of hr) (pe_fld (pv 0) rfl) (pv 2) (pe_tup (pa_cons (pe_callB call_lenD rfl T.Za PySem.boot_len (pa_cons (pe_fld (pv 0) rfl) pa_nil)) (pa_cons (pv 3) (pa_cons (pv 4) pa_nil)))) rfl))))))),?_⟩
 walk_at "st"
 have line:=line_val
 obtain ⟨hl60,hstk⟩:=initR_none er
 walk_at "go"
 rw [List.length_map]
 split
 · rename_i h
   exact absurd h (by omega)
 · rename_i h
   walk_at "go"
   intro d hd
   have npd:p≠d:=ne_of_none hp hd
   walk_at "go"
   refine ⟨Z0,dx,[],by rw [upd_ne npd];exact hp,T.Z9,T.Z5,by decide,?_⟩
   have sb0:SameBut p H (upd (upd H d (.dK [])) p (.ins Z0 dx (flds d))):=fun b o e n=>by rw [upd_ne n,upd_ne (ne_of_none e hd)];exact e
   have hp0:upd (upd H d (.dK [])) p (.ins Z0 dx (flds d)) p=some (.ins Z0 dx (flds d)):=upd_same
   have hd0:upd (upd H d (.dK [])) p (.ins Z0 dx (flds d)) d=some (.dK []):=by rw [upd_ne npd.symm,upd_same]
   unfold flds at sb0 hp0 hd0
   generalize upd (upd H d (HO.dK [])) p (HO.ins Z0 dx (putF (Str.ofString "things") (V.ref d) []))=H0 at sb0 hp0 hd0 ⊢
   walk_at "go"
   refine ⟨⟨_,SqL.but sb0 hp hrs⟩,?_⟩
   refine forL_by (xs:=rs.map fun t=>V.ref t.1) (fun i σ H'=>∃v1 v2 v3,σ=[some (V.ref p),some (V.ref ra),v1,v2,v3]∧SameBut p H H'∧H' p=some (.ins Z0 dx (flds d))∧MidAt K H' d (rs.take i)∧stockR (nmsOf (rs.take i)) (rs.drop i)=none) ⟨none,none,none,rfl,sb0,hp0,⟨[],hd0,rfl,fun j t e=>by simp at e⟩,by rw [List.take_zero,List.drop_zero];exact hstk⟩ (fun i σ H' _ h_=>by obtain ⟨v1,v2,v3,_,sb,_⟩:=h_;exact SqL.but sb hp hrs) ?_ ?_
   · rintro i x σ H' hx ⟨v1,v2,v3,rfl,sb,hp',⟨kvs,hd',hk,hm⟩,hst⟩
     rw [List.getElem?_map]at hx
     cases ht:rs[i]? with
     | none=>rw [ht]at hx;cases hx
     | some t=>
      rw [ht]at hx
      simp only [Option.map_some,Option.some.injEq]at hx
      subst hx
      have hi:i < rs.length:=(List.getElem?_eq_some_iff.mp ht).1
      have r1:=SqT.but sb hp (hall t (List.mem_of_getElem? ht))
      rw [stockR_step ht]at hst
      have hkl:kvs.length=i:=by
       have:=congrArg List.length hk
       simp [nmsOf]at this;omega
      cases hrow:rowR (nmsOf (rs.take i)) t.2.1 t.2.2.1 t.2.2.2 with
      | some e=>rw [hrow]at hst;cases hst
      | none=>
       rw [hrow]at hst
       obtain ⟨z,c,q',e1,e2,e3,nz,hb,_⟩:=rowR_none hrow
       walk_at "go"
       refine ⟨_,r1,rfl,?_⟩
       walk_at "go"
       refine ⟨Z0,dx,flds d,hp',T.Z9,T.Z5,_,flds_things,d,rfl,kvs,hd',_,hk,hrow,fun H1 sm1=>?_⟩
       rw [e1,e2,e3]
       have hp1:=sm1 _ _ hp'
       have hd1:=sm1 _ _ hd'
       walk_at "go"
       refine ⟨Z0,dx,flds d,hp1,T.Z9,T.Z5,_,flds_things,?_⟩
       walk_at "go"
       refine ⟨kvs,hd1,by omega,fun t2 ht2=>?_⟩
       have np2:p≠t2:=ne_of_none hp1 ht2
       have nd2:d≠t2:=ne_of_none hd1 ht2
       have hd2:upd H1 t2 (.tup [.int kvs.length,.int c,.int q']) d=some (.dK kvs):=by rw [upd_ne nd2];exact hd1
       refine ⟨Z0,dx,flds d,by rw [upd_ne np2];exact hp1,T.Z9,T.Z5,_,flds_things,d,rfl,_,DPut.k (k:=Sum.inr z) hd2 (by omega),?_,?_,?_,?_⟩
       · intro b o eb nb
         have h1:=sm1 _ _ (sb b o eb nb)
         rw [upd_ne (ne_of_none eb hd),upd_ne (ne_of_none h1 ht2)]
         exact h1
       · rw [upd_ne npd,upd_ne np2];exact hp1
       · rw [List.take_add_one,ht]
         refine MidAt.snoc hd2 hk (fun j t' e=>?_) e1 e2 e3 nz upd_same
         obtain ⟨a,q1,q2⟩:=hm j t' e
         exact ⟨a,q1,(sm1.trans (Same.new ht2)).tup q2⟩
       · rw [List.take_add_one,ht]
         have e:nmsOf (rs.take kvs.length++(some t).toList)=nmsOf (rs.take kvs.length)++[sOf t.2.1]:=by unfold nmsOf;simp
         rw [e];exact hst
   · rintro σ H' ⟨v1,v2,v3,rfl,sb,hp',⟨kvs,hd',hk,hm⟩,hst⟩
     simp only [List.length_map,List.take_length,List.drop_length]at hk hm hst
     show Q V.non H'
     refine q _ sb ⟨dx,d,kvs,hp',hd',?_,fun i t ht=>?_⟩
     · rw [hk];unfold nmsOf;rw [List.map_map,List.map_map];rfl
     · rw [List.getElem?_map]at ht
       cases hr:rs[i]? with
       | none=>rw [hr]at ht;cases ht
       | some t'=>
        rw [hr]at ht
        simp only [Option.map_some,Option.some.injEq]at ht
        subst ht
        exact hm i t' hr
theorem Z2f{f:Addr}{fd:FuncData}(F:Fun K "has" "Stock.has" Z0i f fd)(T:Txt K mg Z2 Z1 Z0 Z3):FnOk P w K mg base (CXE P w) 1 f fd ["self","name"] (sp_has K Z0):=by
 have sc:FnScope ["self","name"] ["self","name"] (defScope Z0i):=by walk_at "sc"
 refine F.okE sc (fun vs H Q E h=>?_) (fun cdv A outer s H vs Q E hr h=>?_)
 · obtain ⟨_,_,_,rfl,_⟩:=h;rfl
 obtain ⟨p,ts,z,rfl,hs,q⟩:=h
 refine ⟨_,(@pss_one _ _ _ (@ps_ret _ _ _ _ (pe_cmp (pc_din (hu_of hr) (pv 1) (pe_fld (pv 0) rfl))))),?_⟩
 walk_at "st"
 obtain ⟨dx,d,kvs,h1,h2,h3,h4,h5⟩:=StockAt.has hs
 walk_at "go"
 refine ⟨Z0,dx,flds d,h1,T.Z9,T.Z5,_,flds_things,d,rfl,_,DGet.k (k:=Sum.inr z) h2,?_⟩
 rw [h4]
 exact q
theorem Z1t{f:Addr}{fd:FuncData}(F:Fun K "thing_of" "Stock.thing_of" Zr f fd)(T:Txt K mg Z2 Z1 Z0 Z3):FnOk P w K mg base (CXE P w) 1 f fd ["self","name"] (sp32_thing K Z0):=by
 have sc:FnScope ["self","name"] ["self","name"] (defScope Zr):=by walk_at "sc"
 refine F.okE sc (fun vs H Q E h=>?_) (fun cdv A outer s H vs Q E hr h=>?_)
 · obtain ⟨_,_,_,rfl,_⟩:=h;rfl
 obtain ⟨p,ts,z,rfl,hs,nd,hz,q⟩:=h
 refine ⟨_,(@pss_cons _ _ _ _ _ (ps_if (pt_cmp (pc_dnotin (hu_of hr) (pv 1) (pe_fld (pv 0) rfl)))
  (@pss_one _ _ _ ps_never)
  pss_nil)
  (@pss_one _ _ _ (@ps_ret _ _ _ _ (pe_dget (hu_of hr) (pe_fld (pv 0) rfl) (pv 1) (fun _ _=>rfl))))),?_⟩
 walk_at "st"
 obtain ⟨dx,d,kvs,h1,h2,h3,h4,h5⟩:=StockAt.has hs
 have line:=line_val
 walk_at "go"
 refine ⟨Z0,dx,flds d,h1,T.Z9,T.Z5,_,flds_things,d,rfl,_,DGet.k (k:=Sum.inr z) h2,?_⟩
 rw [h4,decide_eq_true hz]
 obtain ⟨i,t,ht,rfl⟩:=mem_nth hz
 obtain ⟨a,e1,e2⟩:=h5 nd i t ht
 walk_at "go"
 refine ⟨Z0,dx,flds d,h1,T.Z9,T.Z5,_,flds_things,?_⟩
 walk_at "go"
 refine ⟨V.ref a,by rw [← e1];exact DGet.k (k:=Sum.inr t.1) h2,?_⟩
 exact q i t ht rfl a e2
theorem Z1w{f:Addr}{fd:FuncData}(F:Fun K "room_of" "Stock.room_of" Zu f fd)(T:Txt K mg Z2 Z1 Z0 Z3)(Zb:DefM P w K mg base (CXE P w) 1 Z0 "thing_of" ["self","name"] (sp32_thing K Z0)):FnOk P w K mg base (CXE P w) 2 f fd ["self","name"] (sp32_room K Z0):=by
 have sc:FnScope ["self","name"] ["self","name"] (defScope Zu):=by walk_at "sc"
 refine F.okE sc (fun vs H Q E h=>?_) (fun cdv A outer s H vs Q E hr h=>?_)
 · obtain ⟨_,_,_,rfl,_⟩:=h;rfl
 obtain ⟨p,ts,z,rfl,hs,nd,hz,q⟩:=h
 refine ⟨_,(@pss_one _ _ _ (@ps_ret _ _ _ _ (@pe_ix _ _ _ _ _ _ _ ix_tup (pe_methS Zb T.Z9 hr (passS pass_on) (pv 0) (pa_cons (pv 1) pa_nil)) pe_int (fun _ _=>rfl)))),?_⟩
 walk_at "st"
 obtain ⟨dx,d,kvs,h1,h2,h3,h4,h5⟩:=StockAt.has hs
 walk_at "go"
 refine ⟨dx,flds d,h1,by rfl,?_⟩
 walk_at "go"
 refine ⟨ts,hs,nd,hz,fun i t ht e a ha=>?_⟩
 subst e
 refine ixT_of ha rfl ?_
 rw [rm_at nd ht]at q
 exact q
theorem Z2c{f:Addr}{fd:FuncData}(F:Fun K "check_asks" "check_asks" Z0d f fd)(T:Txt K mg Z2 Z1 Z0 Z3)(Z02:Def P w K mg base (CXE P w) 3 "check_places" ["places"] (sp32_check))(Z0p:DefM P w K mg base (CXE P w) 1 Z0 "has" ["self","name"] (sp_has K Z0))(Z7:DefM P w K mg base (CXE P w) 2 Z0 "room_of" ["self","name"] (sp32_room K Z0)):FnOk P w K mg base (CXE P w) 4 f fd ["stock","asks","places"] (sp32_asks K Z0):=by
 have sc:FnScope ["stock","asks","places","number","name"] ["stock","asks","places"] (defScope Z0d):=by walk_at "sc"
 refine F.okE sc (fun vs H Q E h=>?_) (fun cdv A outer s H vs Q E hr h=>?_)
 · obtain ⟨_,_,_,_,_,rfl,_⟩:=h;rfl
 obtain ⟨p,a,pl,ts,ys,rfl,hs,nd,hS,hl,hin,hw,h1,h2,q⟩:=h
 refine ⟨_,(@pss_cons _ _ _ _ _ (ps_expr (pe_callD Z02 hr rfl pass_on (pa_cons (pv 2) pa_nil)))
  (@pss_cons _ _ _ _ _ (ps_if (pt_cmpR op_gt (pe_callB call_len_seq rfl T.Za PySem.boot_len (pa_cons (pv 1) pa_nil)) (pe_gint rfl T.Zp) (nomark _))
   (@pss_one _ _ _ ps_never)
   pss_nil)
  (@pss_cons _ _ _ _ _ (ps_for own_out rfl (pi_enum rfl T.Zh (pa_cons (pv 1) pa_nil)) (pg_tup rfl (pgs_cons (pg_name (i:=3) sc.nd rfl (Or.inl rfl)) (pgs_cons (pg_name (i:=4) sc.nd rfl (Or.inl rfl)) pgs_nil)))
   (@pss_cons _ _ _ _ _ (ps_if (pt_not (pt_val (pe_methS Z0p T.Z9 hr (passS pass_on) (pv 0) (pa_cons (pv 4) pa_nil))))
    (@pss_one _ _ _ ps_never)
    pss_nil)
   (@pss_one _ _ _ (ps_if (pt_cmpR op_gt (pe_methS Z7 T.Z9 hr (passS pass_on) (pv 0) (pa_cons (pv 4) pa_nil)) (pv 2) (nomark _))
    (@pss_one _ _ _ ps_never)
    pss_nil))))
  (@pss_one _ _ _ (@ps_ret _ _ _ _ pe_bl))))),?_⟩
 walk_at "st"
 have line:=line_val
 walk_at "go"
 rw [List.length_map,if_neg (by omega)]
 walk_at "go"
 refine ⟨⟨_,hS⟩,?_⟩
 rename_i rest hrest
 refine forE_by (xs:=ys.map V.str) (fun i σ H'=>∃v3 v4,σ=[some (V.ref p),some (V.ref a),some (V.int pl),v3,v4]∧Same H H') ⟨none,none,rfl,Same.refl _⟩ (fun i σ H' _ ⟨v3,v4,_,sm⟩=>sm.seq hS) ?_ ?_
 · rintro i x σ H' t hx ⟨v3,v4,rfl,sm⟩ ht
   rw [List.getElem?_map]at hx
   cases hy:ys[i]? with
   | none=>rw [hy]at hx;cases hx
   | some y=>
    rw [hy]at hx
    cases hx
    have hyin:=hin y (List.mem_of_getElem? hy)
    walk_at "go"
    refine ⟨_,SqT.of upd_same,rfl,_,_,rfl,_,_,rfl,rfl,?_⟩
    have sm2:=sm.trans (Same.new (o:= .tup [.int i,.str y]) ht)
    generalize upd H' t (.tup [.int i,.str y])=H2 at sm2 ⊢
    have hs2:=StockAt.same sm2 hs
    obtain ⟨dx,d,kvs,g1,g2,_⟩:=StockAt.has hs2
    walk_at "go"
    refine ⟨dx,flds d,g1,by rfl,ts,hs2,?_⟩
    rw [if_neg (fun h=>h hyin)]
    walk_at "go"
    refine ⟨dx,flds d,g1,by rfl,ts,hs2,nd,hyin,?_⟩
    obtain ⟨j,tt,hj,rfl⟩:=mem_nth hyin
    rw [rm_at nd hj,if_neg (by have:=hw tt (List.mem_of_getElem? hj);omega)]
    exact sm2
 · rintro σ H' ⟨v3,v4,rfl,sm⟩
   walk_at "go"
   exact q _ sm
theorem Z23{f:Addr}{fd:FuncData}(F:Fun K "earlier_asks" "earlier_asks" Z01 f fd)(T:Txt K mg Z2 Z1 Z0 Z3):FnOk P w K mg base (CXE P w) 1 f fd ["asks"] (sp32_early K):=by
 have sc:FnScope ["asks","last","told","number","name"] ["asks"] (defScope Z01):=by walk_at "sc"
 refine F.okE sc (fun vs H Q E h=>?_) (fun cdv A outer s H vs Q E hr h=>?_)
 · obtain ⟨_,_,rfl,_⟩:=h;rfl
 obtain ⟨a,ys,rfl,hS,hl,q⟩:=h
 refine ⟨_,(@pss_cons _ _ _ _ _ (ps_set (i:=1) sc.nd rfl (Or.inl rfl) pe_dnewK)
  (@pss_cons _ _ _ _ _ (ps_set (i:=2) sc.nd rfl (Or.inl rfl) (@pe_lst _ _ _ _ pa_nil))
  (@pss_cons _ _ _ _ _ (ps_for own_out rfl (pi_enum rfl T.Zh (pa_cons (pv 0) pa_nil)) (pg_tup rfl (pgs_cons (pg_name (i:=3) sc.nd rfl (Or.inl rfl)) (pgs_cons (pg_name (i:=4) sc.nd rfl (Or.inl rfl)) pgs_nil)))
   (@pss_cons _ _ _ _ _ (ps_expr (pe_bm PySem.F.plainAttrs_list PySem.F.slot_list_append PySem.F.type_list_append mt_append (pv 2) (pa_cons (pe_dget1 (hu_of hr) (pv 1) (pv 4) ⟨rfl,rfl,rfl,rfl⟩) pa_nil)))
   (@pss_one _ _ _ (ps_dput (hu_of hr) (pv 1) (pv 4) (pv 3) rfl))))
  (@pss_one _ _ _ (@ps_ret _ _ _ _ (pv 2)))))),?_⟩
 walk_at "st"
 have line:=line_val
 walk_at "go"
 intro d hd
 walk_at "go"
 intro p hp
 walk_at "go"
 have ndp:d≠p:=ne_of_none upd_same hp
 have sm0:Same H (upd (upd H d (.dK [])) p (.lst [])):=(Same.new hd).trans (Same.new hp)
 have hd0:upd (upd H d (.dK [])) p (.lst []) d=some (.dK []):=by rw [upd_ne ndp];exact upd_same
 have hp0:upd (upd H d (.dK [])) p (.lst []) p=some (.lst []):=upd_same
 have hpH:=none_of (Same.new hd) hp
 generalize upd (upd H d (.dK [])) p (.lst [])=H1 at sm0 hd0 hp0 ⊢
 clear hp
 refine ⟨⟨_,sm0.seq hS⟩,?_⟩
 rename_i rest hrest
 refine forE_by (xs:=ys.map V.str) (fun i σ H'=>∃(kvs:List (Key×V)) (v3 v4:Option V),σ=[some (V.ref a),some (V.ref d),some (V.ref p),v3,v4]∧Same H H'∧H' d=some (.dK kvs)∧kvs.length≤i∧(∀z,valV kvs (Sum.inr z)=(lastIx ys z i).map fun j=>V.int (j:Int))∧H' p=some (.lst ((List.range i).map (earV ys))))
  ⟨[],none,none,rfl,sm0,hd0,Nat.le_refl _,fun z=>rfl,hp0⟩ (fun i σ H' _ ⟨kvs,v3,v4,_,sm,_⟩=>sm.seq hS) ?_ ?_
 · rintro i x σ H' t hx ⟨kvs,v3,v4,rfl,sm,g1,g2,g3,g4⟩ ht
   rw [List.getElem?_map]at hx
   cases hy:ys[i]? with
   | none=>rw [hy]at hx;cases hx
   | some y=>
    rw [hy]at hx
    cases hx
    have hyD:ys.getD i Str.empty=y:=by rw [List.getD_eq_getElem?_getD,hy];rfl
    have hil:i < ys.length:=(List.getElem?_eq_some_iff.mp hy).1
    walk_at "go"
    refine ⟨_,SqT.of upd_same,rfl,_,_,rfl,_,_,rfl,rfl,?_⟩
    have smt:Same H' (upd H' t (.tup [.int i,.str y])):=Same.new ht
    have sm2:=sm.trans smt
    have f1:=smt _ _ g1
    have f4:=smt _ _ g4
    generalize upd H' t (.tup [.int i,.str y])=H2 at sm2 f1 f4 ⊢
    clear smt ht g1 g4 sm
    walk_at "go"
    refine ⟨.inl ⟨rfl,_,SqL.of f4⟩,.inl ⟨kvs,.inl f1⟩,_,DGet.k (k:=Sum.inr y) f1,?_⟩
    refine ⟨p,_,_,rfl,rfl,f4,by rw [List.length_map,List.length_range];omega,?_⟩
    rw [g3 y,← hyD,ear_val]
    walk_at "go"
    have f1':upd H2 p (.lst ((List.range i).map (earV ys)++[earV ys i])) d=some (.dK kvs):=by rw [upd_ne ndp];exact f1
    refine ⟨_,DPut.k (k:=Sum.inr (ys.getD i Str.empty)) f1' (by omega),same_upd (same_upd sm2 hpH) hd,_,upd_same,?_,last_put g3,?_⟩
    · have:=length_putK kvs (Sum.inr (ys.getD i Str.empty):Key) (V.int (i:Int));omega
    · rw [upd_ne ndp.symm,upd_same,List.range_succ,List.map_append];rfl
 · rintro σ H' ⟨kvs,v3,v4,rfl,sm,g1,g2,g3,g4⟩
   rw [List.length_map]at g4
   walk_at "go"
   exact q p _ hpH sm g4
theorem Z2g{f:Addr}{fd:FuncData}(F:Fun K "__init__" "Sums.__init__" Z0j f fd)(T:Txt K mg Z2 Z1 Z0 Z3)(Z4:Def P w K mg base (CXE P w) 2 "is_within" ["thing","least","most"] (sp_within K)):FnOk P w K mg base (CXE P w) 3 f fd ["self","many"] (sp32_init Z3):=by
 have sc:FnScope ["self","many"] ["self","many"] (defScope Z0j):=by walk_at "sc"
 refine F.okE sc (fun vs H Q E h=>?_) (fun cdv A outer s H vs Q E hr h=>?_)
 · obtain ⟨_,_,_,rfl,_⟩:=h;rfl
 obtain ⟨p,dx,n,rfl,hp,hn,q⟩:=h
 refine ⟨_,(@pss_cons _ _ _ _ _ (ps_if (pt_not (pt_val (pe_callD Z4 hr rfl pass_on (pa_cons (pv 1) (pa_cons pe_int (pa_cons (pe_gint rfl T.Zq) pa_nil))))))
  (@pss_one _ _ _ ps_never)
  pss_nil)
  (@pss_one _ _ _ (ps_fld (pv 0) (pe_comp1 "place" [] rfl rfl (pi_range1 rfl T.Zd (pa_cons (pv 1) pa_nil)) (fun b=>pe_int)) rfl))),?_⟩
 walk_at "st"
 have line:=line_val
 walk_at "go"
 rw [if_neg (by rw [wIn_ok (by omega) (by omega)];decide)]
 refine ⟨rfl,?_⟩
 walk_at "go"
 refine compR_pure (fun _=>V.int 0) (by omega) (fun b i H' Q' hi sm q'=>?_) fun D hD=>?_
 · walk_at "go"
   exact q'
 · have npd:p≠D:=ne_of_none hp hD
   walk_at "go"
   refine ⟨Z3,dx,[],by rw [upd_ne npd];exact hp,T.Zn,T.Z8,by decide,?_⟩
   refine q D _ hD (fun b o e nb=>?_) ⟨⟨dx,upd_same⟩,?_⟩
   · rw [upd_ne nb,upd_ne (ne_of_none e hD)];exact e
   · rw [upd_ne npd.symm,upd_same,List.map_const',List.length_range,List.map_replicate]
theorem Z2s{f:Addr}{fd:FuncData}(F:Fun K "add" "Sums.add" Z16 f fd)(T:Txt K mg Z2 Z1 Z0 Z3)(Z4:Def P w K mg base (CXE P w) 2 "is_within" ["thing","least","most"] (sp_within K)):FnOk P w K mg base (CXE P w) 3 f fd ["self","at","by"] (sp32_add Z3):=by
 have sc:FnScope ["self","at","by"] ["self","at","by"] (defScope Z16):=by walk_at "sc"
 refine F.okE sc (fun vs H Q E h=>?_) (fun cdv A outer s H vs Q E hr h=>?_)
 · obtain ⟨_,_,_,_,_,rfl,_⟩:=h;rfl
 obtain ⟨p,l,k,b,is,rfl,hs,hl,hk,q⟩:=h
 refine ⟨_,(@pss_cons _ _ _ _ _ (ps_if (pt_not (pt_val (pe_callD Z4 hr rfl pass_on (pa_cons (pv 1) (pa_cons pe_int (pa_cons (pe_op op_sub (pe_callB call_len_seq rfl T.Za PySem.boot_len (pa_cons (pe_fld (pv 0) rfl) pa_nil)) pe_int) pa_nil))))))
  (@pss_one _ _ _ ps_never)
  pss_nil)
  (@pss_one _ _ _ (ps_augS (pe_fld (pv 0) rfl) (pv 1) get_list (pv 2) ip_add set_list))),?_⟩
 walk_at "st"
 have line:=line_val
 obtain ⟨⟨dx,ho⟩,hL⟩:=hs
 walk_at "go"
 refine ⟨Z3,dx,_,ho,T.Zn,T.Z8,_,fldN_is,?_⟩
 walk_at "go"
 refine ⟨_,.inl (SqL.of hL),rfl,?_⟩
 rw [List.length_map,if_neg (by rw [wIn_ok (by omega) (by omega)];decide)]
 walk_at "go"
 refine ⟨Z3,dx,_,ho,T.Zn,T.Z8,_,fldN_is,?_⟩
 walk_at "go"
 refine ⟨_,k,rfl,SqL.of hL,_,getMap hk,_,rfl,_,hL,k,ixN_nat (by rw [List.length_map];exact hk),?_⟩
 rw [map_set]
 exact q
theorem Z2h{f:Addr}{fd:FuncData}(F:Fun K "upto" "Sums.upto" Z0k f fd)(T:Txt K mg Z2 Z1 Z0 Z3)(Z4:Def P w K mg base (CXE P w) 2 "is_within" ["thing","least","most"] (sp_within K)):FnOk P w K mg base (CXE P w) 3 f fd ["self","at"] (sp32_upto Z3):=by
 have sc:FnScope ["self","at"] ["self","at"] (defScope Z0k):=by walk_at "sc"
 refine F.okE sc (fun vs H Q E h=>?_) (fun cdv A outer s H vs Q E hr h=>?_)
 · obtain ⟨_,_,_,_,rfl,_⟩:=h;rfl
 obtain ⟨p,l,k,is,rfl,hs,hl,hk,q⟩:=h
 refine ⟨_,(@pss_cons _ _ _ _ _ (ps_if (pt_not (pt_val (pe_callD Z4 hr rfl pass_on (pa_cons (pv 1) (pa_cons pe_int (pa_cons (pe_callB call_len_seq rfl T.Za PySem.boot_len (pa_cons (pe_fld (pv 0) rfl) pa_nil)) pa_nil))))))
  (@pss_one _ _ _ ps_never)
  pss_nil)
  (@pss_one _ _ _ (@ps_ret _ _ _ _ (pe_callB (call_sumL rfl) rfl T.Z0g (by first | rfl | decide+kernel) (pa_cons (pe_slice sl_list (pe_fld (pv 0) rfl) po_none (po_some (pv 1))) pa_nil))))),?_⟩
 walk_at "st"
 have line:=line_val
 obtain ⟨⟨dx,ho⟩,hL⟩:=hs
 walk_at "go"
 refine ⟨Z3,dx,_,ho,T.Zn,T.Z8,_,fldN_is,?_⟩
 walk_at "go"
 refine ⟨_,.inl (SqL.of hL),rfl,?_⟩
 rw [List.length_map,if_neg (by rw [wIn_ok (by omega) (by omega)];decide)]
 walk_at "go"
 refine ⟨Z3,dx,_,ho,T.Zn,T.Z8,_,fldN_is,?_⟩
 walk_at "go"
 refine ⟨_,SqL.of hL,fun p' hp=>?_⟩
 rw [cut_ints is k hk]
 exact ⟨is.take k,SqL.of upd_same,q _ (Same.new hp)⟩
theorem Z2i{f:Addr}{fd:FuncData}(F:Fun K "depths_of" "depths_of" Z0l f fd)(T:Txt K mg Z2 Z1 Z0 Z3)(Z0e:Def P w K mg base (CXE P w) 4 "check_asks" ["stock","asks","places"] (sp32_asks K Z0))(Z03:Def P w K mg base (CXE P w) 1 "earlier_asks" ["asks"] (sp32_early K))(Z7:DefM P w K mg base (CXE P w) 2 Z0 "room_of" ["self","name"] (sp32_room K Z0))(Z0q:DefI P w K mg base (CXE P w) 3 "Sums" Z3 ["self","many"] (sp32_init Z3))(Z09:DefM P w K mg base (CXE P w) 3 Z3 "add" ["self","at","by"] (sp32_add Z3))(Z04:DefM P w K mg base (CXE P w) 3 Z3 "upto" ["self","at"] (sp32_upto Z3)):FnOk P w K mg base (CXE P w) 5 f fd ["stock","asks"] (sp32_depths K Z0):=by
 have sc:FnScope ["stock","asks","rooms","depths","number","earlier","room"] ["stock","asks"] (defScope Z0l):=by walk_at "sc"
 refine F.okE sc (fun vs H Q E h=>?_) (fun cdv A outer s H vs Q E hr h=>?_)
 · obtain ⟨_,_,_,_,rfl,_⟩:=h;rfl
 obtain ⟨p,a,ts,ys,rfl,hs,nd,hS,hl,hin,hw,q⟩:=h
 refine ⟨_,(@pss_cons _ _ _ _ _ (ps_expr (pe_callD Z0e hr rfl pass_on (pa_cons (pv 0) (pa_cons (pv 1) (pa_cons (pe_gint rfl T.Zf) pa_nil)))))
  (@pss_cons _ _ _ _ _ (ps_set (i:=2) sc.nd rfl (Or.inl rfl) (pe_makeS Z0q hr rfl (passS pass_on) (pa_cons (pe_callB call_len_seq rfl T.Za PySem.boot_len (pa_cons (pv 1) pa_nil)) pa_nil)))
  (@pss_cons _ _ _ _ _ (ps_set (i:=3) sc.nd rfl (Or.inl rfl) (@pe_lst _ _ _ _ pa_nil))
  (@pss_cons _ _ _ _ _ (ps_for own_out rfl (pi_enum rfl T.Zh (pa_cons (pe_callD Z03 hr rfl pass_on (pa_cons (pv 1) pa_nil)) pa_nil)) (pg_tup rfl (pgs_cons (pg_name (i:=4) sc.nd rfl (Or.inl rfl)) (pgs_cons (pg_name (i:=5) sc.nd rfl (Or.inl rfl)) pgs_nil)))
   (@pss_cons _ _ _ _ _ (ps_set (i:=6) sc.nd rfl (Or.inl rfl) (pe_methS Z7 T.Z9 hr (passS pass_on) (pv 0) (pa_cons (@pe_ix _ _ _ _ _ _ _ ix_list (pv 1) (pv 4) (fun _ _=>rfl)) pa_nil)))
   (@pss_cons _ _ _ _ _ (ps_if (pt_cmpR op_isN (pv 5) pe_non (nomark _))
    (@pss_one _ _ _ (ps_expr (pe_bm PySem.F.plainAttrs_list PySem.F.slot_list_append PySem.F.type_list_append mt_append (pv 3) (pa_cons pe_non pa_nil))))
    (@pss_cons _ _ _ _ _ (ps_expr (pe_bm PySem.F.plainAttrs_list PySem.F.slot_list_append PySem.F.type_list_append mt_append (pv 3) (pa_cons (pe_op op_sub (pe_methS Z04 T.Zn hr (passS pass_on) (pv 2) (pa_cons (pv 4) pa_nil)) (pe_methS Z04 T.Zn hr (passS pass_on) (pv 2) (pa_cons (pv 5) pa_nil))) pa_nil)))
    (@pss_one _ _ _ (ps_expr (pe_methS Z09 T.Zn hr (passS pass_on) (pv 2) (pa_cons (pv 5) (pa_cons (pe_op op_sub pe_int (pv 6)) pa_nil)))))))
   (@pss_one _ _ _ (ps_expr (pe_methS Z09 T.Zn hr (passS pass_on) (pv 2) (pa_cons (pv 4) (pa_cons (pv 6) pa_nil))))))))
  (@pss_one _ _ _ (@ps_ret _ _ _ _ (pv 3))))))),?_⟩
 walk_at "st"
 have line:=line_val
 walk_at "go"
 refine ⟨ts,hs,nd,ys,hS,hl,hin,hw,by decide,by decide,fun H1 sm1=>?_⟩
 have hS1:=sm1.seq hS
 have hs1:=StockAt.same sm1 hs
 clear hS hs
 walk_at "go"
 intro s dx hsn hdx nds
 refine ⟨dx,ys.length,by rw [List.length_map],upd_same,hl,fun l H2 hln sb2 sa2=>?_⟩
 have sm2:Same H1 H2:=same_made hsn hdx sb2
 have hS2:=sm2.seq hS1
 have hs2:=StockAt.same sm2 hs1
 have hlH:H1 l=none:=made_none hsn hdx hln
 have offl:=off_of hS1 hlH
 have hlH0:=none_of sm1 hlH
 have sm02:=sm1.trans sm2
 clear sb2 hln hdx nds hsn sm2 hS1 hs1 sm1
 walk_at "go"
 intro D hD
 have smD:Same H2 (upd H2 D (.lst [])):=Same.new hD
 have sm03:=sm02.trans smD
 have hS3:=smD.seq hS2
 have hs3:=StockAt.same smD hs2
 have sa3:=sa2.same smD
 have hD3:upd H2 D (.lst []) D=some (.lst []):=upd_same
 have nlD:l≠D:=ne_of_none sa2.l hD
 have offD:=off_of hS2 hD
 have hDH:=none_of sm02 hD
 generalize upd H2 D (.lst [])=H3 at smD sm03 hS3 hs3 sa3 hD3 ⊢
 clear smD hS2 hs2 sa2 hD sm02
 walk_at "go"
 refine ⟨ys,hS3,hl,fun e H4 hen sm4 he4=>?_⟩
 have hS4:=sm4.seq hS3
 have hs4:=StockAt.same sm4 hs3
 have sa4:=sa3.same sm4
 have hD4:=sm4 _ _ hD3
 have nDe:D≠e:=ne_of_none hD3 hen
 have nle:l≠e:=ne_of_none sa3.l hen
 have sm04:=sm03.trans sm4
 clear sm4 sm03 hD3 sa3 hs3 hS3 hen
 rw [← nums_zero (R:=rm ts)]at sa4
 refine ⟨⟨_,SqL.of he4⟩,?_⟩
 rename_i rest hrest
 refine forE_by (xs:=(List.range ys.length).map (earV ys)) (fun i σ H'=>∃v4 v5 v6,σ=[some (V.ref p),some (V.ref a),some (V.ref s),some (V.ref D),v4,v5,v6]∧Same H H'∧SqL K H' a (ys.map V.str)∧StockAt K Z0 H' p ts∧SumsAt Z3 H' s l (nums (rm ts) ys i)∧H' D=some (.lst ((List.range i).map fun j=>optV (dep (rm ts) ys j)))∧H' e=some (.lst ((List.range ys.length).map (earV ys))))
  ⟨none,none,none,rfl,sm04,hS4,hs4,sa4,hD4,he4⟩ (fun i σ H' _ ⟨v4,v5,v6,_,_,_,_,_,_,h⟩=>SqL.of h) ?_ ?_
 · clear hS4 hs4 sa4 hD4 he4 sm04
   rintro i x σ H' t hx ⟨v4,v5,v6,rfl,sm,hS5,hs5,sa5,hD5,he5⟩ ht
   have hi:i < ys.length:=by
    have:=(List.getElem?_eq_some_iff.mp hx).1
    rw [List.length_map,List.length_range]at this;exact this
   rw [List.getElem?_map,List.getElem?_range hi]at hx
   cases hx
   have hyD:ys.getD i Str.empty∈ts.map (·.1):=hin _ (by rw [List.getD_eq_getElem?_getD,List.getElem?_eq_getElem hi];exact List.getElem_mem hi)
   have hg:atI (ys.map V.str) (i:Int)=some (V.str (ys.getD i Str.empty)):=by
    refine atI_nat ?_
    rw [List.getElem?_map,List.getD_eq_getElem?_getD,List.getElem?_eq_getElem hi];rfl
   walk_at "go"
   refine ⟨_,SqT.of upd_same,rfl,_,_,rfl,_,_,rfl,rfl,?_⟩
   have smt:Same H' (upd H' t (.tup [.int i,earV ys i])):=Same.new ht
   have sm2:=sm.trans smt
   have hS6:=smt.seq hS5
   have hs6:=StockAt.same smt hs5
   have sa6:=sa5.same smt
   have hD6:=smt _ _ hD5
   have he6:=smt _ _ he5
   generalize upd H' t (.tup [.int i,earV ys i])=H6 at sm2 hS6 hs6 sa6 hD6 he6 ⊢
   clear smt sm hS5 hs5 sa5 hD5 he5 ht
   obtain ⟨dx',d',kvs',g1,g2,_⟩:=StockAt.has hs6
   walk_at "go"
   refine ⟨dx',flds d',g1,by rfl,?_⟩
   refine ixL_of hS6 hg ⟨ts,_,rfl,hs6,nd,hyD,?_⟩
   obtain ⟨⟨dxs,hos⟩,hL⟩:=id sa6
   have hnl:=nums_len (R:=rm ts) (ys:=ys) (n:=i)
   cases he:ear ys i with
   | none=>
    have e1:earV ys i= .non:=by unfold earV;rw [he];rfl
    have e2:dep (rm ts) ys i=none:=by unfold dep;rw [he];rfl
    rw [e1]
    walk_at "go"
    refine ⟨.inl ⟨rfl,_,SqL.of hD6⟩,D,_,_,rfl,rfl,hD6,by rw [List.length_map,List.length_range];omega,?_⟩
    have sa7:=sa6.off (ys:=((List.range i).map fun j=>optV (dep (rm ts) ys j))++[V.non]) hD6 nlD
    have hS7:=offD _ (.lst (((List.range i).map fun j=>optV (dep (rm ts) ys j))++[V.non])) hS6
    have hs7:=StockAt.offL (o:= .lst (((List.range i).map fun j=>optV (dep (rm ts) ys j))++[V.non])) hD6 hs6
    have sm7:=same_upd (o:= .lst (((List.range i).map fun j=>optV (dep (rm ts) ys j))++[V.non])) sm2 hDH
    have hD7:upd H6 D (.lst (((List.range i).map fun j=>optV (dep (rm ts) ys j))++[V.non])) D=some (.lst ((List.range (i+1)).map fun j=>optV (dep (rm ts) ys j))):=by rw [upd_same,List.range_succ,List.map_append,List.map_cons,List.map_nil,e2];rfl
    have he7:upd H6 D (.lst (((List.range i).map fun j=>optV (dep (rm ts) ys j))++[V.non])) e=some (.lst ((List.range ys.length).map (earV ys))):=by rw [upd_ne nDe.symm];exact he6
    generalize upd H6 D (.lst (((List.range i).map fun j=>optV (dep (rm ts) ys j))++[V.non]))=H7 at sa7 hS7 hs7 sm7 hD7 he7 ⊢
    clear sa6 hS6 hs6 sm2 hD6 he6 hos hL g1 g2
    obtain ⟨⟨dx7,ho7⟩,hL7⟩:=id sa7
    walk_at "go"
    refine ⟨dx7,_,ho7,by rfl,l,i,rfl,_,sa7,by omega,by omega,?_⟩
    rw [nums_first hi he]
    exact ⟨same_upd sm7 hlH0,offl _ _ hS7,StockAt.offL hL7 hs7,sa7.put,by rw [upd_ne nlD.symm];exact hD7,by rw [upd_ne nle.symm];exact he7⟩
   | some b=>
    have e1:earV ys i= .int b:=by unfold earV;rw [he];rfl
    have hb:=(last_lt he).1
    obtain ⟨e3,e2⟩:=sums_dep (R:=rm ts) hi he
    rw [e1]
    walk_at "go"
    refine ⟨.inl ⟨rfl,_,SqL.of hD6⟩,dxs,_,hos,by rfl,l,i,rfl,_,sa6,by omega,by omega,fun H7 sm7=>?_⟩
    refine ⟨dxs,_,sm7 _ _ hos,by rfl,l,b,rfl,_,sa6.same sm7,by omega,by omega,fun H8 sm8=>?_⟩
    rw [e3]
    have sm78:=sm7.trans sm8
    have sa8:=sa6.same sm78
    have hS8:=sm78.seq hS6
    have hs8:=StockAt.same sm78 hs6
    have hD8:=sm78 _ _ hD6
    have he8:=sm78 _ _ he6
    have sH8:=sm2.trans sm78
    clear sa6 hS6 hs6 sm2 hD6 he6 hos hL g1 g2 sm7 sm8 sm78 e3
    refine ⟨D,_,_,rfl,rfl,hD8,by rw [List.length_map,List.length_range];omega,?_⟩
    have sa9:=sa8.off (ys:=((List.range i).map fun j=>optV (dep (rm ts) ys j))++[V.int (tl (W (rm ts) ys i) b i)]) hD8 nlD
    have hS9:=offD _ (.lst (((List.range i).map fun j=>optV (dep (rm ts) ys j))++[V.int (tl (W (rm ts) ys i) b i)])) hS8
    have hs9:=StockAt.offL (o:= .lst (((List.range i).map fun j=>optV (dep (rm ts) ys j))++[V.int (tl (W (rm ts) ys i) b i)])) hD8 hs8
    have sm9:=same_upd (o:= .lst (((List.range i).map fun j=>optV (dep (rm ts) ys j))++[V.int (tl (W (rm ts) ys i) b i)])) sH8 hDH
    have hD9:upd H8 D (.lst (((List.range i).map fun j=>optV (dep (rm ts) ys j))++[V.int (tl (W (rm ts) ys i) b i)])) D=some (.lst ((List.range (i+1)).map fun j=>optV (dep (rm ts) ys j))):=by rw [upd_same,List.range_succ,List.map_append,List.map_cons,List.map_nil,e2];rfl
    have he9:upd H8 D (.lst (((List.range i).map fun j=>optV (dep (rm ts) ys j))++[V.int (tl (W (rm ts) ys i) b i)])) e=some (.lst ((List.range ys.length).map (earV ys))):=by rw [upd_ne nDe.symm];exact he8
    generalize upd H8 D (.lst (((List.range i).map fun j=>optV (dep (rm ts) ys j))++[V.int (tl (W (rm ts) ys i) b i)]))=H9 at sa9 hS9 hs9 sm9 hD9 he9 ⊢
    clear sa8 hS8 hs8 sH8 hD8 he8 e2
    obtain ⟨⟨dx9,ho9⟩,hL9⟩:=id sa9
    walk_at "go"
    refine ⟨dx9,_,ho9,by rfl,l,b,rfl,_,sa9,by omega,by omega,?_⟩
    have sa10:SumsAt Z3 (upd H9 l (.lst (((nums (rm ts) ys i).set b ((nums (rm ts) ys i).getD b 0+(0 - rm ts (ys.getD i Str.empty)))).map V.int))) s l ((nums (rm ts) ys i).set b ((nums (rm ts) ys i).getD b 0+(0 - rm ts (ys.getD i Str.empty)))):=sa9.put
    obtain ⟨⟨dx10,ho10⟩,hL10⟩:=id sa10
    walk_at "go"
    refine ⟨dx10,_,ho10,by rfl,l,i,rfl,_,sa10,by rw [List.length_set];omega,by rw [List.length_set];omega,?_⟩
    rw [nums_again hi he,upd_upd]
    exact ⟨same_upd sm9 hlH0,offl _ _ hS9,StockAt.offL hL9 hs9,sa9.put,by rw [upd_ne nlD.symm];exact hD9,by rw [upd_ne nle.symm];exact he9⟩
 · rintro σ H' ⟨v4,v5,v6,rfl,sm,hS5,hs5,sa5,hD5,he5⟩
   rw [List.length_map,List.length_range]at hD5
   walk_at "go"
   exact q D _ hDH sm hD5
theorem Z1x{f:Addr}{fd:FuncData}(F:Fun K "cost_of" "Stock.cost_of" Zv f fd)(T:Txt K mg Z2 Z1 Z0 Z3)(Zb:DefM P w K mg base (CXE P w) 1 Z0 "thing_of" ["self","name"] (sp32_thing K Z0)):FnOk P w K mg base (CXE P w) 2 f fd ["self","name"] (sp41_cost K Z0):=by
 have sc:FnScope ["self","name"] ["self","name"] (defScope Zv):=by walk_at "sc"
 refine F.okE sc (fun vs H Q E h=>?_) (fun cdv A outer s H vs Q E hr h=>?_)
 · obtain ⟨_,_,_,rfl,_⟩:=h;rfl
 obtain ⟨p,ts,z,rfl,hs,nd,hz,q⟩:=h
 refine ⟨_,(@pss_one _ _ _ (@ps_ret _ _ _ _ (@pe_ix _ _ _ _ _ _ _ ix_tup (pe_methS Zb T.Z9 hr (passS pass_on) (pv 0) (pa_cons (pv 1) pa_nil)) pe_int (fun _ _=>rfl)))),?_⟩
 walk_at "st"
 obtain ⟨dx,d,kvs,h1,h2,h3,h4,h5⟩:=StockAt.has hs
 walk_at "go"
 refine ⟨dx,flds d,h1,by rfl,?_⟩
 walk_at "go"
 refine ⟨ts,hs,nd,hz,fun i t ht e a ha=>?_⟩
 subst e
 refine ixT_of ha rfl ?_
 rw [cst_at nd ht]at q
 exact q
theorem Z2t{f:Addr}{fd:FuncData}(F:Fun K "is_there" "is_there" Z17 f fd)(T:Txt K mg Z2 Z1 Z0 Z3):FnOk P w K mg base (CXE P w) 1 f fd ["depth","places"] (sp35_there):=by
 have sc:FnScope ["depth","places"] ["depth","places"] (defScope Z17):=by walk_at "sc"
 refine F.okE sc (fun vs H Q E h=>?_) (fun cdv A outer s H vs Q E hr h=>?_)
 · obtain ⟨_,_,rfl,_⟩:=h;rfl
 obtain ⟨o,p,rfl,q⟩:=h
 refine ⟨_,(@pss_one _ _ _ (@ps_ret _ _ _ _ (pe_and (pe_cmpR op_notN (pv 0) pe_non (nomark _)) (pe_one (pe_cmpR op_le (pv 0) (pv 1) (nomark _)))))),?_⟩
 walk_at "st"
 have line:=line_val
 walk_at "go"
 cases o with
 | none=>rw [if_neg (fun h=>h rfl)];exact q
 | some d=>rw [if_pos (by intro h;cases h)];exact ⟨d,rfl,q⟩
theorem Z2j{f:Addr}{fd:FuncData}(F:Fun K "step_with" "step_with" Z0m f fd)(T:Txt K mg Z2 Z1 Z0 Z3)(Z1a:Def P w K mg base (CXE P w) 1 "is_there" ["depth","places"] (sp35_there))(Zw:DefM P w K mg base (CXE P w) 2 Z0 "cost_of" ["self","name"] (sp41_cost K Z0)):FnOk P w K mg base (CXE P w) 4 f fd ["stock","asks","depths","places"] (sp35_step K Z0):=by
 have sc:FnScope ["stock","asks","depths","places","costs"] ["stock","asks","depths","places"] (defScope Z0m):=by walk_at "sc"
 refine F.okE sc (fun vs H Q E h=>?_) (fun cdv A outer s H vs Q E hr h=>?_)
 · obtain ⟨_,_,_,_,_,_,rfl,_⟩:=h;rfl
 obtain ⟨st,a,d,P,ts,ys,rfl,hs,nd,hS,hl,hin,hD,q⟩:=h
 refine ⟨_,(@pss_cons _ _ _ _ _ (ps_comp2I (i:=4) "name" "depth" [0,3] sc.nd rfl rfl rfl rfl (pi_zip rfl T.Z1q (pa_cons (pv 1) (pa_cons (pv 2) pa_nil))) (fun b=>(pt_not (pt_val (pe_callD Z1a hr rfl pass_no (pa_cons (pv 1) (pa_cons (pv 3) pa_nil)))))) (fun b=>(pe_methS Zw T.Z9 hr (passS pass_no) (pv 2) (pa_cons (pv 0) pa_nil))))
  (@pss_one _ _ _ (@ps_ret _ _ _ _ (pe_tup (pa_cons (pv 3) (pa_cons (pe_callB call_len_seq rfl T.Za PySem.boot_len (pa_cons (pv 4) pa_nil)) (pa_cons (pe_callB (call_sumL rfl) rfl T.Z0g (by first | rfl | decide+kernel) (pa_cons (pv 4) pa_nil)) pa_nil))))))),?_⟩
 walk_at "st"
 have line:=line_val
 walk_at "go"
 refine ⟨⟨_,hS⟩,⟨_,hD⟩,?_⟩
 rename_i rest hrest
 refine compZ_2 (by rw [List.length_map];unfold depsV;rw [List.length_map,List.length_range]) (fun i=>!thr (dep (rm ts) ys i) P) (fun i=>V.int (cst ts (yat ys i))) hS hD (by rw [List.length_map];omega) ?_ ?_ ?_
 · rintro b i x z H' QT hx hz sm q'
   have hi:i < ys.length:=by have:=(List.getElem?_eq_some_iff.mp hx).1;rw [List.length_map]at this;exact this
   unfold depsV at hz
   rw [List.getElem?_map,List.getElem?_range hi]at hz
   cases hz
   walk_at "go"
   exact ⟨_,rfl,q' _ (Same.refl _)⟩
 · rintro b i x z H' Q' hx hz hp sm q'
   have hi:i < ys.length:=by have:=(List.getElem?_eq_some_iff.mp hx).1;rw [List.length_map]at this;exact this
   have ey:yat ys i=ys[i]:=by unfold yat;rw [List.getD_eq_getElem?_getD,List.getElem?_eq_getElem hi];rfl
   rw [List.getElem?_map,List.getElem?_eq_getElem hi]at hx
   cases hx
   have hs':=StockAt.same sm hs
   obtain ⟨dx,d',kvs,g1,g2,_⟩:=StockAt.has hs'
   walk_at "go"
   refine ⟨dx,flds d',g1,by rfl,ts,hs',nd,hin _ (List.getElem_mem hi),?_⟩
   have:=q' _ (Same.refl _)
   rw [ey]at this
   exact this
 · intro D H' hDn sm hD'
   subst hrest
   have eD:((List.range (ys.map V.str).length).filter fun i=>!thr (dep (rm ts) ys i) P).map (fun i=>V.int (cst ts (yat ys i)))=((mis (rm ts) ys P ys.length).map fun i=>cst ts (yat ys i)).map V.int:=by rw [List.length_map,List.map_map];rfl
   rw [eD]at hD'
   walk_at "go"
   refine ⟨_,.inl (SqL.of hD'),_,SqL.of hD',by rw [line];decide,fun t ht=>?_⟩
   refine q t _ (none_of sm ht) (sm.trans (Same.new ht)) ?_
   rw [upd_same,List.length_map,List.length_map]
   rfl
theorem Z2u{f:Addr}{fd:FuncData}(F:Fun K "steps_of" "steps_of" Z18 f fd)(T:Txt K mg Z2 Z1 Z0 Z3)(Z0r:Def P w K mg base (CXE P w) 5 "depths_of" ["stock","asks"] (sp32_depths K Z0))(Z7:DefM P w K mg base (CXE P w) 2 Z0 "room_of" ["self","name"] (sp32_room K Z0))(Z0s:Def P w K mg base (CXE P w) 4 "step_with" ["stock","asks","depths","places"] (sp35_step K Z0)):FnOk P w K mg base (CXE P w) 6 f fd ["stock","asks"] (sp34_steps K Z0):=by
 have sc:FnScope ["stock","asks","depths","widest","deeper"] ["stock","asks"] (defScope Z18):=by walk_at "sc"
 refine F.okE sc (fun vs H Q E h=>?_) (fun cdv A outer s H vs Q E hr h=>?_)
 · obtain ⟨_,_,_,_,rfl,_⟩:=h;rfl
 obtain ⟨st,a,ts,ys,rfl,hs,nd,hS,hl,hin,hw,q⟩:=h
 refine ⟨_,(@pss_cons _ _ _ _ _ (ps_set (i:=2) sc.nd rfl (Or.inr rfl) (pe_callD Z0r hr rfl pass_on (pa_cons (pv 0) (pa_cons (pv 1) pa_nil))))
  (@pss_cons _ _ _ _ _ (ps_if (pt_cmpR (op_eqQ hr) (pv 2) (@pe_lst _ _ _ _ pa_nil) (nomark _))
   (@pss_one _ _ _ (@ps_ret _ _ _ _ (@pe_lst _ _ _ _ pa_nil)))
   pss_nil)
  (@pss_cons _ _ _ _ _ (ps_set (i:=3) sc.nd rfl (Or.inr rfl) (pe_callB (call_maxL rfl) rfl T.Z1r (by first | rfl | decide+kernel) (pa_cons (pe_comp1 "name" [0] rfl rfl (pi_list (pv 1)) (fun b=>(pe_methS Z7 T.Z9 hr (passS pass_no) (pv 1) (pa_cons (pv 0) pa_nil)))) pa_nil)))
  (@pss_cons _ _ _ _ _ (ps_compI (i:=4) "depth" [3] sc.nd rfl rfl rfl rfl (pi_list (pv 2)) (fun b=>(PW.pt (pw_and (pt_cmpR op_notN (pv 0) pe_non (nomark _)) (pw_and1 (pt_cmpR op_gt (pv 0) (pv 1) (nomark _)))))) (fun b=>(pv 0)))
  (@pss_one _ _ _ (@ps_ret _ _ _ _ (pe_comp1 "places" [0,1,2] rfl rfl (pi_list (pe_sortset rfl rfl T.Zz rfl T.Z21 (pa_cons (pe_op op_cat (@pe_lst _ _ _ _ (pa_cons (pv 3) pa_nil)) (pv 4)) pa_nil))) (fun b=>(pe_callD Z0s hr rfl pass_no (pa_cons (pv 1) (pa_cons (pv 2) (pa_cons (pv 3) (pa_cons (pv 0) pa_nil))))))))))))),?_⟩
 walk_at "st"
 have line:=line_val
 walk_at "go"
 refine ⟨ts,hs,nd,ys,hS,by omega,hin,hw,fun d H1 hd sm1 hD1=>?_⟩
 have hS1:=sm1.seq hS
 have hs1:=StockAt.same sm1 hs
 walk_at "go"
 intro p hp
 have smp:Same H1 (upd H1 p (.lst [])):=Same.new hp
 have hS2:=smp.seq hS1
 have hs2:=StockAt.same smp hs1
 have hD2:=smp _ _ hD1
 have sm2:=sm1.trans smp
 have hp2:upd H1 p (.lst []) p=some (.lst []):=upd_same
 generalize upd H1 p (.lst [])=H2 at smp hS2 hs2 hD2 sm2 hp2 ⊢
 clear hS1 hs1 smp sm1 hp hd hD1 hS hs
 refine ⟨_,eqQ_nil (SqL.of hD2) deps_flat (SqL.of hp2),?_⟩
 by_cases hy:ys=[]
 · subst hy
   rw [if_pos (by rfl)]
   exact ⟨Nat.zero_le _,fun r hr=>q r [] [] _ (none_of sm2 hr) (sm2.trans (Same.new hr)) upd_same ⟨rfl,fun j b z h=>by cases h⟩ ⟨fun _=>rfl,fun h=>absurd rfl h⟩ (Nat.zero_le _)⟩
 · rw [if_neg (by
    intro h
    have h:=of_decide_eq_true h
    have hl':=congrArg List.length h
    unfold depsV at hl'
    rw [List.length_map,List.length_range]at hl'
    exact hy (List.length_eq_zero_iff.mp hl'))]
   walk_at "go"
   refine ⟨⟨_,hS2⟩,?_⟩
   refine compL_ix (fun i=>V.int (rm ts (yat ys i))) hS2 (by rw [List.length_map];omega) ?_ ?_
   · rintro b i x H' Q' hx sm q'
     have hi:i < ys.length:=by have:=(List.getElem?_eq_some_iff.mp hx).1;rw [List.length_map]at this;exact this
     have ey:yat ys i=ys[i]:=by unfold yat;rw [List.getD_eq_getElem?_getD,List.getElem?_eq_getElem hi];rfl
     rw [List.getElem?_map,List.getElem?_eq_getElem hi]at hx
     cases hx
     have hs':=StockAt.same sm hs2
     obtain ⟨dx,d',kvs,g1,g2,_⟩:=StockAt.has hs'
     walk_at "go"
     refine ⟨dx,flds d',g1,by rfl,ts,hs',nd,hin _ (List.getElem_mem hi),?_⟩
     rw [ey]at q'
     exact q'
   · intro D hDn
     have smD:Same H2 (upd H2 D (.lst ((List.range (ys.map V.str).length).map fun i=>V.int (rm ts (yat ys i))))):=Same.new hDn
     have eD:(List.range (ys.map V.str).length).map (fun i=>V.int (rm ts (yat ys i)))=(ys.map (rm ts)).map V.int:=by
      rw [List.length_map]
      apply List.ext_getElem?
      intro i
      rw [List.getElem?_map,List.getElem?_map,List.getElem?_map]
      by_cases hi:i < ys.length
      · rw [List.getElem?_range hi,List.getElem?_eq_getElem hi]
        show some (V.int (rm ts (yat ys i)))=_
        unfold yat
        rw [List.getD_eq_getElem?_getD,List.getElem?_eq_getElem hi];rfl
      · rw [List.getElem?_eq_none (by rw [List.length_range];omega),List.getElem?_eq_none (by omega)];rfl
     rw [eD]at smD ⊢
     refine ⟨D,rfl,_,SqL.of upd_same,by intro h;exact hy (List.map_eq_nil_iff.mp h),fun w hwm hwx=>?_⟩
     have hS3:=smD.seq hS2
     have hs3:=StockAt.same smD hs2
     have hD3:=smD _ _ hD2
     have sm3:=sm2.trans smD
     generalize upd H2 D (.lst ((ys.map (rm ts)).map V.int))=H3 at smD hS3 hs3 hD3 sm3 ⊢
     clear hS2 hs2 hD2 sm2 smD hDn hp2 eD
     walk_at "go"
     refine ⟨⟨_,SqL.of hD3⟩,?_⟩
     have hdl:(depsV (rm ts) ys).length=ys.length:=by unfold depsV;rw [List.length_map,List.length_range]
     have hdx:∀(i:Nat) x,(depsV (rm ts) ys)[i]?=some x→i < ys.length∧x=optV (dep (rm ts) ys i):=fun i x hx=>by
      have hi:i < ys.length:=by have:=(List.getElem?_eq_some_iff.mp hx).1;omega
      unfold depsV at hx
      rw [List.getElem?_map,List.getElem?_range hi]at hx
      cases hx
      exact ⟨hi,rfl⟩
     refine compL_ifj (fun i=>match dep (rm ts) ys i with | none=>false | some v=>decide (w < v)) (SqL.of hD3) (by omega) ?_ ?_ ?_
     · rintro b i x H' QT hx sm q'
       obtain ⟨hi,rfl⟩:=hdx i x hx
       walk_at "go"
       cases e:dep (rm ts) ys i with
       | none=>
        rw [if_neg (fun h=>h rfl)]
        have:=q' _ (Same.refl _)
        rw [e]at this
        exact this
       | some v=>
        rw [if_pos (by intro h;cases h)]
        have:=q' _ (Same.refl _)
        rw [e]at this
        exact ⟨v,rfl,this⟩
     · rintro b i x H' Q' hx hp sm q'
       walk_at "go"
       exact q' _ (Same.refl _)
     · intro D2 H4 hDn sm4 hD4
       have eD:((List.range (depsV (rm ts) ys).length).filter fun i=>match dep (rm ts) ys i with | none=>false | some v=>decide (w < v)).map (fun i=>(depsV (rm ts) ys).getD i V.non)=(dps (rm ts) ys w).map V.int:=dps_eq
       rw [eD]at hD4
       have hS4:=sm4.seq hS3
       have hs4:=StockAt.same sm4 hs3
       have hd4:=sm4 _ _ hD3
       have sm5:=sm3.trans sm4
       have hle:=dps_len (R:=rm ts) (ys:=ys) (w:=w)
       walk_at "go"
       intro r hr
       have smr:Same H4 (upd H4 r (.lst [V.int w])):=Same.new hr
       refine ⟨r,D2,[V.int w],(dps (rm ts) ys w).map V.int,rfl,rfl,upd_same,smr _ _ hD4,by rw [List.length_map];show 1+_≤_;omega,fun c hc=>?_⟩
       have smc:=smr.trans (Same.new (o:= .lst ([V.int w]++(dps (rm ts) ys w).map V.int)) hc)
       refine ⟨c,rfl,w::dps (rm ts) ys w,SqL.of upd_same,by rw [List.length_cons];omega,fun g zs hg hzp hzs=>?_⟩
       have smg:=smc.trans (Same.new (o:= .lst (zs.map V.int)) hg)
       have hg5:upd (upd (upd H4 r (.lst [V.int w])) c (.lst ([V.int w]++(dps (rm ts) ys w).map V.int))) g (.lst (zs.map V.int)) g=some (.lst (zs.map V.int)):=upd_same
       generalize upd (upd (upd H4 r (.lst [V.int w])) c (.lst ([V.int w]++(dps (rm ts) ys w).map V.int))) g (.lst (zs.map V.int))=H5 at smg hg5 ⊢
       have hS5:=smg.seq hS4
       have hs5:=StockAt.same smg hs4
       have hd5:=smg _ _ hd4
       have sm6:=sm5.trans smg
       have hzl:zs.length≤61:=by
        rw [hzp.length_eq]
        refine Nat.le_trans (len_ds _) ?_
        rw [List.length_cons];omega
       have hlt:zs.Pairwise (· < ·):=by
        have hn:zs.Nodup:=hzp.nodup_iff.mpr (ds_nodup _)
        exact (hzs.and hn).imp fun h=>by omega
       refine ⟨⟨_,SqL.of hg5⟩,?_⟩
       refine compL_mkT (fun j=>stT (cst ts) (rm ts) ys (zs.getD j 0)) (SqL.of hg5) (by rw [List.length_map];omega) ?_ ?_
       · rintro b j x H' Q' hx sm q'
         rw [List.getElem?_map]at hx
         cases hz:zs[j]? with
         | none=>rw [hz]at hx;cases hx
         | some z=>
          rw [hz]at hx
          cases hx
          have ez:zs.getD j 0=z:=by rw [List.getD_eq_getElem?_getD,hz];rfl
          rw [ez]at q'
          walk_at "go"
          exact ⟨ts,StockAt.same sm hs5,nd,ys,sm.seq hS5,by omega,hin,SqL.of (sm _ _ hd5),fun t H6 ht sm6 h6=>q' t H6 sm6 h6⟩
       · intro D3 as H6 hDn6 sm7 hD6 hal hat
         rw [List.length_map]at hal
         refine q D3 as zs H6 (none_of sm6 hDn6) (sm6.trans sm7) hD6 ⟨hal,fun j b z h1 h2=>?_⟩ ⟨fun h=>absurd h hy,fun _=>⟨w,hwm,fun y hy'=>hwx _ (List.mem_map.mpr ⟨y,hy',rfl⟩),hlt,fun z=>?_⟩⟩ hzl
         · have:=hat j b h1
           rw [List.getD_eq_getElem?_getD,h2]at this
           exact this
         · rw [hzp.mem_iff,mem_ds,List.mem_cons,mem_dps]
theorem Z3h{f:Addr}{fd:FuncData}(F:Fun K "step_at" "step_at" Z1h f fd)(T:Txt K mg Z2 Z1 Z0 Z3):FnOk P w K mg base (CXE P w) 1 f fd ["steps","places"] (sp34_at K Z1):=by
 have sc:FnScope ["steps","places","within"] ["steps","places"] (defScope Z1h):=by walk_at "sc"
 refine F.okE sc (fun vs H Q E h=>?_) (fun cdv A outer s H vs Q E hr h=>?_)
 · obtain ⟨_,_,_,_,_,_,_,rfl,_⟩:=h;rfl
 obtain ⟨q',as,zs,P,C,R,ys,rfl,hS,hT,hZ,hl,q,qe⟩:=h
 refine ⟨_,(@pss_cons _ _ _ _ _ (ps_compI (i:=2) "step" [1] sc.nd rfl rfl rfl rfl (pi_list (pv 0)) (fun b=>(pt_cmpR op_le (@pe_ix _ _ _ _ _ _ _ ix_tup (pv 0) pe_int (fun _ _=>rfl)) (pv 1) (nomark _))) (fun b=>(pv 0)))
  (@pss_cons _ _ _ _ _ (ps_if (pt_cmpR (op_eqNil hr) (pv 2) (@pe_lst _ _ _ _ pa_nil) (nomark _))
   (@pss_one _ _ _ (ps_raise T.Z3d rfl rfl T.Z1y raises (pa_cons pe_str pa_nil)))
   pss_nil)
  (@pss_one _ _ _ (@ps_ret _ _ _ _ (pe_slice sl_tup (@pe_ix _ _ _ _ _ _ _ ix_list (pv 2) (pe_un un_neg pe_int) (fun _ _=>rfl)) (po_some pe_int) po_none))))),?_⟩
 walk_at "st"
 have line:=line_val
 walk_at "go"
 refine ⟨⟨_,hS⟩,?_⟩
 rename_i rest hrest
 have hlen:=hT.1
 have hx:∀(j:Nat) x,(as.map V.ref)[j]?=some x→∃b,x=V.ref b∧as[j]?=some b∧zs[j]?=some (zs.getD j 0)∧SqT K H b (stT C R ys (zs.getD j 0)):=fun j x hx=>by
  rw [List.getElem?_map]at hx
  cases hb:as[j]? with
  | none=>rw [hb]at hx;cases hx
  | some b=>
   rw [hb]at hx
   cases hx
   have hj2:j < zs.length:=by have:=(List.getElem?_eq_some_iff.mp hb).1;omega
   have e:zs[j]?=some (zs.getD j 0):=by rw [List.getD_eq_getElem?_getD,List.getElem?_eq_getElem hj2];rfl
   exact ⟨b,rfl,rfl,e,hT.2 j b _ hb e⟩
 refine compL_ifj (fun j=>decide (zs.getD j 0≤P)) hS (by rw [List.length_map];omega) ?_ ?_ ?_
 · rintro b j x H' QT hj sm q2
   obtain ⟨c,rfl,h1,h2,h3⟩:=hx j x hj
   walk_at "go"
   exact ixT_of (sm.tup h3) rfl ⟨_,rfl,q2 _ (Same.refl _)⟩
 · rintro b j x H' Q' hj hp sm q2
   walk_at "go"
   exact q2 _ (Same.refl _)
 · intro D H1 hDn sm1 hD1
   subst hrest
   rw [List.length_map]at hD1
   have hinc:((List.range as.length).filter (fun j=>decide (zs.getD j 0≤P))).Pairwise (· < ·):=List.pairwise_lt_range.sublist List.filter_sublist
   have hmem:∀j,j∈(List.range as.length).filter (fun j=>decide (zs.getD j 0≤P))↔j < as.length∧zs.getD j 0≤P:=fun j=>by rw [List.mem_filter,List.mem_range,decide_eq_true_eq]
   generalize (List.range as.length).filter (fun j=>decide (zs.getD j 0≤P))=ix at hD1 hinc hmem
   walk_at "go"
   intro r hr
   have smr:Same H1 (upd H1 r (.lst [])):=Same.new hr
   by_cases hne:ix=[]
   · subst hne
     refine ⟨D,r,_,rfl,rfl,SqL.of (smr _ _ hD1),SqL.of upd_same,true,rfl,?_⟩
     rw [if_pos rfl]
     refine ⟨by omega,fun x hx=>qe (fun z hz=>?_) _ x (sm1.trans smr) hx⟩
     obtain ⟨j,hj⟩:=List.mem_iff_getElem?.mp hz
     have hjl:=(List.getElem?_eq_some_iff.mp hj).1
     have ej:zs.getD j 0=z:=by rw [List.getD_eq_getElem?_getD,hj];rfl
     rcases Int.lt_or_le P z with h | h
     · exact h
     · have:=(hmem j).mpr ⟨by omega,by rw [ej];exact h⟩
       cases this
   obtain ⟨pre,l,rfl⟩:∃pre l,ix=pre++[l]:=⟨ix.dropLast,ix.getLast hne,(List.dropLast_concat_getLast hne).symm⟩
   have hl1:=(hmem l).mp (List.mem_append_right _ (.head _))
   obtain ⟨b,hb1,hb2,hb3,hb4⟩:=hx l _ (by rw [List.getElem?_map,List.getElem?_eq_getElem hl1.1];rfl)
   have eb:(as.map V.ref).getD l V.non=V.ref b:=by rw [List.getD_eq_getElem?_getD,List.getElem?_map,hb2];rfl
   refine ⟨D,r,_,rfl,rfl,SqL.of (smr _ _ hD1),SqL.of upd_same,false,by rw [List.length_map,List.length_append];rfl,?_⟩
   rw [if_neg (by decide)]
   have hD2:=smr _ _ hD1
   have sm2:=sm1.trans smr
   generalize upd H1 r (.lst [])=H2 at smr hD2 sm2 ⊢
   have hbT:=sm2.tup hb4
   walk_at "go"
   refine ixL_of (SqL.of hD2) (v:=V.ref b) ?_ ⟨b,_,rfl,hbT,(fun h=>absurd h.1 (by show ¬(1:Nat)=0;decide)),fun t ht=>?_⟩
   · rw [List.map_append]
     show atI (pre.map _++[(as.map V.ref).getD l V.non]) (-1)=_
     rw [eb]
     exact atI_end
   · rw [cut_3]
     refine q t (zs.getD l 0) _ (none_of sm2 ht) (sm2.trans (Same.new ht)) (List.mem_of_getElem? hb3) hl1.2 (fun z' hz' hz2=>?_) upd_same
     obtain ⟨j,hj⟩:=List.mem_iff_getElem?.mp hz'
     have hjl:=(List.getElem?_eq_some_iff.mp hj).1
     have ej:zs.getD j 0=z':=by rw [List.getD_eq_getElem?_getD,hj];rfl
     have hjm:=(hmem j).mpr ⟨by omega,by rw [ej];exact hz2⟩
     have hys:ys≠[]:=fun e=>by
      have:=hZ.1 e
      rw [this]at hz';cases hz'
     obtain ⟨_,_,_,hsrt,_⟩:=hZ.2 hys
     have hjl2:j≤l:=by
      rcases List.mem_append.mp hjm with h | h
      · exact Nat.le_of_lt ((List.pairwise_append.mp hinc).2.2 j h l (.head _))
      · rw [List.mem_singleton.mp h];exact Nat.le_refl _
     by_cases e:j=l
     · subst e;rw [ej];exact Int.le_refl _
     · have hll:l < zs.length:=by omega
       have:=(List.pairwise_iff_getElem.mp hsrt) j l hjl hll (by omega)
       have e1:zs[j]=z':=(List.getElem?_eq_some_iff.mp hj).2
       have e2:zs[l]=zs.getD l 0:=by rw [List.getD_eq_getElem?_getD,List.getElem?_eq_getElem hll];rfl
       omega
theorem Z3o{f:Addr}{fd:FuncData}(F:Fun K "_law_cell" "_law_cell" Z1u f fd)(T:Txt K mg Z2 Z1 Z0 Z3):FnOk P w K mg base (CXE P w) 1 f fd ["_law_script","_law_k"] (sp_cell K):=by
 have sc:FnScope ["_law_script","_law_k"] ["_law_script","_law_k"] (defScope Z1u):=by walk_at "sc"
 refine F.okE sc (fun vs H Q E h=>?_) (fun cdv A outer s H vs Q E hr h=>?_)
 · obtain ⟨_,_,_,rfl,_⟩:=h;rfl
 obtain ⟨a,ns,k,rfl,hS,h0,hl,q⟩:=h
 refine ⟨_,(@pss_cons _ _ _ _ _ (ps_if (pt_cmpR op_lt (pv 1) (pe_callB call_len_seq rfl T.Za PySem.boot_len (pa_cons (pv 0) pa_nil)) (nomark _))
  (@pss_one _ _ _ (@ps_ret _ _ _ _ (@pe_ix _ _ _ _ _ _ _ ix_list (pv 0) (pv 1) (fun _ _=>rfl))))
  pss_nil)
  (@pss_one _ _ _ (@ps_ret _ _ _ _ pe_int))),?_⟩
 walk_at "st"
 walk_at "go"
 rw [List.length_map]
 split
 · rename_i hk
   exact ixL_of hS (atI_of h0 (getMap (by omega))) q
 · rename_i hk
   rw [List.getD_eq_getElem?_getD,List.getElem?_eq_none (by omega)]at q
   walk_at "go"
   exact q
theorem Z3i{f:Addr}{fd:FuncData}(F:Fun K "_law_whole" "_law_whole" Z1i f fd)(T:Txt K mg Z2 Z1 Z0 Z3):FnOk P w K mg base (CXE P w) 1 f fd ["_law_found"] (sp34_whole):=by
 have sc:FnScope ["_law_found"] ["_law_found"] (defScope Z1i):=by walk_at "sc"
 refine F.okE sc (fun vs H Q E h=>?_) (fun cdv A outer s H vs Q E hr h=>?_)
 · obtain ⟨_,rfl,_⟩:=h;rfl
 obtain ⟨i,rfl,q⟩:=h
 refine ⟨_,(@pss_one _ _ _ (@ps_ret _ _ _ _ (pe_and (pe_callB call_isinst rfl T.Z6 (by first | rfl | decide+kernel) (pa_cons (pv 0) (pa_cons (pe_bltn (v:= .ty "int") rfl T.Z1p (by first | rfl | decide+kernel) rfl) pa_nil))) (pe_one (pe_not (pe_callB call_isinst rfl T.Z6 (by first | rfl | decide+kernel) (pa_cons (pv 0) (pa_cons (pe_bltn (v:= .ty "bool") rfl T.Z13 (by first | rfl | decide+kernel) rfl) pa_nil)))))))),?_⟩
 walk_at "st"
 walk_at "go"
 exact q
theorem Z3j{f:Addr}{fd:FuncData}(F:Fun K "_law_names" "_law_names" Z1j f fd)(T:Txt K mg Z2 Z1 Z0 Z3):FnOk P w K mg base (CXE P w) 1 f fd ["_law_cell_here","_law_many"] (sp35_names):=by
 have sc:FnScope ["_law_cell_here","_law_many","_law_signs","_law_tail","_law_j","_law_long","_law_at","_law_names_here","_law_k","_law_name","_law_by"] ["_law_cell_here","_law_many"] (defScope Z1j):=by walk_at "sc"
 refine F.okE sc (fun vs H Q E h=>?_) (fun cdv A outer s H vs Q E hr h=>?_)
 · obtain ⟨_,_,rfl,_⟩:=h;rfl
 obtain ⟨i,m,rfl,hm,q⟩:=h
 refine ⟨_,(@pss_cons _ _ _ _ _ (ps_set (i:=2) sc.nd rfl (Or.inr rfl) pe_str)
  (@pss_cons _ _ _ _ _ (ps_if (pt_cmpR op_eq (pe_op op_mod (pe_op op_fdiv (pv 0) pe_int) pe_int) pe_int (nomark _))
   (@pss_cons _ _ _ _ _ (ps_set (i:=3) sc.nd rfl (Or.inr rfl) pe_str)
   (@pss_cons _ _ _ _ _ (ps_for own_out rfl (pi_range1 rfl T.Zd (pa_cons pe_int pa_nil)) (pg_name (i:=4) sc.nd rfl (Or.inl rfl))
    (@pss_one _ _ _ (ps_set (i:=3) sc.nd rfl (Or.inr rfl) (pe_op op_add_str (pv 3) (@pe_ix _ _ _ _ _ _ _ ix_str (pv 2) (pe_op op_mod (pe_op op_add (pe_op op_fdivB (pe_op op_fdiv (pv 0) pe_int) (pe_op op_add (pv 4) pe_int)) (pe_op op_mul pe_int (pv 4))) pe_int) (fun _ _=>rfl))))))
   (@pss_one _ _ _ (@ps_ret _ _ _ _ (pe_comp1 "_law_k" [2,3,0] rfl rfl (pi_range1 rfl T.Zd (pa_cons (pv 1) pa_nil)) (fun b=>(pe_op op_add_str (@pe_ix _ _ _ _ _ _ _ ix_str (pv 1) (pe_op op_mod (pe_op op_add (pv 3) (pe_op op_fdiv (pv 0) pe_int)) pe_int) (fun _ _=>rfl)) (pe_slice sl_str (pv 2) po_none (po_some (pe_op op_mod (pv 0) pe_int))))))))))
   pss_nil)
  (@pss_cons _ _ _ _ _ (ps_set (i:=5) sc.nd rfl (Or.inl rfl) (pe_op op_add pe_int (pe_op op_mod (pv 0) pe_int)))
  (@pss_cons _ _ _ _ _ (ps_set (i:=6) sc.nd rfl (Or.inl rfl) (pe_op op_mod (pe_op op_fdiv (pv 0) pe_int) (pv 5)))
  (@pss_cons _ _ _ _ _ (ps_set (i:=7) sc.nd rfl (Or.inl rfl) (@pe_lst _ _ _ _ pa_nil))
  (@pss_cons _ _ _ _ _ (ps_for own_out rfl (pi_range1 rfl T.Zd (pa_cons (pv 1) pa_nil)) (pg_name (i:=8) sc.nd rfl (Or.inl rfl))
   (@pss_cons _ _ _ _ _ (ps_set (i:=9) sc.nd rfl (Or.inl rfl) pe_str)
   (@pss_cons _ _ _ _ _ (ps_for own_out rfl (pi_range1 rfl T.Zd (pa_cons (pv 5) pa_nil)) (pg_name (i:=4) sc.nd rfl (Or.inl rfl))
    (@pss_cons _ _ _ _ _ (ps_set (i:=10) sc.nd rfl (Or.inl rfl) (pe_op op_add (pe_op op_fdivB (pe_op op_fdiv (pv 0) pe_int) (pe_op op_add (pv 4) pe_int)) (pe_op op_mul pe_int (pv 4))))
    (@pss_cons _ _ _ _ _ (ps_if (pt_cmpR op_eq (pv 4) (pv 6) (nomark _))
     (@pss_one _ _ _ (ps_set (i:=10) sc.nd rfl (Or.inl rfl) (pe_op op_add (pv 10) (pv 8))))
     pss_nil)
    (@pss_one _ _ _ (ps_if (pt_cmpR op_eq (pv 4) pe_int (nomark _))
     (@pss_one _ _ _ (ps_set (i:=9) sc.nd rfl (Or.inl rfl) (pe_op op_add_str (pv 9) (@pe_ix _ _ _ _ _ _ _ ix_str (pv 2) (pe_op op_mod (pv 10) pe_int) (fun _ _=>rfl)))))
     (@pss_one _ _ _ (ps_set (i:=9) sc.nd rfl (Or.inl rfl) (pe_op op_add_str (pv 9) (@pe_ix _ _ _ _ _ _ _ ix_str (pv 2) (pe_op op_mod (pv 10) pe_int) (fun _ _=>rfl))))))))))
   (@pss_one _ _ _ (ps_expr (pe_bm PySem.F.plainAttrs_list PySem.F.slot_list_append PySem.F.type_list_append mt_append (pv 7) (pa_cons (pv 9) pa_nil)))))))
  (@pss_one _ _ _ (@ps_ret _ _ _ _ (pv 7))))))))),?_⟩
 walk_at "st"
 have line:=line_val
 have bl:=both_length
 walk_at "go"
 split
 · rename_i hst
   clear hst
   walk_at "go"
   rename_i rest hrest
   refine forR_by (n:=7) (fun j σ H'=>∃(v4:Option V),σ=[some (V.int i),some (V.int m),some (V.str (Str.ofString "abcdefghijklmnopqrstuvwxyz0123456789")),some (V.str (tx (tailL i j))),v4,none,none,none,none,none,none]∧H'=H) ⟨none,rfl,rfl⟩ ?_ ?_
   · rintro j σ H' hj ⟨v4,rfl,rfl⟩
     have hzl:(tx (tailL i j)).length=j:=by rw [T_len];simp [tailL]
     walk_at "go"
     refine ixS_of (by omega) (ix_bc _ (by decide) (by decide)) ?_
     walk_at "go"
     rw [tail_succ,← T_app]
     rfl
   · rintro σ H' ⟨v4,rfl,rfl⟩
     subst hrest
     walk_at "go"
     refine compR_pure (fun x=>V.str (tx (nmP i x.toNat))) (by omega) (fun b k H2 Q' hk sm q'=>?_) fun D hD=>?_
     · rw [show (0+(k:Int)).toNat=k by omega,nmP_eq]at q'
       have k1:=Int.emod_nonneg (k:Int) (show (8:Int)≠0 by decide)
       walk_at "go"
       refine ixS_of (by omega) (ix_bc _ (by decide) (by decide)) ?_
       walk_at "go"
       have e8:(k:Int) % 8=((k % 8:Nat):Int):=by omega
       have htl:(tailL i 7).length=7:=by unfold tailL;rw [List.length_map,List.length_range]
       have hsl:=slice_take (l:=tailL i 7) (k:=k % 8) (by omega)
       rw [← e8]at hsl
       rw [hsl]
       refine ⟨by rw [T_len,htl,line];decide,by rw [T_len,List.length_take,htl];show 1+_≤_;omega,?_⟩
       rw [T_one,T_app]
       exact q'
     · refine q D (nmsP i m) _ hD (Same.new hD) ?_ (by unfold nmsP;rw [List.length_map,List.length_range]) (nmsP_nodup (by omega)) fun y hy=>?_
       · rw [upd_same]
         unfold nmsP
         rw [List.map_map]
         congr 2
         refine List.map_congr_left fun k _=>?_
         show V.str (tx (nmP i (0+(k:Int)).toNat))=_
         rw [show (0+(k:Int)).toNat=k by omega];rfl
       · unfold nmsP at hy
         obtain ⟨k,_,rfl⟩:=List.mem_map.mp hy
         rw [T_list]
         exact nmP_name
 · rename_i hst
   clear hst
   walk_at "go"
   intro p hp
   obtain ⟨L,hL⟩:∃L:Nat,(L:Int)=1+i % 8:=⟨(1+i % 8).toNat,by omega⟩
   have hL2:1≤L:=by omega
   have hL8:L≤8:=by omega
   rw [← hL]
   have ha0:=Int.emod_nonneg (i / 8) (show (L:Int)≠0 by omega)
   have ha1:=Int.emod_lt_of_pos (i / 8) (show (0:Int) < L by omega)
   clear hL
   generalize i / 8 % (L:Int)=at' at ha0 ha1 ⊢
   walk_at "go"
   refine forR_by (fun k σ H'=>∃(v7 v8 v9 v10:Option V),σ=[some (V.int i),some (V.int m),some (V.str (Str.ofString "abcdefghijklmnopqrstuvwxyz0123456789")),none,v7,some (V.int L),some (V.int at'),some (V.ref p),v8,v9,v10]∧H'=upd H p (.lst ((nms (fun j=>(i / 64).fdiv (j+1)+7 * j) at' L k).map V.str))) ⟨none,none,none,none,rfl,rfl⟩ ?_ ?_
   · rintro k σ H' hk ⟨v7,v8,v9,v10,rfl,rfl⟩
     have hlen:((nms (fun j=>(i / 64).fdiv ((j:Int)+1)+7 * j) at' L k).map V.str).length=k:=by rw [List.length_map];unfold nms;rw [List.length_map,List.length_range]
     walk_at "go"
     rename_i rest hrest
     refine forR_by (fun j σ H'=>∃(v9 v10:Option V),σ=[some (V.int i),some (V.int m),some (V.str (Str.ofString "abcdefghijklmnopqrstuvwxyz0123456789")),none,v9,some (V.int L),some (V.int at'),some (V.ref p),some (V.int k),some (V.str (tx (nmL (fun j=>(i / 64).fdiv (j+1)+7 * j) at' j k))),v10]∧H'=upd H p (.lst ((nms (fun j=>(i / 64).fdiv (j+1)+7 * j) at' L k).map V.str))) ⟨v7,v10,rfl,rfl⟩ ?_ ?_
     · rintro j σ H' hj ⟨v9,v10,rfl,rfl⟩
       have hzl:(tx (nmL (fun j=>(i / 64).fdiv ((j:Int)+1)+7 * j) at' j k)).length=j:=by rw [T_len];simp [nmL]
       have hsg:nmL (fun j=>(i / 64).fdiv ((j:Int)+1)+7 * j) at' (j+1) k=nmL (fun j=>(i / 64).fdiv ((j:Int)+1)+7 * j) at' j k++[sgn (fun j=>(i / 64).fdiv ((j:Int)+1)+7 * j) at' k j]:=by
        unfold nmL;rw [List.range_succ,List.map_append];rfl
       unfold sgn at hsg
       walk_at "go"
       rename_i rest hrest
       have key1:∀b1:Int,((i / 64).fdiv ((j:Int)+1)+7 * j+(if (j:Int)=at' then (k:Int) else 0)=b1)→rest [some (V.int i),some (V.int m),some (V.str (Str.ofString "abcdefghijklmnopqrstuvwxyz0123456789")),none,some (V.int j),some (V.int L),some (V.int at'),some (V.ref p),some (V.int k),some (V.str (tx (nmL (fun j=>(i / 64).fdiv (j+1)+7 * j) at' j k))),some (V.int b1)] (upd H p (.lst ((nms (fun j=>(i / 64).fdiv (j+1)+7 * j) at' L k).map V.str))):=by
        intro b1 hb1
        rw [hb1]at hsg
        clear hb1
        subst hrest
        generalize nmL (fun j=>(i / 64).fdiv ((j:Int)+1)+7 * j) at' j k=zl at hsg hzl ⊢
        walk_at "go"
        split
        · rename_i hj0
          walk_at "go"
          refine ixS_of (by omega) (ix_bc _ (by decide) (by decide)) ?_
          walk_at "go"
          rw [hsg,← T_app]
          unfold md
          rw [if_pos (by omega)]
          rfl
        · rename_i hj0
          walk_at "go"
          refine ixS_of (by omega) (ix_bc _ (by decide) (by decide)) ?_
          walk_at "go"
          rw [hsg,← T_app]
          unfold md
          rw [if_neg (by omega)]
          rfl
       clear hrest
       split
       · rename_i he
         walk_at "go"
         exact key1 _ (by rw [if_pos he])
       · rename_i he
         exact key1 _ (by rw [if_neg he];omega)
     · rintro σ H' ⟨v9,v10,rfl,rfl⟩
       walk_at "go"
       refine ⟨.inl ⟨rfl,_,SqL.of upd_same⟩,p,_,_,rfl,rfl,upd_same,by omega,?_⟩
       walk_at "go"
       unfold nms
       rw [List.range_succ,List.map_append,List.map_append]
       rfl
   · rintro σ H' ⟨v7,v8,v9,v10,rfl,rfl⟩
     walk_at "go"
     refine q p _ _ hp (Same.new hp) upd_same (by unfold nms;simp) (nms_nodup ha0 ha1 (by omega)) fun y hy=>?_
     unfold nms at hy
     obtain ⟨k,_,rfl⟩:=List.mem_map.mp hy
     rw [T_list]
     exact nmL_name (by omega) hL8
theorem Z3k{f:Addr}{fd:FuncData}(F:Fun K "_law_depth" "_law_depth" Z1k f fd)(T:Txt K mg Z2 Z1 Z0 Z3):FnOk P w K mg base (CXE P w) 1 f fd ["_law_row","_law_at","_law_rooms"] (sp34_depth K):=by
 have sc:FnScope ["_law_row","_law_at","_law_rooms","_law_seen","_law_back"] ["_law_row","_law_at","_law_rooms"] (defScope Z1k):=by walk_at "sc"
 refine F.okE sc (fun vs H Q E h=>?_) (fun cdv A outer s H vs Q E hr h=>?_)
 · obtain ⟨_,_,_,_,_,_,rfl,_⟩:=h;rfl
 obtain ⟨a,d,i,ys,ns,R,rfl,hS,hl,hi,hR,hin,q⟩:=h
 refine ⟨_,(@pss_cons _ _ _ _ _ (ps_set (i:=3) sc.nd rfl (Or.inl rfl) (@pe_disp _ _ _ _ _ (@pps_cons _ _ _ _ _ _ _ _ _ (@pe_ix _ _ _ _ _ _ _ ix_list (pv 0) (pv 1) (fun _ _=>rfl)) pe_bl pps_nil) rfl rfl (by simp) (by decide)))
  (@pss_cons _ _ _ _ _ (ps_set (i:=4) sc.nd rfl (Or.inl rfl) (pe_op op_sub (pv 1) pe_int))
  (@pss_cons _ _ _ _ _ (ps_while own_out (PW.pt (pw_and (pt_cmpR op_ge (pv 4) pe_int (nomark _)) (pw_and1 (pt_cmpR op_ne (@pe_ix _ _ _ _ _ _ _ ix_list (pv 0) (pv 4) (fun _ _=>rfl)) (@pe_ix _ _ _ _ _ _ _ ix_list (pv 0) (pv 1) (fun _ _=>rfl)) (nomark _)))))
   (@pss_cons _ _ _ _ _ (ps_dput (hu_of hr) (pv 3) (@pe_ix _ _ _ _ _ _ _ ix_list (pv 0) (pv 4) (fun _ _=>rfl)) pe_bl rfl)
   (@pss_one _ _ _ (ps_set (i:=4) sc.nd rfl (Or.inl rfl) (pe_op op_sub (pv 4) pe_int)))))
  (@pss_cons _ _ _ _ _ (ps_if (pt_cmpR op_lt (pv 4) pe_int (nomark _))
   (@pss_one _ _ _ (@ps_ret _ _ _ _ pe_int))
   pss_nil)
  (@pss_one _ _ _ (@ps_ret _ _ _ _ (pe_callB (call_sumL rfl) rfl T.Z0g (by first | rfl | decide+kernel) (pa_cons (pe_comp1 "_law_name" [2] rfl rfl (pi_dict (pv 3)) (fun b=>(pe_dget (hu_of hr) (pv 1) (pv 0) (fun _ _=>rfl)))) pa_nil)))))))),?_⟩
 walk_at "st"
 have line:=line_val
 have hg:∀j:Nat,j < ys.length→atI (ys.map V.str) (j:Int)=some (V.str (yat ys j)):=fun j hj=>by
  refine atI_nat ?_
  unfold yat
  rw [List.getElem?_map,List.getD_eq_getElem?_getD,List.getElem?_eq_getElem hj];rfl
 have hmem:∀j:Nat,j < ys.length→yat ys j∈ns:=fun j hj=>hin _ (by unfold yat;rw [List.getD_eq_getElem?_getD,List.getElem?_eq_getElem hj];exact List.getElem_mem hj)
 walk_at "go"
 intro p hp
 have smp:Same H (upd H p (.dK [])):=Same.new hp
 refine ixL_of (smp.seq hS) (hg i hi) ⟨upd_same,[(Sum.inr (yat ys i),.bl true)],rfl,by simp,?_⟩
 rw [upd_upd,show mergeK [] [((Sum.inr (yat ys i):Key),V.bl true)]=[(Sum.inr (yat ys i),V.bl true)] from rfl]
 have sm3:=Same.new (o:= .dK [(Sum.inr (yat ys i),V.bl true)]) hp
 have hs3:upd H p (.dK [(Sum.inr (yat ys i),V.bl true)]) p=some (.dK [(Sum.inr (yat ys i),V.bl true)]):=upd_same
 generalize upd H p (.dK [(Sum.inr (yat ys i),V.bl true)])=H3 at sm3 hs3 ⊢
 clear smp
 walk_at "go"
 rename_i rest hrest
 refine while_d (m0:=i) (fun m σ H'=>∃(kv:List (Key×V)) (ks:List Str),σ=[some (V.ref a),some (V.int i),some (V.ref d),some (V.ref p),some (V.int ((m:Int) - 1))]∧m≤i∧Back ys i ((m:Int) - 1) ks∧Same H H'∧H' p=some (.dK kv)∧kv.map (·.1)=ks.map Sum.inr∧ks.length≤i - m+1)
  ⟨_,[yat ys i],rfl,Nat.le_refl _,Back.zero,sm3,hs3,rfl,by simp⟩ ?_
 clear sm3 hs3
 rintro m σ H' ⟨kv,ks,rfl,hm,hb,sm,hs,hk,hkl⟩
 have hS2:=sm.seq hS
 have hkvl:kv.length=ks.length:=by have:=congrArg List.length hk;simpa using this
 have fin:∀m:Nat,Back ys i ((m:Int) - 1) ks→m≤i→(m=0∨yat ys (m - 1)=yat ys i)→rest [some (V.ref a),some (V.int i),some (V.ref d),some (V.ref p),some (V.int ((m:Int) - 1))] H':=by
  intro m hb hm hor
  subst hrest
  walk_at "go"
  split
  · rename_i h
    have e0:m=0:=by omega
    subst e0
    have:=q _ sm
    rw [Back.none hb]at this
    exact this
  · rename_i h
    have hm1:1≤m:=by omega
    have hor:yat ys (m - 1)=yat ys i:=hor.elim (fun e=>by omega) id
    have hb':Back ys i ((m - 1:Nat):Int) ks:=by rw [show ((m - 1:Nat):Int)=(m:Int) - 1 by omega];exact hb
    have hsum:=Back.some (R:=R) hb' (by omega) hor
    have:=q
    rw [hsum]at this
    obtain ⟨kr,er,vr⟩:=hR.same sm
    walk_at "go"
    refine ⟨_,.inl ⟨hs,fun o=>?_⟩⟩
    have npd:d≠p:=fun z=>by
     obtain ⟨k0,e0,_⟩:=hR
     rw [z,hp]at e0;cases e0
    have er':upd H' p (.frz o (.dK kv)) d=some (.dK kr):=by rw [upd_ne npd];exact er
    refine compK_ix (fun j=>V.int (R (ks.getD j Str.empty))) upd_same (by omega) (fun b j pr H2 Q' hj sm2 q'=>?_) fun D hD=>?_
    · have hjl:j < ks.length:=by have:=(List.getElem?_eq_some_iff.mp hj).1;omega
      have ek:pr.1=Sum.inr (ks.getD j Str.empty):=by
       have h1:=congrArg (fun l=>l[j]?) hk
       simp only [List.getElem?_map,hj,Option.map_some]at h1
       rw [List.getElem?_eq_getElem hjl]at h1
       rw [List.getD_eq_getElem?_getD,List.getElem?_eq_getElem hjl]
       simpa using h1
      have hin2:ks.getD j Str.empty∈ns:=by
       have hm2:ks.getD j Str.empty∈ks:=by rw [List.getD_eq_getElem?_getD,List.getElem?_eq_getElem hjl];exact List.getElem_mem hjl
       rcases (hb.mem _).mp hm2 with e | ⟨j',_,h2,e⟩
       · rw [e];exact hmem i hi
       · rw [← e];exact hmem j' (by omega)
      rw [ek]
      have g:=DGet.k (k:=Sum.inr (ks.getD j Str.empty)) (sm2 _ _ er')
      rw [vr _ hin2]at g
      walk_at "go"
      exact ⟨_,g,q'⟩
    · refine ⟨D,rfl,ks.map R,?_,this _ (same_upd (same_upd sm hp) (none_of (same_upd sm hp) hD))⟩
      refine SqL.of ?_
      rw [upd_same,hkvl]
      congr 2
      apply List.ext_getElem?
      intro j
      rw [List.getElem?_map,List.getElem?_map,List.getElem?_map]
      by_cases hj:j < ks.length
      · rw [List.getElem?_range hj,List.getElem?_eq_getElem hj]
        show some (V.int (R (ks.getD j Str.empty)))=_
        rw [List.getD_eq_getElem?_getD,List.getElem?_eq_getElem hj];rfl
      · rw [List.getElem?_eq_none (by rw [List.length_range];omega),List.getElem?_eq_none (by omega)];rfl
 clear hrest
 cases m with
 | zero=>
  walk_at "go"
  rw [if_neg (show ¬(0:Int)≤((0:Nat):Int) - 1 by omega)]
  exact fin 0 hb hm (.inl rfl)
 | succ m=>
  have em:((m+1:Nat):Int) - 1=(m:Int):=by omega
  have hmi:m < i:=by omega
  have hfin:=fin (m+1) hb hm
  rw [em]at hb hfin ⊢
  walk_at "go"
  rw [if_pos (by omega)]
  refine ixL_of hS2 (hg m (by omega)) (ixL_of hS2 (hg i hi) ⟨rfl,?_⟩)
  by_cases e:yat ys m=yat ys i
  · rw [if_neg (fun h=>h (by rw [e]))]
    exact hfin (.inr e)
  · rw [if_pos (fun h=>e (by injection h))]
    refine ⟨fun σ' H2=>σ'=[some (V.ref a),some (V.int i),some (V.ref d),some (V.ref p),some (V.int ((m:Int) - 1))]∧m≤i∧∃x ks',Back ys i ((m:Int) - 1) ks'∧Same H H2∧H2 p=some (.dK x)∧x.map (·.1)=ks'.map Sum.inr∧ks'.length≤i - m+1,fun σ' H2 h=>⟨m,Nat.lt_succ_self _,h⟩,?_⟩
    walk_at "go"
    refine ixL_of hS2 (hg m (by omega)) ⟨_,DPut.k (k:=Sum.inr (yat ys m)) hs (by omega),?_⟩
    walk_at "go"
    refine ⟨_,addK ks (yat ys m),Back.step hb hmi e,same_upd sm hp,upd_same,N53.put_both hk,?_⟩
    unfold addK
    split
    · omega
    · rw [List.length_append,List.length_singleton];omega
theorem Z3q{f:Addr}{fd:FuncData}(F:Fun K "_law_due" "_law_due" Z26 f fd)(T:Txt K mg Z2 Z1 Z0 Z3)(Z1n:Def P w K mg base (CXE P w) 1 "_law_depth" ["_law_row","_law_at","_law_rooms"] (sp34_depth K)):FnOk P w K mg base (CXE P w) 2 f fd ["_law_row","_law_rooms","_law_costs"] (sp34_due K):=by
 have sc:FnScope ["_law_row","_law_rooms","_law_costs","_law_depths","_law_widest","_law_edges","_law_depth_here","_law_due_here","_law_edge","_law_gone"] ["_law_row","_law_rooms","_law_costs"] (defScope Z26):=by walk_at "sc"
 refine F.okE sc (fun vs H Q E h=>?_) (fun cdv A outer s H vs Q E hr h=>?_)
 · obtain ⟨_,_,_,_,_,_,_,rfl,_⟩:=h;rfl
 obtain ⟨a,d,e,ys,ns,C,R,rfl,hS,hl,hR,hC,hin,hR1,h0,q⟩:=h
 refine ⟨_,(@pss_cons _ _ _ _ _ (ps_if (pt_cmpR (op_eqQ hr) (pv 0) (@pe_lst _ _ _ _ pa_nil) (nomark _))
  (@pss_one _ _ _ (@ps_ret _ _ _ _ (@pe_lst _ _ _ _ pa_nil)))
  pss_nil)
  (@pss_cons _ _ _ _ _ (ps_set (i:=3) sc.nd rfl (Or.inr rfl) (pe_comp1 "_law_at" [0,1] rfl rfl (pi_range1 rfl T.Zd (pa_cons (pe_callB call_len_seq rfl T.Za PySem.boot_len (pa_cons (pv 0) pa_nil)) pa_nil)) (fun b=>(pe_callD Z1n hr rfl pass_no (pa_cons (pv 1) (pa_cons (pv 0) (pa_cons (pv 2) pa_nil)))))))
  (@pss_cons _ _ _ _ _ (ps_set (i:=4) sc.nd rfl (Or.inl rfl) (pe_callB (call_maxL rfl) rfl T.Z1r (by first | rfl | decide+kernel) (pa_cons (pe_comp1 "_law_name" [1] rfl rfl (pi_list (pv 0)) (fun b=>(pe_dget (hu_of hr) (pv 1) (pv 0) (fun _ _=>rfl)))) pa_nil)))
  (@pss_cons _ _ _ _ _ (ps_set (i:=5) sc.nd rfl (Or.inl rfl) (@pe_lst _ _ _ _ (pa_cons (pv 4) pa_nil)))
  (@pss_cons _ _ _ _ _ (ps_for own_out rfl (pi_list (pe_callB call_sortI rfl T.Zz (by first | rfl | decide+kernel) (pa_cons (pv 3) pa_nil))) (pg_name (i:=6) sc.nd rfl (Or.inl rfl))
   (@pss_one _ _ _ (ps_if (pt_cmpR op_gt (pv 6) (@pe_ix _ _ _ _ _ _ _ ix_list (pv 5) (pe_un un_neg pe_int) (fun _ _=>rfl)) (nomark _))
    (@pss_one _ _ _ (ps_expr (pe_bm PySem.F.plainAttrs_list PySem.F.slot_list_append PySem.F.type_list_append mt_append (pv 5) (pa_cons (pv 6) pa_nil))))
    pss_nil)))
  (@pss_cons _ _ _ _ _ (ps_set (i:=7) sc.nd rfl (Or.inl rfl) (@pe_lst _ _ _ _ pa_nil))
  (@pss_cons _ _ _ _ _ (ps_for own_out rfl (pi_list (pv 5)) (pg_name (i:=8) sc.nd rfl (Or.inr rfl))
   (@pss_cons _ _ _ _ _ (ps_compI (i:=9) "_law_k" [8,3] sc.nd rfl rfl rfl rfl (pi_range1 rfl T.Zd (pa_cons (pe_callB call_len_seq rfl T.Za PySem.boot_len (pa_cons (pv 0) pa_nil)) pa_nil)) (fun b=>(PW.pt (pw_or (pt_cmpR op_eq (@pe_ix _ _ _ _ _ _ _ ix_list (pv 2) (pv 0) (fun _ _=>rfl)) pe_int (nomark _)) (pw_or1 (pt_cmpR op_gt (@pe_ix _ _ _ _ _ _ _ ix_list (pv 2) (pv 0) (fun _ _=>rfl)) (pv 1) (nomark _)))))) (fun b=>(pv 0)))
   (@pss_one _ _ _ (ps_expr (pe_bm PySem.F.plainAttrs_list PySem.F.slot_list_append PySem.F.type_list_append mt_append (pv 7) (pa_cons (pe_tup (pa_cons (pv 8) (pa_cons (pe_callB call_len_seq rfl T.Za PySem.boot_len (pa_cons (pv 9) pa_nil)) (pa_cons (pe_callB (call_sumL rfl) rfl T.Z0g (by first | rfl | decide+kernel) (pa_cons (pe_comp1 "_law_k" [2,0] rfl rfl (pi_list (pv 9)) (fun b=>(pe_dget (hu_of hr) (pv 1) (@pe_ix _ _ _ _ _ _ _ ix_list (pv 2) (pv 0) (fun _ _=>rfl)) (fun _ _=>rfl)))) pa_nil)) pa_nil)))) pa_nil))))))
  (@pss_one _ _ _ (@ps_ret _ _ _ _ (pv 7)))))))))),?_⟩
 walk_at "st"
 have line:=line_val
 have hix:∀(j:Nat) x,(ys.map V.str)[j]?=some x→j < ys.length∧x=V.str (yat ys j):=fun j x hx=>by
  have hj:j < ys.length:=by have:=(List.getElem?_eq_some_iff.mp hx).1;rw [List.length_map]at this;exact this
  rw [List.getElem?_map,List.getElem?_eq_getElem hj]at hx
  cases hx
  exact ⟨hj,by unfold yat;rw [List.getD_eq_getElem?_getD,List.getElem?_eq_getElem hj];rfl⟩
 have hmem:∀j:Nat,j < ys.length→yat ys j∈ns:=fun j hj=>hin _ (by unfold yat;rw [List.getD_eq_getElem?_getD,List.getElem?_eq_getElem hj];exact List.getElem_mem hj)
 walk_at "go"
 intro p hp
 have smp:Same H (upd H p (.lst [])):=Same.new hp
 refine ⟨_,eqQ_strs (ys:=[]) (smp.seq hS) (SqL.of upd_same),?_⟩
 by_cases hy:ys=[]
 · rw [if_pos (decide_eq_true hy)]
   exact ⟨Nat.zero_le _,fun r hr=>q r [] [] _ (none_of smp hr) (smp.trans (Same.new hr)) upd_same ⟨rfl,fun j b z h=>(by cases h)⟩ ⟨fun _=>rfl,fun h=>absurd hy h⟩ (Nat.zero_le _)⟩
 · rw [if_neg (by simpa using hy)]
   have hS1:=smp.seq hS
   have hR1':=hR.same smp
   have hC1:=hC.same smp
   generalize upd H p (.lst [])=H1 at smp hS1 hR1' hC1 ⊢
   walk_at "go"
   refine ⟨by rw [List.length_map];omega,?_⟩
   rw [List.length_map]
   refine compR_pureS (fun i=>V.int (d0 (dep R ys i))) (by omega) (fun b i H' Q' hi sm q'=>?_) fun D H2 hDn sm2 hD2=>?_
   · walk_at "go"
     exact ⟨d,i,by omega,rfl,ys,sm.seq hS1,by omega,hi,ns,R,hR1'.same sm,hin,fun H'' sm''=>q' _ sm''⟩
   · have eD:(List.range ys.length).map (fun i=>V.int (d0 (dep R ys i)))=(ldp R ys).map V.int:=by unfold ldp;rw [List.map_map];rfl
     rw [eD]at hD2
     have hll:(ldp R ys).length=ys.length:=by unfold ldp;rw [List.length_map,List.length_range]
     have hS2:=sm2.seq hS1
     have hR2:=hR1'.same sm2
     have hC2:=hC1.same sm2
     have sm02:=smp.trans sm2
     obtain ⟨kr,er,vr⟩:=id hR2
     clear hS1 hR1' hC1 sm2 smp hDn hp
     walk_at "go"
     refine ⟨⟨_,hS2⟩,compL_ix (fun i=>V.int (R (yat ys i))) hS2 (by rw [List.length_map];omega) (fun b i x H' Q' hx sm q'=>?_) fun D2 hD2n=>?_⟩
     · obtain ⟨hi,rfl⟩:=hix i x hx
       have g:=DGet.k (k:=Sum.inr (yat ys i)) (sm _ _ er)
       rw [vr _ (hmem i hi)]at g
       walk_at "go"
       exact ⟨_,g,q'⟩
     · rw [ixs_eq]
       have smD:Same H2 (upd H2 D2 (.lst ((ys.map R).map V.int))):=Same.new hD2n
       refine ⟨D2,rfl,_,SqL.of upd_same,(by intro h;exact hy (List.map_eq_nil_iff.mp h)),fun w hw1 hw2=>?_⟩
       have hS3:=smD.seq hS2
       have hR3:=hR2.same smD
       have hC3:=hC2.same smD
       have hD3:=smD _ _ hD2
       have sm03:=sm02.trans smD
       generalize upd H2 D2 (.lst ((ys.map R).map V.int))=H3 at smD hS3 hR3 hC3 hD3 sm03 ⊢
       clear hS2 hR2 hC2 hD2 sm02 smD hD2n er vr kr
       have hwx:∀y∈ys,R y≤w:=fun y hy'=>hw2 _ (List.mem_map.mpr ⟨y,hy',rfl⟩)
       walk_at "go"
       intro g hg
       have smg:Same H3 (upd H3 g (.lst [V.int w])):=Same.new hg
       have hg4:upd H3 g (.lst [V.int w]) g=some (.lst ([w].map V.int)):=upd_same
       have hgH:=none_of sm03 hg
       have nDg:D≠g:=ne_of_none hD3 hg
       generalize upd H3 g (.lst [V.int w])=H4 at smg hg4 ⊢
       have hD4:=smg _ _ hD3
       have sm04:=sm03.trans smg
       walk_at "go"
       refine ⟨_,SqL.of hD4,by omega,fun s ss hsn hsp hss=>?_⟩
       have sms:Same H4 (upd H4 s (.lst (ss.map V.int))):=Same.new hsn
       have hs5:upd H4 s (.lst (ss.map V.int)) s=some (.lst (ss.map V.int)):=upd_same
       have hg5:=sms _ _ hg4
       have ngs:g≠s:=ne_of_none hg4 hsn
       have sm05:=sm04.trans sms
       have hsH:=none_of sm04 hsn
       generalize upd H4 s (.lst (ss.map V.int))=H5 at sms hs5 hg5 sm05 ⊢
       refine ⟨⟨_,SqL.of hs5⟩,?_⟩
       rename_i rest hrest
       have hsl:ss.length=ys.length:=by rw [hsp.length_eq];exact hll
       refine forL_by (xs:=ss.map V.int) (fun i σ H'=>∃(pre:List Int) (eg:Int) (v6:Option V),σ=[some (V.ref a),some (V.ref d),some (V.ref e),some (V.ref D),some (V.int w),some (V.ref g),v6,none,none,none]∧Same H H'∧H' g=some (.lst ((pre++[eg]).map V.int))∧Edg w (ss.take i) (pre++[eg])∧pre.length≤i∧H' s=some (.lst (ss.map V.int))∧H' D=some (.lst ((ldp R ys).map V.int)))
        ⟨[],w,none,rfl,sm05,hg5,Edg.zero,Nat.le_refl _,hs5,sms _ _ hD4⟩ (fun i σ H' _ ⟨pre,eg,v6,_,_,_,_,_,h,_⟩=>SqL.of h) ?_ ?_
       · rintro i x σ H' hx ⟨pre,eg,v6,rfl,sm,h1,h2,h3,h4,h5⟩
         rw [List.getElem?_map]at hx
         cases hi:ss[i]? with
         | none=>rw [hi]at hx;cases hx
         | some x=>
          rw [hi]at hx
          cases hx
          have hil:=(List.getElem?_eq_some_iff.mp hi).1
          have htk:ss.take (i+1)=ss.take i++[x]:=by rw [List.take_add_one,hi];rfl
          have hle:∀z∈ss.take i,z≤x:=fun z hz=>by
           obtain ⟨j,hj⟩:=List.mem_iff_getElem?.mp hz
           rw [List.getElem?_take]at hj
           split at hj
           · rename_i hji
             obtain ⟨hjl,ej⟩:=List.getElem?_eq_some_iff.mp hj
             have:=(List.pairwise_iff_getElem.mp hss) j i hjl hil hji
             have ex:ss[i]=x:=(List.getElem?_eq_some_iff.mp hi).2
             omega
           · cases hj
          walk_at "go"
          refine ixL_of (SqL.of h1) (v:=V.int eg) (by rw [List.map_append];exact atI_end) ⟨eg,rfl,?_⟩
          rw [htk]
          split
          · rename_i c
            refine ⟨.inl ⟨rfl,_,SqL.of h1⟩,g,_,_,rfl,rfl,h1,by rw [List.length_map,List.length_append,List.length_singleton];omega,same_upd sm hgH,pre++[eg],x,by rw [upd_same,List.map_append (f:=V.int) (l₁:=pre++[eg])];rfl,h2.more hle c,by rw [List.length_append,List.length_singleton];omega,by rw [upd_ne ngs.symm];exact h4,by rw [upd_ne nDg];exact h5⟩
          · rename_i c
            exact ⟨sm,pre,eg,h1,h2.keep hle c,by omega,h4,h5⟩
       · rintro σ H' ⟨pre,eg,v6,rfl,sm,h1,h2,h3,h4,h5⟩
         subst hrest
         rw [List.length_map,List.take_length]at h2
         have hzs:Zs R ys (pre++[eg]):=h2.zs (fun z=>hsp.mem_iff) hR1 h0 hw1 hwx
         rw [List.length_map]at h3
         have hzl:(pre++[eg]).length≤61:=by rw [List.length_append,List.length_singleton];omega
         generalize pre++[eg]=zs at h1 hzs h2 hzl
         have hSx:=sm.seq hS
         have hRx:=hR.same sm
         have hCx:=hC.same sm
         walk_at "go"
         intro u hu
         have smu:Same H' (upd H' u (.lst [])):=Same.new hu
         have hu6:upd H' u (.lst []) u=some (.lst []):=upd_same
         have hg6:=smu _ _ h1
         have hD6:=smu _ _ h5
         have sm06:=sm.trans smu
         have huH:=none_of sm hu
         have nug:g≠u:=ne_of_none h1 hu
         have nuD:D≠u:=ne_of_none h5 hu
         generalize upd H' u (.lst [])=H6 at smu hu6 hg6 hD6 sm06 ⊢
         clear smu hu h1 h5 h4 sm hSx hRx hCx hg5 hs5 sms sm05 sm04 hD4 hg4 smg
         walk_at "go"
         refine ⟨⟨_,SqL.of hg6⟩,?_⟩
         rename_i rest hrest
         refine forL_by (xs:=zs.map V.int) (fun i σ H'=>∃(as:List Addr) (v8 v9:Option V),σ=[some (V.ref a),some (V.ref d),some (V.ref e),some (V.ref D),some (V.int w),some (V.ref g),v6,some (V.ref u),v8,v9]∧Same H H'∧H' u=some (.lst (as.map V.ref))∧as.length=i∧(∀j b,as[j]?=some b→H' b=some (.tup (stT C R ys (zs.getD j 0))))∧H' g=some (.lst (zs.map V.int))∧H' D=some (.lst ((ldp R ys).map V.int)))
          ⟨[],none,none,rfl,sm06,hu6,rfl,fun j b h=>(by cases h),hg6,hD6⟩ (fun i σ H' _ ⟨as,v8,v9,_,_,_,_,_,h,_⟩=>SqL.of h) ?_ ?_
         · rintro i x σ H' hx ⟨as,v8,v9,rfl,sm,k1,k2,k3,k4,k5⟩
           rw [List.getElem?_map]at hx
           cases hi:zs[i]? with
           | none=>rw [hi]at hx;cases hx
           | some z=>
            rw [hi]at hx
            cases hx
            have hil:=(List.getElem?_eq_some_iff.mp hi).1
            have ez:zs.getD i 0=z:=by rw [List.getD_eq_getElem?_getD,hi];rfl
            have hSx:=sm.seq hS
            have hCx:=hC.same sm
            have hld:∀j:Nat,j < ys.length→atI ((ldp R ys).map V.int) (j:Int)=some (V.int (d0 (dep R ys j))):=fun j hj=>by
             refine atI_nat ?_
             unfold ldp
             rw [List.getElem?_map,List.getElem?_map,List.getElem?_range hj];rfl
            walk_at "go"
            refine ⟨by rw [List.length_map];omega,?_⟩
            rw [List.length_map]
            refine compR_if (fun j=>decide (d0 (dep R ys j)=0) || decide (z < d0 (dep R ys j))) (fun j=>V.int (j:Int)) (by omega) (fun b j H2 QT hj sm2 q2=>?_) (fun b j H2 Q' hj hp sm2 q2=>?_) fun D7 H7 hD7n sm7 hD7=>?_
            · have hq:=q2 _ (Same.refl _)
              walk_at "go"
              refine ixL_of (SqL.of (sm2 _ _ k5)) (hld j hj) ⟨rfl,?_⟩
              by_cases c:d0 (dep R ys j)=0
              · rw [if_pos (by rw [c])]
                rw [decide_eq_true c,Bool.true_or]at hq
                exact hq
              · rw [if_neg (fun h=>c (by injection h))]
                rw [decide_eq_false c,Bool.false_or]at hq
                exact ixL_of (SqL.of (sm2 _ _ k5)) (hld j hj) ⟨_,rfl,hq⟩
            · walk_at "go"
              exact q2 _ (Same.refl _)
            · rw [gone_is hR1 h0]at hD7
              have sm8:=sm.trans sm7
              have hS8:=sm8.seq hS
              have hC8:=hC.same sm8
              obtain ⟨kc,ec,vc⟩:=id hC8
              have k1':=sm7 _ _ k1
              have k3':∀j b,as[j]?=some b→H7 b=some (.tup (stT C R ys (zs.getD j 0))):=fun j b h=>sm7 _ _ (k3 j b h)
              have k4':=sm7 _ _ k4
              have k5':=sm7 _ _ k5
              have hga:∀j:Nat,j < ys.length→atI (ys.map V.str) (j:Int)=some (V.str (yat ys j)):=fun j hj=>by
               refine atI_nat ?_
               unfold yat
               rw [List.getElem?_map,List.getD_eq_getElem?_getD,List.getElem?_eq_getElem hj];rfl
              have hmis:∀j∈mis R ys z ys.length,j < ys.length:=fun j hj=>List.mem_range.mp (List.mem_filter.mp hj).1
              walk_at "go"
              refine ⟨.inl ⟨rfl,_,SqL.of k1'⟩,_,.inl (SqL.of hD7),⟨_,SqL.of hD7⟩,?_⟩
              refine compL_ix (fun j=>V.int (C (yat ys ((mis R ys (zs.getD as.length 0) ys.length).getD j 0)))) (SqL.of hD7) (by rw [List.length_map];refine Nat.le_trans (List.length_filter_le _ _) ?_;rw [List.length_range];omega) (fun b j x H2 Q' hx sm2 q2=>?_) fun D8 hD8=>?_
              · rw [List.getElem?_map]at hx
                cases hj:(mis R ys (zs.getD as.length 0) ys.length)[j]? with
                | none=>rw [hj]at hx;cases hx
                | some jj=>
                 rw [hj]at hx
                 cases hx
                 have ej:(mis R ys (zs.getD as.length 0) ys.length).getD j 0=jj:=by rw [List.getD_eq_getElem?_getD,hj];rfl
                 have hjl:=hmis jj (List.mem_of_getElem? hj)
                 rw [ej]at q2
                 have g9:=DGet.k (k:=Sum.inr (yat ys jj)) (sm2 _ _ ec)
                 rw [vc _ (hmem jj hjl)]at g9
                 walk_at "go"
                 exact ixL_of (sm2.seq hS8) (hga jj hjl) ⟨_,g9,q2⟩
              · rw [ixm_eq (F:=fun j=>C (yat ys j)),List.length_map]
                have sm9:=Same.new (o:= .lst (((mis R ys (zs.getD as.length 0) ys.length).map fun j=>C (yat ys j)).map V.int)) hD8
                refine ⟨D8,rfl,_,SqL.of upd_same,by rw [line];decide,fun t ht=>?_⟩
                have smt:=sm9.trans (Same.new (o:= .tup [V.int (zs.getD as.length 0),V.int ((mis R ys (zs.getD as.length 0) ys.length).length:Int),V.int ((mis R ys (zs.getD as.length 0) ys.length).map fun j=>C (yat ys j)).sum]) ht)
                have ht9:upd (upd H7 D8 (.lst (((mis R ys (zs.getD as.length 0) ys.length).map fun j=>C (yat ys j)).map V.int))) t (.tup [V.int (zs.getD as.length 0),V.int ((mis R ys (zs.getD as.length 0) ys.length).length:Int),V.int ((mis R ys (zs.getD as.length 0) ys.length).map fun j=>C (yat ys j)).sum]) t=some (.tup (stT C R ys (zs.getD as.length 0))):=upd_same
                generalize upd (upd H7 D8 (.lst (((mis R ys (zs.getD as.length 0) ys.length).map fun j=>C (yat ys j)).map V.int))) t (.tup [V.int (zs.getD as.length 0),V.int ((mis R ys (zs.getD as.length 0) ys.length).length:Int),V.int ((mis R ys (zs.getD as.length 0) ys.length).map fun j=>C (yat ys j)).sum])=H9 at smt ht9 ⊢
                refine ⟨u,_,_,rfl,rfl,smt _ _ k1',by rw [List.length_map];omega,same_upd (sm8.trans smt) huH,as++[t],by rw [upd_same,List.map_append];rfl,by rw [List.length_append,List.length_singleton],fun j b hj=>?_,by rw [upd_ne nug];exact smt _ _ k4',by rw [upd_ne nuD];exact smt _ _ k5'⟩
                have hb:H9 b=some (.tup (stT C R ys (zs.getD j 0))):=by
                 rw [List.getElem?_append]at hj
                 split at hj
                 · exact smt _ _ (k3' j b hj)
                 · have hj0:=(List.getElem?_eq_some_iff.mp hj).1
                   rw [List.length_singleton]at hj0
                   have e:j=as.length:=by omega
                   subst e
                   rw [Nat.sub_self]at hj
                   cases hj
                   exact ht9
                rw [upd_ne (ne_of hb (smt _ _ k1') (by intro z;cases z))]
                exact hb
         · rintro σ H' ⟨as,v8,v9,rfl,sm,k1,k2,k3,k4,k5⟩
           subst hrest
           rw [List.length_map]at k2
           walk_at "go"
           refine q u as zs _ huH sm k1 ⟨k2,fun j b z hj1 hj2=>?_⟩ hzs hzl
           have:=k3 j b hj1
           rw [List.getD_eq_getElem?_getD,hj2]at this
           exact this
theorem Z2k{f:Addr}{fd:FuncData}(F:Fun K "_law_refused" "_law_refused" Z0n f fd)(T:Txt K mg Z2 Z1 Z0 Z3)(Zm:Def P w K mg base (CXE P w) 1 "step_at" ["steps","places"] (sp34_at K Z1)):FnOk P w K mg base (CXE P w) 2 f fd ["_law_steps","_law_places"] (sp34_refused K):=by
 have sc:FnScope ["_law_steps","_law_places","_law_told","e"] ["_law_steps","_law_places"] (defScope Z0n):=by walk_at "sc"
 refine F.okE sc (fun vs H Q E h=>?_) (fun cdv A outer s H vs Q E hr h=>?_)
 · obtain ⟨_,_,_,_,_,_,_,rfl,_⟩:=h;rfl
 obtain ⟨q',as,zs,P,C,R,ys,rfl,hS,hT,hZ,hl,hP,q⟩:=h
 refine ⟨_,(@pss_cons _ _ _ _ _ (ps_set (i:=2) sc.nd rfl (Or.inl rfl) pe_bl)
  (@pss_cons _ _ _ _ _ (ps_tryV rfl rfl (fun t hp=>(@pss_one _ _ _ (ps_expr (pe_callE Zm hr rfl hp (pa_cons (pv 0) (pa_cons (pv 1) pa_nil))))))
   (ph_asV (i:=3) rfl sc.nd rfl rfl rfl T.Z1y (fun x=>(@pss_one _ _ _ (ps_set (i:=2) sc.nd rfl (Or.inl rfl) (pe_callB call_isiR rfl T.Z6 (by first | rfl | decide+kernel) (pa_cons (pv 3) (pa_cons (pe_glob (v:= .ref Z2) rfl T.Z2q rfl) pa_nil)))))) ph_nil))
  (@pss_one _ _ _ (@ps_ret _ _ _ _ (pv 2))))),?_⟩
 walk_at "st"
 have line:=line_val
 walk_at "go"
 refine ⟨as,hS,zs,C,R,ys,hT,hZ,hl,fun t z H' _ _ hz hle _ _=>absurd hle (by have:=hP z hz;omega),fun _ H' x sm hx=>exm_go T.Z1e ?_⟩
 rw [if_pos rfl]
 exact ⟨_,upd_same,T.w_NoNumber_CastError,q _ (sm.trans (Same.new hx))⟩
theorem Z3p{f:Addr}{fd:FuncData}(F:Fun K "_law_pair" "_law_pair" Z1v f fd)(T:Txt K mg Z2 Z1 Z0 Z3)(Zg:Def P w K mg base (CXE P w) 1 "_law_whole" ["_law_found"] (sp34_whole)):FnOk P w K mg base (CXE P w) 2 f fd ["_law_found","_law_missed","_law_paid"] (sp34_pair K):=by
 have sc:FnScope ["_law_found","_law_missed","_law_paid"] ["_law_found","_law_missed","_law_paid"] (defScope Z1v):=by walk_at "sc"
 refine F.okE sc (fun vs H Q E h=>?_) (fun cdv A outer s H vs Q E hr h=>?_)
 · obtain ⟨_,_,_,rfl,_⟩:=h;rfl
 obtain ⟨t,m,p,rfl,hT,q⟩:=h
 refine ⟨_,(@pss_cons _ _ _ _ _ (ps_if (PW.pt (pw_or (pt_not (pt_val (pe_callB call_isinst rfl T.Z6 (by first | rfl | decide+kernel) (pa_cons (pv 0) (pa_cons (pe_bltn (v:= .ty "tuple") rfl T.Z0b (by first | rfl | decide+kernel) rfl) pa_nil))))) (pw_or (pt_cmpR op_ne (pe_callB call_len_seq rfl T.Za PySem.boot_len (pa_cons (pv 0) pa_nil)) pe_int (nomark _)) (pw_or (pt_not (pt_val (pe_callD Zg hr rfl pass_on (pa_cons (@pe_ix _ _ _ _ _ _ _ ix_tup (pv 0) pe_int (fun _ _=>rfl)) pa_nil)))) (pw_or1 (pt_not (pt_val (pe_callD Zg hr rfl pass_on (pa_cons (@pe_ix _ _ _ _ _ _ _ ix_tup (pv 0) pe_int (fun _ _=>rfl)) pa_nil)))))))))
  (@pss_one _ _ _ (@ps_ret _ _ _ _ pe_bl))
  pss_nil)
  (@pss_one _ _ _ (@ps_ret _ _ _ _ (pe_cmpR (op_eqQ hr) (pv 0) (pe_tup (pa_cons (pv 1) (pa_cons (pv 2) pa_nil))) (nomark _))))),?_⟩
 walk_at "st"
 have line:=line_val
 walk_at "go"
 refine ⟨_,.inr (SqT.of hT),?_⟩
 rw [if_neg (fun h=>h rfl)]
 refine ixT_of (SqT.of hT) rfl ⟨_,rfl,ixT_of (SqT.of hT) rfl ⟨_,rfl,?_⟩⟩
 walk_at "go"
 exact fun r hr=>⟨true,eqQ_pair (SqT.of ((Same.new hr) _ _ hT)) (SqT.of upd_same),q _ (Same.new hr)⟩
theorem Z2l{f:Addr}{fd:FuncData}(F:Fun K "_law_between" "_law_between" Z0o f fd)(T:Txt K mg Z2 Z1 Z0 Z3)(Zm:Def P w K mg base (CXE P w) 1 "step_at" ["steps","places"] (sp34_at K Z1))(Z1b:Def P w K mg base (CXE P w) 2 "_law_pair" ["_law_found","_law_missed","_law_paid"] (sp34_pair K))(Zi:Def P w K mg base (CXE P w) 2 "_law_refused" ["_law_steps","_law_places"] (sp34_refused K)):FnOk P w K mg base (CXE P w) 3 f fd ["_law_steps","_law_due_here"] (sp34_between K):=by
 have sc:FnScope ["_law_steps","_law_due_here","_law_k","_law_places","_law_missed","_law_paid","_law_last"] ["_law_steps","_law_due_here"] (defScope Z0o):=by walk_at "sc"
 refine F.okE sc (fun vs H Q E h=>?_) (fun cdv A outer s H vs Q E hr h=>?_)
 · obtain ⟨_,_,_,_,_,_,_,_,rfl,_⟩:=h;rfl
 obtain ⟨q',q2,as,bs,zs,C,R,ys,rfl,hS,hS2,hT,hT2,hZ,hl,hz1,q⟩:=h
 refine ⟨_,(@pss_cons _ _ _ _ _ (ps_for own_out rfl (pi_range1 rfl T.Zd (pa_cons (pe_callB call_len_seq rfl T.Za PySem.boot_len (pa_cons (pv 1) pa_nil)) pa_nil)) (pg_name (i:=2) sc.nd rfl (Or.inl rfl))
  (@pss_cons _ _ _ _ _ (ps_asg (@pe_ix _ _ _ _ _ _ _ ix_list (pv 1) (pv 2) (fun _ _=>rfl)) (pg_tup rfl (pgs_cons (pg_name (i:=3) sc.nd rfl (Or.inl rfl)) (pgs_cons (pg_name (i:=4) sc.nd rfl (Or.inl rfl)) (pgs_cons (pg_name (i:=5) sc.nd rfl (Or.inl rfl)) pgs_nil)))))
  (@pss_cons _ _ _ _ _ (ps_set (i:=6) sc.nd rfl (Or.inl rfl) (pe_op op_add (pv 3) (pe_op op_fdivB pe_int (pe_op op_add (pv 2) pe_int))))
  (@pss_cons _ _ _ _ _ (ps_if (pt_cmpR op_lt (pe_op op_add (pv 2) pe_int) (pe_callB call_len_seq rfl T.Za PySem.boot_len (pa_cons (pv 1) pa_nil)) (nomark _))
   (@pss_one _ _ _ (ps_set (i:=6) sc.nd rfl (Or.inl rfl) (pe_op op_sub (@pe_ix _ _ _ _ _ _ _ ix_tup (@pe_ix _ _ _ _ _ _ _ ix_list (pv 1) (pe_op op_add (pv 2) pe_int) (fun _ _=>rfl)) pe_int (fun _ _=>rfl)) pe_int)))
   pss_nil)
  (@pss_one _ _ _ (ps_if (PW.pt (pw_or (pt_not (pt_val (pe_callD Z1b hr rfl pass_on (pa_cons (pe_callD Zm hr rfl pass_on (pa_cons (pv 0) (pa_cons (pv 3) pa_nil))) (pa_cons (pv 4) (pa_cons (pv 5) pa_nil)))))) (pw_or1 (pt_not (pt_val (pe_callD Z1b hr rfl pass_on (pa_cons (pe_callD Zm hr rfl pass_on (pa_cons (pv 0) (pa_cons (pv 6) pa_nil))) (pa_cons (pv 4) (pa_cons (pv 5) pa_nil)))))))))
   (@pss_one _ _ _ (@ps_ret _ _ _ _ pe_bl))
   pss_nil))))))
  (@pss_one _ _ _ (@ps_ret _ _ _ _ (pe_or (pe_cmpR (op_eqNil hr) (pv 1) (@pe_lst _ _ _ _ pa_nil) (nomark _)) (pe_one (pe_and (pe_callD Zi hr rfl pass_on (pa_cons (pv 0) (pa_cons (pe_op op_sub (@pe_ix _ _ _ _ _ _ _ ix_tup (@pe_ix _ _ _ _ _ _ _ ix_list (pv 1) pe_int (fun _ _=>rfl)) pe_int (fun _ _=>rfl)) pe_int) pa_nil))) (pe_one (pe_callD Zi hr rfl pass_on (pa_cons (pv 0) (pa_cons pe_int pa_nil)))))))))),?_⟩
 walk_at "st"
 have line:=line_val
 have hlen:=hT.1
 have hlen2:=hT2.1
 walk_at "go"
 rw [List.length_map]
 refine ⟨by omega,?_⟩
 rename_i rest hrest
 refine forR_by (fun k σ H'=>∃(v2 v3 v4 v5 v6:Option V),σ=[some (V.ref q'),some (V.ref q2),v2,v3,v4,v5,v6]∧Same H H') ⟨none,none,none,none,none,rfl,Same.refl _⟩ ?_ ?_
 · rintro k σ H' hk ⟨v2,v3,v4,v5,v6,rfl,sm⟩
   have hkz:k < zs.length:=by omega
   have hb:bs[k]?=some bs[k]:=List.getElem?_eq_getElem hk
   have hz:zs[k]?=some zs[k]:=List.getElem?_eq_getElem hkz
   have hbT:=sm.tup (hT2.2 k _ _ hb hz)
   have hS':=sm.seq hS
   have hS2':=sm.seq hS2
   have hT':=hT.same sm
   have hT2':=hT2.same sm
   have hgb:∀j:Nat,(hj:j < bs.length)→atI (bs.map V.ref) (j:Int)=some (V.ref bs[j]):=fun j hj=>by
    refine atI_nat ?_
    rw [List.getElem?_map,List.getElem?_eq_getElem hj];rfl
   walk_at "go"
   refine ixL_of hS2' (hgb k hk) ⟨_,rfl,_,hbT,rfl,_,_,rfl,_,_,rfl,_,_,rfl,rfl,?_⟩
   walk_at "go"
   rename_i rest2 hrest2
   have hys:ys≠[]:=fun e=>by
    have:=hZ.1 e
    rw [this]at hkz;exact absurd hkz (Nat.not_lt_zero _)
   obtain ⟨_,_,_,hsrt,_⟩:=hZ.2 hys
   have key:∀last:Int,zs[k]≤last→(∀z'∈zs,z'≤last→z'≤zs[k])→rest2 [some (V.ref q'),some (V.ref q2),some (V.int k),some (V.int zs[k]),some (V.int (nMis R ys zs[k] ys.length)),some (V.int (cMis C R ys zs[k] ys.length)),some (V.int last)] H':=by
    intro last hl1 hl2
    subst hrest2
    have hkm:zs[k]∈zs:=List.getElem_mem hkz
    generalize zs[k]=zk at hl1 hl2 hkm hbT hz ⊢
    walk_at "go"
    refine ⟨as,hS',zs,C,R,ys,hT',hZ,hl,fun t z H2 ht sm2 hz1' hz2' hz3' htT=>?_,fun hall=>absurd (hall _ hkm) (by omega)⟩
    have ez:z=zk:=by have:=hz3' _ hkm (Int.le_refl _);omega
    subst ez
    refine ⟨htT,fun H3 sm3=>?_⟩
    have sm4:=sm2.trans sm3
    refine ⟨as,sm4.seq hS',zs,C,R,ys,hT'.same sm4,hZ,hl,fun t2 z2 H5 ht2 sm5 hy1 hy2 hy3 ht2T=>?_,fun hall=>absurd (hall _ hkm) (by omega)⟩
    have ez:z2=z:=by have:=hl2 _ hy1 hy2;have:=hy3 _ hkm hl1;omega
    subst ez
    exact ⟨ht2T,fun H6 sm6=>sm.trans (sm4.trans (sm5.trans sm6))⟩
   clear hrest2
   split
   · rename_i h
     rw [List.length_map]at h
     have hk1:k+1 < bs.length:=by omega
     refine ixL_of hS2' (show atI (bs.map V.ref) ((k:Int)+1)=_ from hgb (k+1) hk1) (ixT_of (hT2'.2 (k+1) _ zs[k+1] (List.getElem?_eq_getElem hk1) (List.getElem?_eq_getElem (by omega))) rfl ⟨_,rfl,?_⟩)
     have hlt:=(List.pairwise_iff_getElem.mp hsrt) k (k+1) hkz (by omega) (by omega)
     refine key _ (by omega) fun z' hz' hle=>?_
     obtain ⟨j,hj⟩:=List.mem_iff_getElem?.mp hz'
     obtain ⟨hjl,ej⟩:=List.getElem?_eq_some_iff.mp hj
     rcases Nat.lt_trichotomy j k with h1 | h1 | h1
     · have:=(List.pairwise_iff_getElem.mp hsrt) j k hjl hkz h1
       omega
     · subst h1;omega
     · by_cases e:j=k+1
       · subst e;omega
       · have:=(List.pairwise_iff_getElem.mp hsrt) (k+1) j (by omega) hjl (by omega)
         omega
   · rename_i h
     rw [List.length_map]at h
     have hnn:0≤Int.fdiv 1000000 ((k:Int)+1):=by
      rw [Int.fdiv_eq_ediv_of_nonneg _ (by omega)]
      exact Int.ediv_nonneg (by decide) (by omega)
     refine key _ (by omega) fun z' hz' hle=>?_
     obtain ⟨j,hj⟩:=List.mem_iff_getElem?.mp hz'
     obtain ⟨hjl,ej⟩:=List.getElem?_eq_some_iff.mp hj
     by_cases e:j=k
     · subst e;omega
     · have:=(List.pairwise_iff_getElem.mp hsrt) j k hjl hkz (by omega)
       omega
 · rintro σ H' ⟨v2,v3,v4,v5,v6,rfl,sm⟩
   subst hrest
   walk_at "go"
   intro p hp
   have smp:Same H' (upd H' p (.lst [])):=Same.new hp
   have sm2:=sm.trans smp
   refine ⟨q2,p,_,rfl,rfl,sm2.seq hS2,SqL.of upd_same,_,rfl,?_⟩
   rw [List.length_map]
   split
   · exact q _ sm2
   · rename_i h
     have hb0:0 < bs.length:=by
      rcases Nat.eq_zero_or_pos bs.length with e | e
      · exact absurd (decide_eq_true e) h
      · exact e
     have hz0:0 < zs.length:=by omega
     have hys:ys≠[]:=fun e=>by
      have:=hZ.1 e
      rw [this]at hz0;exact absurd hz0 (Nat.not_lt_zero _)
     obtain ⟨_,_,_,hsrt,_⟩:=hZ.2 hys
     generalize upd H' p (.lst [])=H2 at smp sm2 ⊢
     refine ixL_of (sm2.seq hS2) (v:=V.ref bs[0]) (by show atI (bs.map V.ref) ((0:Nat):Int)=_;refine atI_nat ?_;rw [List.getElem?_map,List.getElem?_eq_getElem hb0];rfl) (ixT_of ((hT2.same sm2).2 0 _ zs[0] (List.getElem?_eq_getElem hb0) (List.getElem?_eq_getElem hz0)) rfl ⟨_,rfl,as,sm2.seq hS,zs,C,R,ys,hT.same sm2,hZ,hl,fun z hz=>?_,fun H3 sm3=>⟨as,(sm2.trans sm3).seq hS,zs,C,R,ys,hT.same (sm2.trans sm3),hZ,hl,fun z hz=>by have:=hz1 z hz;omega,fun H4 sm4=>q _ ((sm2.trans sm3).trans sm4)⟩⟩)
     obtain ⟨j,hj⟩:=List.mem_iff_getElem?.mp hz
     obtain ⟨hjl,ej⟩:=List.getElem?_eq_some_iff.mp hj
     by_cases e:j=0
     · subst e;omega
     · have:=(List.pairwise_iff_getElem.mp hsrt) 0 j hz0 hjl (by omega)
       omega
theorem Z3s{f:Addr}{fd:FuncData}(F:Fun K "law" "law" Z08 f fd)(T:Txt K mg Z2 Z1 Z0 Z3)(Zj:Def P w K mg base (CXE P w) 1 "_law_cell" ["_law_script","_law_k"] (sp_cell K))(Zg:Def P w K mg base (CXE P w) 1 "_law_whole" ["_law_found"] (sp34_whole))(Z1o:Def P w K mg base (CXE P w) 1 "_law_names" ["_law_cell_here","_law_many"] (sp35_names))(Z0f:DefI P w K mg base (CXE P w) 4 "Stock" Z0 ["self","rows"] (sp_initG K Z0))(Z28:Def P w K mg base (CXE P w) 2 "_law_due" ["_law_row","_law_rooms","_law_costs"] (sp34_due K))(Z0a:Def P w K mg base (CXE P w) 6 "steps_of" ["stock","asks"] (sp34_steps K Z0))(Z0t:Def P w K mg base (CXE P w) 3 "_law_between" ["_law_steps","_law_due_here"] (sp34_between K))(Zi:Def P w K mg base (CXE P w) 2 "_law_refused" ["_law_steps","_law_places"] (sp34_refused K)):FnOk P w K mg base (CXE P w) 7 f fd ["_law_script"] (sp_law K):=by
 have sc:FnScope ["_law_script","_law_many","_law_names_here","_law_most","_law_dearest","_law_rooms","_law_costs","_law_k","_law_stock","_law_row","_law_due_here","_law_handed","_law_steps","_law_one","_law_other"] ["_law_script"] (defScope Z08):=by walk_at "sc"
 refine F.okE sc (fun vs H Q E h=>?_) (fun cdv A outer s H vs Q E hr h=>?_)
 · obtain ⟨_,_,rfl,_⟩:=h;rfl
 obtain ⟨a,ns,rfl,hS,hl,q⟩:=h
 refine ⟨_,(@pss_cons _ _ _ _ _ (ps_set (i:=1) sc.nd rfl (Or.inr rfl) (pe_op op_add pe_int (pe_op op_mod (pe_callD Zj hr rfl pass_on (pa_cons (pv 0) (pa_cons pe_int pa_nil))) pe_int)))
  (@pss_cons _ _ _ _ _ (ps_set (i:=2) sc.nd rfl (Or.inr rfl) (pe_callD Z1o hr rfl pass_on (pa_cons (pe_callD Zj hr rfl pass_on (pa_cons (pv 0) (pa_cons pe_int pa_nil))) (pa_cons (pv 1) pa_nil))))
  (@pss_cons _ _ _ _ _ (ps_set (i:=3) sc.nd rfl (Or.inl rfl) (@pe_ix _ _ _ _ _ _ _ ix_list (@pe_lst _ _ _ _ (pa_cons pe_int (pa_cons pe_int pa_nil))) (pe_op op_mod (pe_callD Zj hr rfl pass_on (pa_cons (pv 0) (pa_cons pe_int pa_nil))) pe_int) (fun _ _=>rfl)))
  (@pss_cons _ _ _ _ _ (ps_set (i:=4) sc.nd rfl (Or.inl rfl) (@pe_ix _ _ _ _ _ _ _ ix_list (@pe_lst _ _ _ _ (pa_cons pe_int (pa_cons (pe_op op_add (pe_op op_pow pe_int pe_int) pe_int) pa_nil))) (pe_op op_mod (pe_callD Zj hr rfl pass_on (pa_cons (pv 0) (pa_cons pe_int pa_nil))) pe_int) (fun _ _=>rfl)))
  (@pss_cons _ _ _ _ _ (ps_set (i:=5) sc.nd rfl (Or.inr rfl) pe_dnewK)
  (@pss_cons _ _ _ _ _ (ps_set (i:=6) sc.nd rfl (Or.inr rfl) pe_dnewK)
  (@pss_cons _ _ _ _ _ (ps_for own_out rfl (pi_range1 rfl T.Zd (pa_cons (pv 1) pa_nil)) (pg_name (i:=7) sc.nd rfl (Or.inl rfl))
   (@pss_cons _ _ _ _ _ (ps_dput (hu_of hr) (pv 5) (@pe_ix _ _ _ _ _ _ _ ix_list (pv 2) (pv 7) (fun _ _=>rfl)) (pe_op op_add pe_int (pe_op op_mod (pe_op op_fdivB (pe_op op_fdiv (pe_callD Zj hr rfl pass_on (pa_cons (pv 0) (pa_cons pe_int pa_nil))) pe_int) (pe_op op_add (pv 7) pe_int)) (pv 3))) rfl)
   (@pss_one _ _ _ (ps_dput (hu_of hr) (pv 6) (@pe_ix _ _ _ _ _ _ _ ix_list (pv 2) (pv 7) (fun _ _=>rfl)) (pe_op op_mod (pe_op op_add (pe_op op_fdiv (pe_callD Zj hr rfl pass_on (pa_cons (pv 0) (pa_cons pe_int pa_nil))) pe_int) (pe_op op_mul (pe_op op_mul (pe_op op_mul (pv 7) (pv 7)) pe_int) (pe_callD Zj hr rfl pass_on (pa_cons (pv 0) (pa_cons pe_int pa_nil))))) (pv 4)) rfl))))
  (@pss_cons _ _ _ _ _ (ps_set (i:=8) sc.nd rfl (Or.inl rfl) (pe_makeS Z0f hr rfl (passS pass_on) (pa_cons (pe_comp1 "_law_name" [6,5] rfl rfl (pi_list (pv 2)) (fun b=>(pe_tup (pa_cons (pv 0) (pa_cons (pe_dget (hu_of hr) (pv 1) (pv 0) (fun _ _=>rfl)) (pa_cons (pe_dget (hu_of hr) (pv 2) (pv 0) (fun _ _=>rfl)) pa_nil)))))) pa_nil)))
  (@pss_cons _ _ _ _ _ (ps_comp1 (i:=9) "_law_x" [2,1] sc.nd rfl rfl rfl rfl (pi_list (pe_slice sl_list (pv 0) (po_some pe_int) (po_some pe_int))) (fun b=>(@pe_ix _ _ _ _ _ _ _ ix_list (pv 1) (pe_op op_mod (pv 0) (pv 2)) (fun _ _=>rfl))))
  (@pss_cons _ _ _ _ _ (ps_set (i:=10) sc.nd rfl (Or.inl rfl) (pe_callD Z28 hr rfl pass_on (pa_cons (pv 9) (pa_cons (pv 5) (pa_cons (pv 6) pa_nil)))))
  (@pss_cons _ _ _ _ _ (ps_set (i:=11) sc.nd rfl (Or.inl rfl) (pe_callTy call_list_of rfl T.Z14 (by first | rfl | decide+kernel) (pa_cons (pv 9) pa_nil)))
  (@pss_cons _ _ _ _ _ (ps_set (i:=12) sc.nd rfl (Or.inl rfl) (pe_callD Z0a hr rfl pass_on (pa_cons (pv 8) (pa_cons (pv 11) pa_nil))))
  (@pss_cons _ _ _ _ _ (ps_if (PW.pt (pw_or (pt_not (pt_val (pe_callB call_isinst rfl T.Z6 (by first | rfl | decide+kernel) (pa_cons (pv 12) (pa_cons (pe_bltn (v:= .ty "list") rfl T.Z14 (by first | rfl | decide+kernel) rfl) pa_nil))))) (pw_or (pt_cmpR op_ne (pe_callB call_len_seq rfl T.Za PySem.boot_len (pa_cons (pv 12) pa_nil)) (pe_callB call_len_seq rfl T.Za PySem.boot_len (pa_cons (pv 10) pa_nil)) (nomark _)) (pw_or1 (pt_cmpR (op_neQ hr) (pv 11) (pv 9) (nomark _))))))
   (@pss_one _ _ _ (@ps_ret _ _ _ _ pe_bl))
   pss_nil)
  (@pss_cons _ _ _ _ _ (ps_for own_out rfl (pi_zip rfl T.Z1q (pa_cons (pv 12) (pa_cons (pv 10) pa_nil))) (pg_tup rfl (pgs_cons (pg_name (i:=13) sc.nd rfl (Or.inl rfl)) (pgs_cons (pg_name (i:=14) sc.nd rfl (Or.inl rfl)) pgs_nil)))
   (@pss_cons _ _ _ _ _ (ps_if (PW.pt (pw_or (pt_not (pt_val (pe_callB call_isinst rfl T.Z6 (by first | rfl | decide+kernel) (pa_cons (pv 13) (pa_cons (pe_bltn (v:= .ty "tuple") rfl T.Z0b (by first | rfl | decide+kernel) rfl) pa_nil))))) (pw_or (pt_cmpR op_ne (pe_callB call_len_seq rfl T.Za PySem.boot_len (pa_cons (pv 13) pa_nil)) pe_int (nomark _)) (pw_or1 (pt_cmpR (op_neQ hr) (pv 13) (pv 14) (nomark _))))))
    (@pss_one _ _ _ (@ps_ret _ _ _ _ pe_bl))
    pss_nil)
   (@pss_one _ _ _ (ps_if (PW.pt (pw_or (pt_not (pt_val (pe_callD Zg hr rfl pass_on (pa_cons (@pe_ix _ _ _ _ _ _ _ ix_tup (pv 13) pe_int (fun _ _=>rfl)) pa_nil)))) (pw_or (pt_not (pt_val (pe_callD Zg hr rfl pass_on (pa_cons (@pe_ix _ _ _ _ _ _ _ ix_tup (pv 13) pe_int (fun _ _=>rfl)) pa_nil)))) (pw_or1 (pt_not (pt_val (pe_callD Zg hr rfl pass_on (pa_cons (@pe_ix _ _ _ _ _ _ _ ix_tup (pv 13) pe_int (fun _ _=>rfl)) pa_nil))))))))
    (@pss_one _ _ _ (@ps_ret _ _ _ _ pe_bl))
    pss_nil))))
  (@pss_cons _ _ _ _ _ (ps_if (PW.pt (pw_or (pt_not (pt_val (pe_callD Z0t hr rfl pass_on (pa_cons (pv 12) (pa_cons (pv 10) pa_nil))))) (pw_or (pt_cmpR (op_neN 2 hr) (pv 12) (pv 10) (nomark _)) (pw_or1 (pt_not (pt_val (pe_callD Zi hr rfl pass_on (pa_cons (@pe_lst _ _ _ _ pa_nil) (pa_cons (pe_op op_add pe_int (pe_op op_mod (pe_callD Zj hr rfl pass_on (pa_cons (pv 0) (pa_cons pe_int pa_nil))) pe_int)) pa_nil)))))))))
   (@pss_one _ _ _ (@ps_ret _ _ _ _ pe_bl))
   pss_nil)
  (@pss_cons _ _ _ _ _ (ps_expr (pe_bm0 PySem.F.plainAttrs_list PySem.F.slot_list_clear PySem.F.type_list_clear mt_clear (pv 12)))
  (@pss_one _ _ _ (@ps_ret _ _ _ _ (pe_cmpR (op_eqN 2 hr) (pe_callD Z0a hr rfl pass_on (pa_cons (pv 8) (pa_cons (pv 9) pa_nil))) (pv 10) (nomark _)))))))))))))))))))),?_⟩
 walk_at "st"
 have line:=line_val
 walk_at "go"
 obtain ⟨m,hm⟩:∃m:Nat,1+ns.getD 1 0 % 9=(m:Int):=⟨(1+ns.getD 1 0 % 9).toNat,by omega⟩
 have hm1:1≤m:=by omega
 have hm8:m≤9:=by omega
 rw [hm]
 clear hm
 refine ⟨m,rfl,by omega,fun n ys H1 hn sm1 hn1 hyl hnd hnm=>?_⟩
 have hS1:=sm1.seq hS
 walk_at "go"
 intro p hp
 have smp:Same H1 (upd H1 p (.lst [V.int 6,V.int 1000])):=Same.new hp
 obtain ⟨v,hv,hM⟩:=atI_in (xs:=[V.int 6,V.int 1000]) (i:=ns.getD 2 0 % 2) (by omega) (by show _ < ((2:Nat):Int);omega)
 obtain ⟨mo,rfl,hmo1,hmo2⟩:∃mo:Int,v=V.int mo∧1≤mo∧mo≤1000:=by
  simp only [List.mem_cons,List.not_mem_nil,or_false]at hM
  rcases hM with rfl | rfl
  · exact ⟨6,rfl,by decide,by decide⟩
  · exact ⟨1000,rfl,by decide,by decide⟩
 refine ⟨ns,smp.seq hS1,by decide,hl,by decide,ixL_of (SqL.of upd_same) hv ?_⟩
 have hS2:=smp.seq hS1
 have hn2:=smp _ _ hn1
 generalize upd H1 p (.lst [V.int 6,V.int 1000])=H2 at smp hS2 hn2 ⊢
 clear hS1 hn1 smp hp hv hM
 walk_at "go"
 intro p hp
 have smp:Same H2 (upd H2 p (.lst [V.int 31,V.int (10 ^ 30+1)])):=Same.new hp
 obtain ⟨v,hv,hM⟩:=atI_in (xs:=[V.int 31,V.int (10 ^ 30+1)]) (i:=ns.getD 3 0 % 2) (by omega) (by show _ < ((2:Nat):Int);omega)
 obtain ⟨de,rfl,hde1,hde2⟩:∃de:Int,v=V.int de∧1≤de∧de≤10 ^ 30+1:=by
  simp only [List.mem_cons,List.not_mem_nil,or_false]at hM
  rcases hM with rfl | rfl
  · exact ⟨31,rfl,by decide,by decide⟩
  · exact ⟨_,rfl,by decide,by decide⟩
 refine ⟨ns,smp.seq hS2,by decide,hl,by decide,ixL_of (SqL.of upd_same) hv ?_⟩
 have hS3:=smp.seq hS2
 have hn3:=smp _ _ hn2
 generalize upd H2 p (.lst [V.int 31,V.int (10 ^ 30+1)])=H3 at smp hS3 hn3 ⊢
 clear hS2 hn2 smp hp hv hM
 walk_at "go"
 intro d hd
 walk_at "go"
 intro r hr
 have ndr:d≠r:=ne_of_none upd_same hr
 have sm0:Same H3 (upd (upd H3 d (.dK [])) r (.dK [])):=(Same.new hd).trans (Same.new hr)
 have hd0:upd (upd H3 d (.dK [])) r (.dK []) d=some (.dK []):=by rw [upd_ne ndr];exact upd_same
 have hr0:upd (upd H3 d (.dK [])) r (.dK []) r=some (.dK []):=upd_same
 have hrH:=none_of (Same.new hd) hr
 walk_at "go"
 generalize upd (upd H3 d (.dK [])) r (.dK [])=H4 at sm0 hd0 hr0 ⊢
 rename_i rest hrest
 clear hr
 have hg:∀j:Nat,j < ys.length→atI (ys.map V.str) (j:Int)=some (V.str (ys.getD j Str.empty)):=fun j hj=>by
  refine atI_nat ?_
  rw [List.getElem?_map,List.getD_eq_getElem?_getD,List.getElem?_eq_getElem hj];rfl
 refine forR_by (fun k σ H'=>∃(kr kc:List (Key×V)) (rs cs:List Int) (v7:Option V),σ=[some (V.ref a),some (V.int ys.length),some (V.ref n),some (V.int mo),some (V.int de),some (V.ref d),some (V.ref r),v7,none,none,none,none,none,none,none]∧Same H3 H'∧H' d=some (.dK kr)∧H' r=some (.dK kc)∧kr.length≤k∧kc.length≤k∧rs.length≤k∧k≤rs.length∧cs.length≤k∧k≤cs.length∧(∀j,j < k→valV kr (Sum.inr (ys.getD j Str.empty))=some (.int (rs.getD j 0))∧valV kc (Sum.inr (ys.getD j Str.empty))=some (.int (cs.getD j 0)))∧(∀x∈rs,1≤x∧x≤1000)∧∀x∈cs,0≤x∧x≤10 ^ 30)
  ⟨[],[],[],[],none,rfl,sm0,hd0,hr0,Nat.le_refl _,Nat.le_refl _,Nat.le_refl _,Nat.le_refl _,Nat.le_refl _,Nat.le_refl _,fun j h=>absurd h (Nat.not_lt_zero j),fun x h=>(by cases h),fun x h=>(by cases h)⟩ ?_ ?_
 · rintro k σ H' hk ⟨kr,kc,rs,cs,v7,rfl,sm,g1,g2,l1,l2,l3,l4,l5,l6,gv,gr,gc⟩
   have hS4:=sm.seq hS3
   have hn4:=sm _ _ hn3
   walk_at "go"
   refine ixL_of (SqL.of hn4) (hg k hk) ⟨_,DPut.k (k:=Sum.inr (ys.getD k Str.empty)) g1 (by omega),?_⟩
   have e1:=Int.emod_nonneg ((ns.getD 2 0 / 2).fdiv ((k:Int)+1)) (show mo≠0 by omega)
   have e2:=Int.emod_lt_of_pos ((ns.getD 2 0 / 2).fdiv ((k:Int)+1)) (show 0 < mo by omega)
   generalize (ns.getD 2 0 / 2).fdiv ((k:Int)+1) % mo=rv at e1 e2 ⊢
   have sm5:Same H3 (upd H' d (.dK (putK kr (Sum.inr (ys.getD k Str.empty)) (V.int (1+rv))))):=same_upd sm hd
   have f1:upd H' d (.dK (putK kr (Sum.inr (ys.getD k Str.empty)) (V.int (1+rv)))) d=some (.dK (putK kr (Sum.inr (ys.getD k Str.empty)) (V.int (1+rv)))):=upd_same
   have f2:upd H' d (.dK (putK kr (Sum.inr (ys.getD k Str.empty)) (V.int (1+rv)))) r=some (.dK kc):=by rw [upd_ne ndr.symm];exact g2
   generalize upd H' d (.dK (putK kr (Sum.inr (ys.getD k Str.empty)) (V.int (1+rv))))=H5 at sm5 f1 f2 ⊢
   have hS5:=sm5.seq hS3
   have hn5:=sm5 _ _ hn3
   clear hS4 hn4 g1 g2 sm
   have hkk:(k:Int) * k≤81:=Int.le_trans (Int.mul_le_mul_of_nonneg_right (show (k:Int)≤9 by omega) (by omega)) (by omega)
   have hk0:0≤(k:Int) * k:=Int.mul_nonneg (by omega) (by omega)
   walk_at "go"
   refine ixL_of (SqL.of hn5) (hg k hk) ⟨_,DPut.k (k:=Sum.inr (ys.getD k Str.empty)) f2 (by omega),?_⟩
   have c1:=Int.emod_nonneg (ns.getD 3 0 / 2+(k:Int) * k * 999983 * ns.getD 4 0) (show de≠0 by omega)
   have c2:=Int.emod_lt_of_pos (ns.getD 3 0 / 2+(k:Int) * k * 999983 * ns.getD 4 0) (show 0 < de by omega)
   generalize (ns.getD 3 0 / 2+(k:Int) * k * 999983 * ns.getD 4 0) % de=cv at c1 c2 ⊢
   have hle:=length_putK kr (Sum.inr (ys.getD k Str.empty):Key) (V.int (1+rv))
   have hle2:=length_putK kc (Sum.inr (ys.getD k Str.empty):Key) (V.int cv)
   have snoc:∀(l:List Int) (x:Int),l.length=k→(∀j,j < k→(l++[x]).getD j 0=l.getD j 0)∧(l++[x]).getD k 0=x:=fun l x hl'=>⟨fun j hj=>by rw [List.getD_eq_getElem?_getD,List.getElem?_append_left (by omega),← List.getD_eq_getElem?_getD],by rw [List.getD_eq_getElem?_getD,List.getElem?_append_right (by omega),show k - l.length=0 by omega];rfl⟩
   have s1:=snoc rs (1+rv) (by omega)
   have s2:=snoc cs cv (by omega)
   refine ⟨same_upd sm5 hrH,_,by rw [upd_ne ndr];exact f1,_,upd_same,by omega,by omega,rs++[1+rv],by rw [List.length_append,List.length_singleton];omega,by rw [List.length_append,List.length_singleton];omega,cs++[cv],by rw [List.length_append,List.length_singleton];omega,by rw [List.length_append,List.length_singleton];omega,fun j hj=>?_,fun x hx=>?_,fun x hx=>?_⟩
   · rw [valV_put,valV_put]
     by_cases e:j=k
     · subst e;rw [if_pos rfl,if_pos rfl,s1.2,s2.2];exact ⟨rfl,rfl⟩
     · have ne:¬(Sum.inr (ys.getD j Str.empty):Key)=Sum.inr (ys.getD k Str.empty):=fun h=>e (nd_getD hnd (by omega) hk (by injection h))
       rw [if_neg ne,if_neg ne,s1.1 j (by omega),s2.1 j (by omega)]
       exact gv j (by omega)
   · rcases List.mem_append.mp hx with h | h
     · exact gr x h
     · rw [List.mem_singleton.mp h];omega
   · rcases List.mem_append.mp hx with h | h
     · exact gc x h
     · rw [List.mem_singleton.mp h];omega
 · rintro σ H' ⟨kr,kc,rs,cs,v7,rfl,sm,g1,g2,l1,l2,l3,l4,l5,l6,gv,gr,gc⟩
   subst hrest
   have hS4:=sm.seq hS3
   have hn4:=sm _ _ hn3
   have hrs:rs.length=ys.length:=by omega
   have hcs:cs.length=ys.length:=by omega
   have hix:∀(j:Nat) x,(ys.map V.str)[j]?=some x→j < ys.length∧x=V.str (ys.getD j Str.empty):=fun j x hx=>by
    have hj:j < ys.length:=by have:=(List.getElem?_eq_some_iff.mp hx).1;rw [List.length_map]at this;exact this
    rw [List.getElem?_map,List.getElem?_eq_getElem hj]at hx
    cases hx
    exact ⟨hj,by rw [List.getD_eq_getElem?_getD,List.getElem?_eq_getElem hj];rfl⟩
   walk_at "go"
   refine ⟨⟨_,SqL.of hn4⟩,?_⟩
   refine compL_mkT (fun j=>[V.str (ys.getD j Str.empty),V.int (cs.getD j 0),V.int (rs.getD j 0)]) (SqL.of hn4) (by rw [List.length_map];omega) ?_ ?_
   · rintro b j x H5 Q' hx sm5 q'
     obtain ⟨hj,rfl⟩:=hix j x hx
     have gc':=DGet.k (k:=Sum.inr (ys.getD j Str.empty)) (sm5 _ _ g2)
     have gr':=DGet.k (k:=Sum.inr (ys.getD j Str.empty)) (sm5 _ _ g1)
     rw [(gv j hj).2]at gc'
     rw [(gv j hj).1]at gr'
     walk_at "go"
     exact ⟨_,gc',_,gr',by rw [line];decide,fun t ht=>q' t _ (Same.new ht) upd_same⟩
   · intro L as H5 hL sm5 hL5 hal hat
     rw [List.length_map]at hal
     obtain ⟨ts,hts⟩:∃ts:List Th,ts=(List.range ys.length).map fun (j:Nat)=>((ys.getD j Str.empty,cs.getD j 0,rs.getD j 0):Th):=⟨_,rfl⟩
     have htl:ts.length=ys.length:=by rw [hts,List.length_map,List.length_range]
     have hta:∀(j:Nat) (t:Th),ts[j]?=some t→j < ys.length∧t=(ys.getD j Str.empty,cs.getD j 0,rs.getD j 0):=fun j t h=>by
      have hj:j < ys.length:=by have:=(List.getElem?_eq_some_iff.mp h).1;omega
      rw [hts,List.getElem?_map,List.getElem?_range hj]at h
      cases h
      exact ⟨hj,rfl⟩
     have htn:ts.map (·.1)=ys:=by
      rw [hts,List.map_map]
      refine List.ext_getElem (by simp) fun j h1 h2=>?_
      simp only [List.getElem_map,List.getElem_range,Function.comp]
      rw [List.getD_eq_getElem?_getD,List.getElem?_eq_getElem h2];rfl
     have inl:∀(l:List Int) (j:Nat),j < l.length→l.getD j 0∈l:=fun l j hj=>by rw [List.getD_eq_getElem?_getD,List.getElem?_eq_getElem hj];exact List.getElem_mem hj
     clear hts
     have hRW:RowsAt K H5 L as ts:=by
      refine ⟨SqL.of hL5,by omega,by omega,fun j b t h1 h2=>?_,fun t ht=>?_,by rw [htn];exact hnd⟩
      · obtain ⟨hj,rfl⟩:=hta j t h2
        exact SqT.of (hat j b h1)
      · obtain ⟨j,hj⟩:=List.mem_iff_getElem?.mp ht
        obtain ⟨hj',rfl⟩:=hta j t hj
        have b1:=gr _ (inl rs j (by omega))
        have b2:=gc _ (inl cs j (by omega))
        exact ⟨hnm _ (by rw [List.getD_eq_getElem?_getD,List.getElem?_eq_getElem hj'];exact List.getElem_mem hj'),b2.1,b2.2,b1.1,b1.2⟩
     have hndts:(ts.map (·.1)).Nodup:=by rw [htn];exact hnd
     have hRo:RoomsAt H5 d ys (rm ts):=⟨kr,sm5 _ _ g1,fun z hz=>by
      obtain ⟨j,hj⟩:=List.mem_iff_getElem?.mp hz
      have hj':j < ys.length:=(List.getElem?_eq_some_iff.mp hj).1
      have e:ys.getD j Str.empty=z:=by rw [List.getD_eq_getElem?_getD,hj];rfl
      have g:=(gv j hj').1
      have ht:ts[j]?=some ts[j]:=List.getElem?_eq_getElem (by omega)
      have h2:=rm_at hndts ht
      rw [(hta j _ ht).2]at h2
      rw [← e,g,h2]⟩
     have hCo:RoomsAt H5 r ys (cst ts):=⟨kc,sm5 _ _ g2,fun z hz=>by
      obtain ⟨j,hj⟩:=List.mem_iff_getElem?.mp hz
      have hj':j < ys.length:=(List.getElem?_eq_some_iff.mp hj).1
      have e:ys.getD j Str.empty=z:=by rw [List.getD_eq_getElem?_getD,hj];rfl
      have g:=(gv j hj').2
      have ht:ts[j]?=some ts[j]:=List.getElem?_eq_getElem (by omega)
      have h2:=cst_at hndts ht
      rw [(hta j _ ht).2]at h2
      rw [← e,g,h2]⟩
     have hS6:=sm5.seq hS4
     have hn6:=sm5 _ _ hn4
     have hok:=hRW.ok
     clear g1 g2 l1 l2 l3 l4 l5 l6 gv gr gc hrs hcs hta inl hat hix
     intro s dx hsn hdx nsx
     obtain ⟨rs',e1,e2,e3,e4⟩:=hRW.init
     have smm:Same H5 (upd (upd H5 dx (.own s)) s (.ins Z0 dx [])):=same_made hsn hdx fun b o e _=>e
     refine ⟨dx,L,rfl,upd_same,rs',by rw [e1];exact smm.seq hRW.l,fun t ht=>smm.tup (e2 t ht),e3,fun H7 sb7 st7=>?_⟩
     rw [e4]at st7
     have sm7:Same H5 H7:=same_made hsn hdx sb7
     have hS7:=sm7.seq hS6
     have hn7:=sm7 _ _ hn6
     have hRo7:=hRo.same sm7
     have hCo7:=hCo.same sm7
     clear sb7 hsn hdx nsx e1 e2 e3 e4 smm hS6 hn6 hRo hCo sm7 hRW rs' hal hL5 hL sm5 sm hS4 hn4
     walk_at "go"
     refine ⟨_,hS7,fun c hc=>?_⟩
     obtain ⟨cs',hcut,_,hcl⟩:=cut_4x ns 5 85
     rw [show cutV (ns.map V.int) (some 5) (some 85)=cs'.map V.int from hcut]
     have smc:Same H7 (upd H7 c (.lst (cs'.map V.int))):=Same.new hc
     refine ⟨⟨_,SqL.of upd_same⟩,?_⟩
     have hmE:(ts.map (fun x=>x.fst)).length=ts.length:=List.length_map _
     have hts1:1≤ts.length:=by omega
     have hts8:ts.length≤9:=by omega
     refine compL_pure (fun v=>match v with | .int i=>V.str ((ts.map (·.1)).getD (i % (ts.length:Int)).toNat Str.empty) | _=> .non) (SqL.of upd_same) (by rw [List.length_map];omega) ?_ ?_
     · rintro b x H8 Q' hx sm8 q'
       obtain ⟨i,_,rfl⟩:=List.mem_map.mp hx
       have i1:=Int.emod_nonneg i (show (ts.length:Int)≠0 by omega)
       have i2:=Int.emod_lt_of_pos i (show (0:Int) < ts.length by omega)
       walk_at "go"
       rw [hmE]
       have e8:i % (ts.length:Int)=(((i % (ts.length:Int)).toNat:Nat):Int):=by omega
       have hgi:=hg (i % (ts.length:Int)).toNat (by rw [hmE];omega)
       rw [← e8]at hgi
       exact ixL_of (SqL.of ((smc.trans sm8) _ _ hn7)) hgi q'
     · intro D hD
       obtain ⟨ws,hws⟩:∃ws:List Str,ws=cs'.map fun i=>(ts.map (·.1)).getD (i % (ts.length:Int)).toNat Str.empty:=⟨_,rfl⟩
       have eD:(cs'.map V.int).map (fun v=>match v with | .int i=>V.str ((ts.map (·.1)).getD (i % (ts.length:Int)).toNat Str.empty) | _=> .non)=ws.map V.str:=by rw [hws,List.map_map,List.map_map];rfl
       have hwl:ws.length≤58:=by rw [hws,List.length_map];omega
       have hwin:∀y∈ws,y∈ts.map (·.1):=fun y hy=>by
        rw [hws]at hy
        obtain ⟨i,_,rfl⟩:=List.mem_map.mp hy
        have i1:=Int.emod_nonneg i (show (ts.length:Int)≠0 by omega)
        have i2:=Int.emod_lt_of_pos i (show (0:Int) < ts.length by omega)
        rw [List.getD_eq_getElem?_getD,List.getElem?_eq_getElem (by rw [List.length_map];omega)]
        exact List.getElem_mem _
       rw [eD]
       have smD:=smc.trans (Same.new (o:= .lst (ws.map V.str)) hD)
       have hD8:upd (upd H7 c (.lst (cs'.map V.int))) D (.lst (ws.map V.str)) D=some (.lst (ws.map V.str)):=upd_same
       clear eD hws
       generalize upd (upd H7 c (.lst (cs'.map V.int))) D (.lst (ws.map V.str))=H8 at smD hD8 ⊢
       have hS8:=smD.seq hS7
       have hn8:=smD _ _ hn7
       have st8:=StockAt.same smD st7
       have hRo8:=hRo7.same smD
       have hCo8:=hCo7.same smD
       clear hS7 hn7 st7 hRo7 hCo7 smD smc hc hD hcut hcl
       have hrm:∀y∈ts.map (·.1),1≤rm ts y∧rm ts y≤1000:=fun y hy=>by
        obtain ⟨j,tt,hj,rfl⟩:=mem_nth hy
        rw [rm_at hndts hj]
        have:=hok tt (List.mem_of_getElem? hj)
        exact ⟨this.2.2.2.1,this.2.2.2.2⟩
       walk_at "go"
       refine ⟨ws,SqL.of hD8,by omega,_,cst ts,rm ts,hRo8,hCo8,hwin,fun y hy=>(hrm y (hwin y hy)).1,rm_nn (fun t ht=>by have:=(hok t ht).2.2.2.1;omega),fun q1 as zs H9 hq1 sm9 hq9 hT9 hZ hzl=>?_⟩
       have hS9:=sm9.seq hS8
       have hD9:=sm9 _ _ hD8
       have st9:=StockAt.same sm9 st8
       clear hS8 hn8 st8 hRo8 hCo8 hD8 hq1 sm9
       walk_at "go"
       refine ⟨_,.inl (SqL.of hD9),fun l hln=>?_⟩
       have sml:Same H9 (upd H9 l (.lst (ws.map V.str))):=Same.new hln
       have hl10:upd H9 l (.lst (ws.map V.str)) l=some (.lst (ws.map V.str)):=upd_same
       have hD10:=sml _ _ hD9
       have hq10:=sml _ _ hq9
       have hS10:=sml.seq hS9
       have st10:=StockAt.same sml st9
       have hT10:=hT9.same sml
       generalize upd H9 l (.lst (ws.map V.str))=H10 at sml hl10 hD10 hq10 hS10 st10 hT10 ⊢
       clear hS9 hD9 hq9 st9 hT9 sml hln
       walk_at "go"
       refine ⟨ts,st10,hndts,ws,SqL.of hl10,by omega,hwin,fun t ht=>(by have:=(hok t ht).2.2.2.2;omega),fun q2 bs zs2 H11 hq2 sm11 hq11 hT11 hZ2 hzl2=>?_⟩
       obtain rfl:zs=zs2:=Zs.one hZ hZ2
       have hl11:=sm11 _ _ hl10
       have hD11:=sm11 _ _ hD10
       have hq111:=sm11 _ _ hq10
       have hS11:=sm11.seq hS10
       have st11:=StockAt.same sm11 st10
       have hT111:=hT10.same sm11
       have nq:q2≠q1:=(ne_of_none hq10 hq2).symm
       have nqD:q2≠D:=(ne_of_none hD10 hq2).symm
       clear hl10 hD10 hq10 hS10 st10 hT10 sm11 hq2
       have e1:=hT111.1
       have e2:=hT11.1
       walk_at "go"
       refine ⟨_,.inl (SqL.of hq11),_,.inl (SqL.of hq111),?_⟩
       rw [List.length_map,List.length_map,if_neg (fun h=>h (by omega))]
       refine ⟨_,eqQ_strs (SqL.of hl11) (SqL.of hD11),?_⟩
       rw [if_neg (by simp)]
       walk_at "go"
       refine ⟨⟨_,SqL.of hq11⟩,⟨_,SqL.of hq111⟩,?_⟩
       rename_i rest hrest
       refine forZ_by (xs:=bs.map V.ref) (ys:=as.map V.ref) (by rw [List.length_map,List.length_map];omega) (fun i σ H'=>∃(v13 v14:Option V),σ=[some (V.ref a),some (V.int (ts.map (fun x=>x.fst)).length),some (V.ref n),some (V.int mo),some (V.int de),some (V.ref d),some (V.ref r),v7,some (V.ref s),some (V.ref D),some (V.ref q1),some (V.ref l),some (V.ref q2),v13,v14]∧Same H11 H') ⟨none,none,rfl,Same.refl _⟩ (fun i σ H' _ ⟨v13,v14,_,sm⟩=>⟨SqL.of (sm _ _ hq11),SqL.of (sm _ _ hq111)⟩) ?_ ?_
       · rintro i x y σ H' t hx hy ⟨v13,v14,rfl,sm⟩ ht
         rw [List.getElem?_map]at hx hy
         cases hb:bs[i]? with
         | none=>rw [hb]at hx;cases hx
         | some b=>
          cases ha:as[i]? with
          | none=>rw [ha]at hy;cases hy
          | some a'=>
           rw [hb]at hx
           rw [ha]at hy
           cases hx
           cases hy
           have hiz:i < zs.length:=by have:=(List.getElem?_eq_some_iff.mp hb).1;omega
           have smt:Same H' (upd H' t (.tup [.ref b,.ref a'])):=Same.new ht
           have sm2:=sm.trans smt
           have htT:upd H' t (.tup [.ref b,.ref a']) t=some (.tup [.ref b,.ref a']):=upd_same
           generalize upd H' t (.tup [.ref b,.ref a'])=H2 at smt sm2 htT ⊢
           have hb2:=sm2 _ _ (hT11.2 i b _ hb (List.getElem?_eq_getElem hiz))
           have ha2:=sm2 _ _ (hT111.2 i a' _ ha (List.getElem?_eq_getElem hiz))
           generalize zs[i]=z at hb2 ha2
           unfold stT at hb2 ha2
           walk_at "go"
           refine ⟨_,SqT.of htT,rfl,_,_,rfl,_,_,rfl,rfl,?_⟩
           walk_at "go"
           refine ⟨_,.inr (SqT.of hb2),?_⟩
           rw [if_neg (fun h=>h rfl)]
           refine ⟨true,eqQ_trip (SqT.of hb2) (SqT.of ha2),?_⟩
           rw [if_neg (by decide)]
           walk_at "go"
           exact ixT_of (SqT.of hb2) rfl ⟨_,rfl,ixT_of (SqT.of hb2) rfl ⟨_,rfl,ixT_of (SqT.of hb2) rfl ⟨_,rfl,sm2⟩⟩⟩
       · rintro σ H' ⟨v13,v14,rfl,sm⟩
         subst hrest
         have hz1:∀z∈zs,1≤z:=fun z hz=>by
          by_cases hw0:ws=[]
          · rw [hZ.1 hw0]at hz;cases hz
          · obtain ⟨w,hw1,_,_,hm⟩:=hZ.2 hw0
            obtain ⟨y,hy,rfl⟩:=List.mem_map.mp hw1
            have:=(hrm y (hwin y hy)).1
            rcases (hm z).mp hz with e | e
            · omega
            · omega
         have emp:∀H',StepsAt K (cst ts) (rm ts) ([]:List Str) H' [] []:=fun H'=>⟨rfl,fun j b z h=>(by cases h)⟩
         walk_at "go"
         refine ⟨bs,SqL.of (sm _ _ hq11),as,SqL.of (sm _ _ hq111),zs,cst ts,rm ts,ws,(hT11.same sm).at,(hT111.same sm).at,hZ,hzl,hz1,fun H2 sm2=>⟨like_steps (SqL.of ((sm.trans sm2) _ _ hq11)) (SqL.of ((sm.trans sm2) _ _ hq111)) (hT11.same (sm.trans sm2)).at (hT111.same (sm.trans sm2)).at,Nat.zero_le _,fun p hp=>?_⟩⟩
         have sm3:=sm.trans sm2
         have smp:Same H2 (upd H2 p (.lst [])):=Same.new hp
         refine ⟨ns,(sm3.trans smp).seq hS11,by decide,hl,by decide,[],SqL.of upd_same,[],cst ts,rm ts,[],emp _,⟨fun _=>rfl,fun h=>absurd rfl h⟩,by decide,fun z hz=>(by cases hz),fun H3 sm4=>?_⟩
         have sm5:=sm3.trans (smp.trans sm4)
         have hq12:=sm5 _ _ hq11
         have hq112:=sm5 _ _ hq111
         have hD12:=sm5 _ _ hD11
         have st12:=StockAt.same sm5 st11
         have hT12:=hT111.same sm5
         clear hq11 hq111 hD11 st11 hT11 hT111 sm5 sm4 sm3 sm2 sm smp hp
         walk_at "go"
         refine ⟨.inl ⟨rfl,_,SqL.of hq12⟩,q2,_,rfl,rfl,hq12,?_⟩
         have st13:=StockAt.offL (o:= .lst []) hq12 st12
         have hD13:upd H3 q2 (.lst []) D=some (.lst (ws.map V.str)):=by rw [upd_ne nqD.symm];exact hD12
         have hq13:upd H3 q2 (.lst []) q1=some (.lst (as.map V.ref)):=by rw [upd_ne nq.symm];exact hq112
         have hT13:StepsH (cst ts) (rm ts) ws (upd H3 q2 (.lst [])) as zs:=⟨hT12.1,fun j b z h1 h2=>by
          have g:=hT12.2 j b z h1 h2
          rw [upd_ne (ne_of g hq12 (by intro z;cases z))];exact g⟩
         generalize upd H3 q2 (.lst [])=H4 at st13 hD13 hq13 hT13 ⊢
         walk_at "go"
         refine ⟨ts,st13,hndts,ws,SqL.of hD13,by omega,hwin,fun t ht=>(by have:=(hok t ht).2.2.2.2;omega),fun q3 cs3 zs3 H5 hq3 sm5 hq5 hT5 hZ5 hzl5=>?_⟩
         obtain rfl:zs=zs3:=Zs.one hZ hZ5
         exact ⟨like_steps (SqL.of hq5) (SqL.of (sm5 _ _ hq13)) hT5.at (hT13.same sm5).at,q _⟩
end
theorem all_mk{l:W.OpenLaw}{w:World}{K:W.Frag}{h:Heap}{mg:Str→Option Value}{fa f0 f1 f2 f3 f4 f5 f6 f7 f8 f9 f10 f11 f12 f13 f14 f15 f16 f17 f18 f19 f20 f21 f22 f23 f24 f25 f26 f27 f28 f29 Z2 Z1 Z0 Z3:Addr}(X:K.In h)(G:h.Ns mainGlobals mg)(hfa:mg "law"=some (.ref fa))
 {od29 an29:Option Addr} {sl29:Array (Option Value)} {oc29 kV29 dc29 pm29 cd29 ct29:Value}
 {d0 d1 d2 d3 d4 d5 d6 d7 d8 d9 d10 d11 d12 d13 d14 d15 d16 d17 d18 d19 d20 d21 d22 d23 d24 d25 d26 d27 d28:FuncData}
 (a0:W.nsIn K mainGlobals "is_whole"=some (some (.ref f0))) (F0:Fun K "is_whole" "is_whole" Z15 f0 d0)
 (a1:W.nsIn K mainGlobals "is_within"=some (some (.ref f1))) (F1:Fun K "is_within" "is_within" Z0h f1 d1)
 (a2:W.nsIn K mainGlobals "check_places"=some (some (.ref f2))) (F2:Fun K "check_places" "check_places" Z00 f2 d2)
 (a3:W.nsIn K mainGlobals "made_of"=some (some (.ref f3))) (F3:Fun K "made_of" "made_of" Z1f f3 d3)
 (a4:W.nsIn K mainGlobals "is_name"=some (some (.ref f4))) (F4:Fun K "is_name" "is_name" Z1g f4 d4)
 (a5:W.nsIn K mainGlobals "check_thing"=some (some (.ref f5))) (F5:Fun K "check_thing" "check_thing" Z06 f5 d5)
 (M6:Mk K Z0 f6) (F6:Fun K "__init__" "Stock.__init__" Z0c f6 d6)
 (M7:Meth K Z0 "has" f7) (F7:Fun K "has" "Stock.has" Z0i f7 d7)
 (M8:Meth K Z0 "thing_of" f8) (F8:Fun K "thing_of" "Stock.thing_of" Zr f8 d8)
 (M9:Meth K Z0 "room_of" f9) (F9:Fun K "room_of" "Stock.room_of" Zu f9 d9)
 (a10:W.nsIn K mainGlobals "check_asks"=some (some (.ref f10))) (F10:Fun K "check_asks" "check_asks" Z0d f10 d10)
 (a11:W.nsIn K mainGlobals "earlier_asks"=some (some (.ref f11))) (F11:Fun K "earlier_asks" "earlier_asks" Z01 f11 d11)
 (M12:Mk K Z3 f12) (F12:Fun K "__init__" "Sums.__init__" Z0j f12 d12)
 (M13:Meth K Z3 "add" f13) (F13:Fun K "add" "Sums.add" Z16 f13 d13)
 (M14:Meth K Z3 "upto" f14) (F14:Fun K "upto" "Sums.upto" Z0k f14 d14)
 (a15:W.nsIn K mainGlobals "depths_of"=some (some (.ref f15))) (F15:Fun K "depths_of" "depths_of" Z0l f15 d15)
 (M16:Meth K Z0 "cost_of" f16) (F16:Fun K "cost_of" "Stock.cost_of" Zv f16 d16)
 (a17:W.nsIn K mainGlobals "is_there"=some (some (.ref f17))) (F17:Fun K "is_there" "is_there" Z17 f17 d17)
 (a18:W.nsIn K mainGlobals "step_with"=some (some (.ref f18))) (F18:Fun K "step_with" "step_with" Z0m f18 d18)
 (a19:W.nsIn K mainGlobals "steps_of"=some (some (.ref f19))) (F19:Fun K "steps_of" "steps_of" Z18 f19 d19)
 (a20:W.nsIn K mainGlobals "step_at"=some (some (.ref f20))) (F20:Fun K "step_at" "step_at" Z1h f20 d20)
 (a21:W.nsIn K mainGlobals "_law_cell"=some (some (.ref f21))) (F21:Fun K "_law_cell" "_law_cell" Z1u f21 d21)
 (a22:W.nsIn K mainGlobals "_law_whole"=some (some (.ref f22))) (F22:Fun K "_law_whole" "_law_whole" Z1i f22 d22)
 (a23:W.nsIn K mainGlobals "_law_names"=some (some (.ref f23))) (F23:Fun K "_law_names" "_law_names" Z1j f23 d23)
 (a24:W.nsIn K mainGlobals "_law_depth"=some (some (.ref f24))) (F24:Fun K "_law_depth" "_law_depth" Z1k f24 d24)
 (a25:W.nsIn K mainGlobals "_law_due"=some (some (.ref f25))) (F25:Fun K "_law_due" "_law_due" Z26 f25 d25)
 (a26:W.nsIn K mainGlobals "_law_refused"=some (some (.ref f26))) (F26:Fun K "_law_refused" "_law_refused" Z0n f26 d26)
 (a27:W.nsIn K mainGlobals "_law_pair"=some (some (.ref f27))) (F27:Fun K "_law_pair" "_law_pair" Z1v f27 d27)
 (a28:W.nsIn K mainGlobals "_law_between"=some (some (.ref f28))) (F28:Fun K "_law_between" "_law_between" Z0o f28 d28)
 (a29:W.nsIn K mainGlobals "law"=some (some (.ref f29))) (l29:K.lookup f29=some ⟨oc29,od29,.func (W.fnOf "law" "law" (defArgs Z08) (defBody Z08) (defScope Z08) .none kV29 dc29 pm29 an29 cd29 ct29),sl29⟩) (c29:W.codeIn K cd29 "law"=true) (k29:W.keepIn K (.ref f29)=true)
 (Za:W.nsIn K mainGlobals "len"=some none)
 (Z6:W.nsIn K mainGlobals "isinstance"=some none)
 (Z1p:W.nsIn K mainGlobals "int"=some none)
 (Z13:W.nsIn K mainGlobals "bool"=some none)
 (Z1z:W.nsIn K mainGlobals "str"=some none)
 (Z14:W.nsIn K mainGlobals "list"=some none)
 (Z20:W.nsIn K mainGlobals "all"=some none)
 (Zd:W.nsIn K mainGlobals "range"=some none)
 (Zh:W.nsIn K mainGlobals "enumerate"=some none)
 (Z1q:W.nsIn K mainGlobals "zip"=some none)
 (Z0g:W.nsIn K mainGlobals "sum"=some none)
 (Z21:W.nsIn K mainGlobals "set"=some none)
 (Zz:W.nsIn K mainGlobals "sorted"=some none)
 (Z1r:W.nsIn K mainGlobals "max"=some none)
 (Z0b:W.nsIn K mainGlobals "tuple"=some none)
 {Z3l:Tok} (Zt:W.nsIn K mainGlobals "LETTERS"=some (some (.str "abcdefghijklmnopqrstuvwxyz" Z3l)))
 {Z3m:Tok} (Z05:W.nsIn K mainGlobals "FIGURES"=some (some (.str "0123456789" Z3m)))
 {Z2d:Tok} (Zl:W.nsIn K mainGlobals "MOST_SIGNS"=some (some (.int 8 Z2d)))
 {Z29:Tok} (Zk:W.nsIn K mainGlobals "MOST_THINGS"=some (some (.int 60 Z29)))
 {Z2m:Tok} (Zo:W.nsIn K mainGlobals "MOST_ROOM"=some (some (.int 1000 Z2m)))
 {Z2a:Tok} (Zf:W.nsIn K mainGlobals "MOST_PLACES"=some (some (.int 1000000 Z2a)))
 {Z2n:Tok} (Zp:W.nsIn K mainGlobals "MOST_ASKS"=some (some (.int 200 Z2n)))
 {Z2o:Tok} (Zq:W.nsIn K mainGlobals "MOST_SUMS"=some (some (.int 200 Z2o)))
 (Z1s:W.nsIn K mainGlobals "Stock"=some (some (.ref Z0))) (Z3r:Cls K Z0)
 (Z5:W.findIn K (.ref Z0) "things"=some none)
 (Z24:W.nsIn K mainGlobals "Sums"=some (some (.ref Z3))) (Z3t:Cls K Z3)
 (Z8:W.findIn K (.ref Z3) "numbers"=some none)
 (Z0u:W.nsIn K mainGlobals "CastError"=some (some (.ref Z2)))
 (Z1c:W.nsIn K mainGlobals "NoNumber"=some (some (.ref Z1)))
 {cA oA:Value} {dA eA:Option Addr} {cdA:ClassData} {slA smA:Array (Option Value)} {esA:Array DictEntry} {epA:Nat} (lA:K.lookup Z2=some ⟨cA,dA,.cls cdA,slA⟩) (lNA:K.lookup cdA.ns=some ⟨oA,eA,.dict esA epA,smA⟩) (sNA:strKeysB esA=true) (iNA:nsFind esA "__init__"=none)
 {Z2v Z3n:Str} {Z25:Addr} {Z2w:List Value} {Z2x:Bool} {Z2y:List Str} {Z2z:List Value} {Z30:Bool} {Z31:Option Bool} {Z32:Option Addr} {Z33 Z34 Z35 Z36 Z37:Option Value} {Z38:Value} {Z39:Option Addr} {Z0v:Array DictEntry} {Z3a:Nat} {Z3b:Array (Option Value)}
 (Z0w:K.lookup Z1=some (excClassObj Z2v Z3n Z1 Z25 Z2w [.ref Z2,.type "ValueError",.type "Exception",.type "BaseException",.type "object"] Z2x Z2y Z2z Z30 Z31 Z32 Z33 Z34 Z35 Z36 Z37 "ValueError.__new__")) (Z0x:K.lookup Z25=some ⟨Z38,Z39,.dict Z0v Z3a,Z3b⟩) (Z0y:strKeysB Z0v=true) (Z0z:nsFind Z0v "__init__"=none)
 {Z2p:ClassData} (Z10:W.subIn K (.ref Z2) (.type "BaseException")=some true) (Zx:W.clsIn K Z2=some Z2p) (Zy:W.typeIn K (.ref Z2)=some (.type "type"))
 {Z3c:ClassData} (Z1d:W.subIn K (.ref Z1) (.type "BaseException")=some true) (Z11:W.clsIn K Z1=some Z3c) (Z12:W.typeIn K (.ref Z1)=some (.type "type"))
 (Ze:W.subIn K (.ref Z1) (.ref Z1)=some true)
 (Zc:W.subIn K (.ref Z1) (.ref Z2)=some true)
 :∃fd:FuncData,(∀(s:Shared) (v:Value),BindsTo s fd ⟨[v],[]⟩ [("_law_script",v)])∧∀base:Heap,K.In base→base.Ns mainGlobals mg→FnOk l.prog w K mg base (CXE l.prog w) 7 fa fd ["_law_script"] (sp_law K):=by
 have e:=hfa.symm.trans (W.mg_of X G a29)
 cases e
 have T:Txt K mg Z2 Z1 Z0 Z3:=⟨W.mg_of X G Z1s,Z3r,Z5,W.mg_of X G Z24,Z3t,Z8,W.mg_of X G Z0u,W.mg_of X G Z1c,excC_of Z0w Z0x Z0y Z0z lA lNA sNA iNA,exm_ref Z1d Z11 Z12 Ze,exm_ref Z10 Zx Zy Zc,kit_own Ze Zx Zy Zc,W.mg_none_of X G Za,W.mg_none_of X G Z6,W.mg_none_of X G Z1p,W.mg_none_of X G Z13,W.mg_none_of X G Z1z,W.mg_none_of X G Z14,W.mg_none_of X G Z20,W.mg_none_of X G Zd,W.mg_none_of X G Zh,W.mg_none_of X G Z1q,W.mg_none_of X G Z0g,W.mg_none_of X G Z21,W.mg_none_of X G Zz,W.mg_none_of X G Z1r,W.mg_none_of X G Z0b,⟨_,W.mg_of X G Zt⟩,⟨_,W.mg_of X G Z05⟩,⟨_,W.mg_of X G Zl⟩,⟨_,W.mg_of X G Zk⟩,⟨_,W.mg_of X G Zo⟩,⟨_,W.mg_of X G Zf⟩,⟨_,W.mg_of X G Zp⟩,⟨_,W.mg_of X G Zq⟩⟩
 have F29:=fun_mk (st:=Z08) l29 c29 k29
 refine ⟨W.fnOf "law" "law" (defArgs Z08) (defBody Z08) (defScope Z08) .none kV29 dc29 pm29 an29 cd29 ct29,fun s v=> .of_eq rfl,fun base _ _=>?_⟩
 have B:Bs l.prog w K mg base:=⟨h,X,G⟩
 have Z19:=F0.d B a0 (Z2r F0 T) (F0.e1 fun _ _ _ _ _ _ _=>rfl)
 have Z4:=F1.d B a1 (Z2e F1 T Z19) (F1.e3 fun _ _ _ _ _ _ _ _ _=>rfl)
 have Z02:=F2.d B a2 (Z22 F2 T Z4) (F2.e1 fun _ _ _ _ _ _ _=>rfl)
 have Z1l:=F3.d B a3 (Z3f F3 T) (F3.e2 fun _ _ _ _ _ _ _ _=>rfl)
 have Z1m:=F4.d B a4 (Z3g F4 T Z1l) (F4.e1 fun _ _ _ _ _ _ _=>rfl)
 have Z07:=F5.d B a5 (Z27 F5 T Z1m Z4) (F5.e4 fun _ _ _ _ _ _ _ _ _ _=>rfl)
 have Z0f:=F6.i B M6 Z1s (Z2b F6 T Z07) (F6.e2 fun _ _ _ _ _ _ _ _=>rfl)
 have Z0p:=F7.m B M7 (Z2f F7 T) (F7.e2 fun _ _ _ _ _ _ _ _=>rfl)
 have Zb:=F8.m B M8 (Z1t F8 T) (F8.e2 fun _ _ _ _ _ _ _ _=>rfl)
 have Z7:=F9.m B M9 (Z1w F9 T Zb) (F9.e2 fun _ _ _ _ _ _ _ _=>rfl)
 have Z0e:=F10.d B a10 (Z2c F10 T Z02 Z0p Z7) (F10.e3 fun _ _ _ _ _ _ _ _ _=>rfl)
 have Z03:=F11.d B a11 (Z23 F11 T) (F11.e1 fun _ _ _ _ _ _ _=>rfl)
 have Z0q:=F12.i B M12 Z24 (Z2g F12 T Z4) (F12.e2 fun _ _ _ _ _ _ _ _=>rfl)
 have Z09:=F13.m B M13 (Z2s F13 T Z4) (F13.e3 fun _ _ _ _ _ _ _ _ _=>rfl)
 have Z04:=F14.m B M14 (Z2h F14 T Z4) (F14.e2 fun _ _ _ _ _ _ _ _=>rfl)
 have Z0r:=F15.d B a15 (Z2i F15 T Z0e Z03 Z7 Z0q Z09 Z04) (F15.e2 fun _ _ _ _ _ _ _ _=>rfl)
 have Zw:=F16.m B M16 (Z1x F16 T Zb) (F16.e2 fun _ _ _ _ _ _ _ _=>rfl)
 have Z1a:=F17.d B a17 (Z2t F17 T) (F17.e2 fun _ _ _ _ _ _ _ _=>rfl)
 have Z0s:=F18.d B a18 (Z2j F18 T Z1a Zw) (F18.e4 fun _ _ _ _ _ _ _ _ _ _=>rfl)
 have Z0a:=F19.d B a19 (Z2u F19 T Z0r Z7 Z0s) (F19.e2 fun _ _ _ _ _ _ _ _=>rfl)
 have Zm:=F20.d B a20 (Z3h F20 T) (F20.e2 fun _ _ _ _ _ _ _ _=>rfl)
 have Zj:=F21.d B a21 (Z3o F21 T) (F21.e2 fun _ _ _ _ _ _ _ _=>rfl)
 have Zg:=F22.d B a22 (Z3i F22 T) (F22.e1 fun _ _ _ _ _ _ _=>rfl)
 have Z1o:=F23.d B a23 (Z3j F23 T) (F23.e2 fun _ _ _ _ _ _ _ _=>rfl)
 have Z1n:=F24.d B a24 (Z3k F24 T) (F24.e3 fun _ _ _ _ _ _ _ _ _=>rfl)
 have Z28:=F25.d B a25 (Z3q F25 T Z1n) (F25.e3 fun _ _ _ _ _ _ _ _ _=>rfl)
 have Zi:=F26.d B a26 (Z2k F26 T Zm) (F26.e2 fun _ _ _ _ _ _ _ _=>rfl)
 have Z1b:=F27.d B a27 (Z3p F27 T Zg) (F27.e3 fun _ _ _ _ _ _ _ _ _=>rfl)
 have Z0t:=F28.d B a28 (Z2l F28 T Zm Z1b Zi) (F28.e2 fun _ _ _ _ _ _ _ _=>rfl)
 exact Z3s F29 T Zj Zg Z1o Z0f Z28 Z0a Z0t Zi
end K34
namespace PySem.W.Fast
theorem tw8179503012122436985:True:=⟨⟩
theorem tw1812576889045751932:True:=⟨⟩
theorem tw7116304382577743646:True:=⟨⟩
theorem tw10466076198379767442:True:=⟨⟩
theorem tw8119324805120334593:True:=⟨⟩
theorem tw10231487013735590994:True:=⟨⟩
theorem tw15245604813110699436:True:=⟨⟩
theorem tw10398181921462536790:True:=⟨⟩
theorem tw6996093972503659567:True:=⟨⟩
theorem tw15276458138388122338:True:=⟨⟩
theorem tw10199511484448469984:True:=⟨⟩
theorem tw3592813830597701630:True:=⟨⟩
theorem tw17606042273316440058:True:=⟨⟩
theorem tw2618519760656799839:True:=⟨⟩
theorem tw3443035983789589575:True:=⟨⟩
theorem tw9580759842695087624:True:=⟨⟩
theorem tw11560037760439492228:True:=⟨⟩
theorem tw12014068676715741007:True:=⟨⟩
theorem tw9845913332978020310:True:=⟨⟩
theorem tw2074908238077967237:True:=⟨⟩
theorem tw15109363029842521569:True:=⟨⟩
theorem tw13759283975012319121:True:=⟨⟩
theorem tw2597155510367807013:True:=⟨⟩
theorem tw8563870329682838797:True:=⟨⟩
theorem tw2189262914987097597:True:=⟨⟩
theorem tw17897892737689811923:True:=⟨⟩
theorem tw9412884751792456157:True:=⟨⟩
theorem tw10155061564821026769:True:=⟨⟩
theorem tw1373646770919907562:True:=⟨⟩
theorem tw16297445042213735696:True:=⟨⟩
theorem tw12865723842932891588:True:=⟨⟩
theorem tw8265397627353711079:True:=⟨⟩
theorem tw2500013518651421479:True:=⟨⟩
theorem tw8796729339188936593:True:=⟨⟩
theorem tw11469671116977588021:True:=⟨⟩
theorem tw3478932187552874093:True:=⟨⟩
theorem tw7546239385926134416:True:=⟨⟩
theorem tw4484533952044271747:True:=⟨⟩
theorem tw7272073569160697542:True:=⟨⟩
theorem tw15537705067426363900:True:=⟨⟩
theorem tw15620724784457152801:True:=⟨⟩
theorem tw17191248038721984005:True:=⟨⟩
theorem tw11620565173108142924:True:=⟨⟩
theorem tw4884511279703172028:True:=⟨⟩
theorem tw8860250815792947627:True:=⟨⟩
theorem tw8376837349131114517:True:=⟨⟩
theorem tw2258390912408495383:True:=⟨⟩
theorem tw5140439707875457598:True:=⟨⟩
theorem tw9891270482358047793:True:=⟨⟩
theorem tw18013593815151077214:True:=⟨⟩
theorem tw16292308534835432705:True:=⟨⟩
theorem tw16746244045853749441:True:=⟨⟩
theorem tw14913162618050408465:True:=⟨⟩
theorem tw9755912153897380630:True:=⟨⟩
theorem tw6682707211558369219:True:=⟨⟩
theorem tw5936276174705216602:True:=⟨⟩
theorem tw5825217694260788208:True:=⟨⟩
theorem tw2415705010998286402:True:=⟨⟩
theorem tw4907084813818400472:True:=⟨⟩
theorem tw14470338701898783094:True:=⟨⟩
theorem tw11101375335173929753:True:=⟨⟩
theorem tw2998168304049647511:True:=⟨⟩
theorem tw11681263449312957624:True:=⟨⟩
theorem tw3118796293952187016:True:=⟨⟩
theorem tw10197719453966897071:True:=⟨⟩
theorem tw8509704793667635934:True:=⟨⟩
theorem tw2513246289224410653:True:=⟨⟩
theorem tw11829188262180016633:True:=⟨⟩
theorem tw6278052845447086362:True:=⟨⟩
theorem tw896922417964829495:True:=⟨⟩
theorem tw9582442760314090492:True:=⟨⟩
theorem tw6828765844019798619:True:=⟨⟩
theorem tw13650296678743795704:True:=⟨⟩
theorem tw450751924679021128:True:=⟨⟩
theorem tw3899884893372278856:True:=⟨⟩
theorem tw8265893113363331824:True:=⟨⟩
theorem tw8455649587127609632:True:=⟨⟩
theorem tw13763323367131424300:True:=⟨⟩
theorem tw8218986920573515939:True:=⟨⟩
theorem tw11142609278668333654:True:=⟨⟩
theorem tw2839352713604370977:True:=⟨⟩
theorem tw4388543177213421325:True:=⟨⟩
theorem tw8708297837660463596:True:=⟨⟩
theorem tw16759426461292479400:True:=⟨⟩
theorem tw9843659544804714838:True:=⟨⟩
theorem tw3673310718226107069:True:=⟨⟩
theorem tw7603550949426916665:True:=⟨⟩
theorem tw9785651733442987804:True:=⟨⟩
theorem tw10342580207608225678:True:=⟨⟩
theorem tw16866436396493562776:True:=⟨⟩
theorem tw435613303780395295:True:=⟨⟩
theorem tw10841452671004651064:True:=⟨⟩
theorem tw12312896451083246777:True:=⟨⟩
theorem tw1867397595892194539:True:=⟨⟩
theorem tw7040866280161590715:True:=⟨⟩
theorem tw3373815119666400803:True:=⟨⟩
theorem tw3087593349431106589:True:=⟨⟩
theorem tw2072328017735264359:True:=⟨⟩
theorem tw14370987893327867665:True:=⟨⟩
theorem tw5016498662785957231:True:=⟨⟩
theorem tw11175559575182374781:True:=⟨⟩
theorem tw13820075505532266302:True:=⟨⟩
theorem tw17559577144489600760:True:=⟨⟩
theorem tw13490577079388901288:True:=⟨⟩
theorem tw1967552947746041774:True:=⟨⟩
theorem tw12765875495262636017:True:=⟨⟩
theorem tw6199061118363468071:True:=⟨⟩
theorem tw13701246911236078308:True:=⟨⟩
theorem tw13136175254213101970:True:=⟨⟩
theorem tw16070725002163953187:True:=⟨⟩
theorem tw5223638323305894583:True:=⟨⟩
theorem tw3559598109515349250:True:=⟨⟩
theorem tw3689747596927973801:True:=⟨⟩
theorem tw9432802845125664640:True:=⟨⟩
theorem tw14144315046723339764:True:=⟨⟩
theorem tw6749209650649434049:True:=⟨⟩
theorem tw45608982534589191:True:=⟨⟩
theorem tw3716133855421174851:True:=⟨⟩
theorem tw4739390510637242641:True:=⟨⟩
theorem tw7845053642796489193:True:=⟨⟩
theorem tw16717052955585883688:True:=⟨⟩
theorem tw14857052162753423726:True:=⟨⟩
theorem tw15405793176895259888:True:=⟨⟩
theorem tw2588017813484511764:True:=⟨⟩
theorem tw1950122887171057287:True:=⟨⟩
theorem tw10331388032541878421:True:=⟨⟩
theorem tw14893412531963048137:True:=⟨⟩
theorem tw14279853335175715100:True:=⟨⟩
theorem tw10560725965755944630:True:=⟨⟩
theorem tw14284963752469254054:True:=⟨⟩
theorem tw3416297942802996763:True:=⟨⟩
theorem tw5970557006522873317:True:=⟨⟩
theorem tw16088962783549698308:True:=⟨⟩
theorem tw13186133875515536804:True:=⟨⟩
theorem tw2934131653298141782:True:=⟨⟩
theorem tw18220821988993047653:True:=⟨⟩
theorem tw17438119768149189236:True:=⟨⟩
theorem tw8026297484362408889:True:=⟨⟩
theorem tw16646351760431467936:True:=⟨⟩
theorem tw7389918026614126345:True:=⟨⟩
theorem tw9185463189699379520:True:=⟨⟩
theorem tw13888812796437813782:True:=⟨⟩
theorem tw4361318741109838434:True:=⟨⟩
theorem tw7986494838861862178:True:=⟨⟩
theorem tw4221506750367599001:True:=⟨⟩
theorem tw3803499733994785298:True:=⟨⟩
theorem tw380347528886888339:True:=⟨⟩
theorem tw17038525757263772153:True:=⟨⟩
theorem tw10395141981081837670:True:=⟨⟩
theorem tw17142201986942278141:True:=⟨⟩
theorem tw10810420557103098763:True:=⟨⟩
theorem tw3089497216714686010:True:=⟨⟩
theorem tw16064062951138732056:True:=⟨⟩
theorem tw14951821081035801329:True:=⟨⟩
theorem tw15710220336497849266:True:=⟨⟩
theorem tw2607632487910330745:True:=⟨⟩
theorem tw3437689410302714793:True:=⟨⟩
theorem tw16402164231701408363:True:=⟨⟩
theorem tw13547827548225149949:True:=⟨⟩
theorem tw8623082127523610448:True:=⟨⟩
theorem tw6930725827627673068:True:=⟨⟩
theorem tw1403104712039887177:True:=⟨⟩
theorem tw10280793973838430271:True:=⟨⟩
theorem tw17661662826554577440:True:=⟨⟩
theorem tw12494153008439905381:True:=⟨⟩
theorem tw14039393466100747127:True:=⟨⟩
theorem tw2049148018467306265:True:=⟨⟩
theorem tw9578189782482448618:True:=⟨⟩
theorem tw6305723393475561027:True:=⟨⟩
theorem tw1381178941853616128:True:=⟨⟩
theorem tw14940675314185369608:True:=⟨⟩
theorem tw2975632829299397309:True:=⟨⟩
theorem tw15820263734747176594:True:=⟨⟩
theorem tw2689376938624208305:True:=⟨⟩
theorem tw7553775209252336625:True:=⟨⟩
theorem tw8126962297778448832:True:=⟨⟩
theorem tw1472211486425650480:True:=⟨⟩
theorem tw261371292094798900:True:=⟨⟩
theorem tw16097670212469598350:True:=⟨⟩
end PySem.W.Fast
open PySem PySem.W PyProof.Rows
set_option maxRecDepth 100000 in
set_option maxHeartbeats 0 in
theorem PySem.Challenge.cw_castoff_k34_steps_told_holds : PySem.Challenge.rw_castoff_k34_steps_told.Holds := by
 w_on;o_law;k_head;(case hw=>w_witness2)
 k_fill
 refine L2.walk_ofKE (l:=PySem.Challenge.rw_castoff_k34_steps_told) (n:=63) (k:=7) (x:="_law_script") (sp:=N1.sp_law) rfl (by decide) rfl ⟨rfl,by decide,by decide⟩ (fun w h Y=>PySem.W.kIn_of Y) ?F ?S
 case F=>
  intro w mg fa h KX G hmg
  refine' K34.all_mk KX G hmg ?a0 ?FF0 ?a1 ?FF1 ?a2 ?FF2 ?a3 ?FF3 ?a4 ?FF4 ?a5 ?FF5 ?MI6 ?FF6 ?MM7 ?FF7 ?MM8 ?FF8 ?MM9 ?FF9 ?a10 ?FF10 ?a11 ?FF11 ?MI12 ?FF12 ?MM13 ?FF13 ?MM14 ?FF14 ?a15 ?FF15 ?MM16 ?FF16 ?a17 ?FF17 ?a18 ?FF18 ?a19 ?FF19 ?a20 ?FF20 ?a21 ?FF21 ?a22 ?FF22 ?a23 ?FF23 ?a24 ?FF24 ?a25 ?FF25 ?a26 ?FF26 ?a27 ?FF27 ?a28 ?FF28 ?a29 ?l29 ?c29 ?k29 ?Za ?Z6 ?Z1p ?Z13 ?Z1z ?Z14 ?Z20 ?Zd ?Zh ?Z1q ?Z0g ?Z21 ?Zz ?Z1r ?Z0b ?Zt ?Z05 ?Zl ?Zk ?Zo ?Zf ?Zp ?Zq ?Z1s ?EE_Stock ?Z5 ?Z24 ?EE_Sums ?Z8 ?Z0u ?Z1c ?lA ?lNA ?sNA ?iNA ?Z0w ?Z0x ?Z0y ?Z0z ?Z10 ?Zx ?Zy ?Z1d ?Z11 ?Z12 ?Ze ?Zc
  case Z1s|Z24|Z0u|Z1c|a0|a1|a2|a3|a4|a5|a10|a11|a15|a17|a18|a19|a20|a21|a22|a23|a24|a25|a26|a27|a28|a29|l29|c29|k29|Za|Z6|Z1p|Z13|Z1z|Z14|Z20|Zd|Zh|Z1q|Z0g|Z21|Zz|Z1r|Z0b|Zt|Z05|Zl|Zk|Zo|Zf|Zp|Zq|Z5|Z8|lA|lNA=>k_is
  case sNA|iNA=>rfl
  case Z0w|Z0x=>k_is
  case Z0y|Z0z=>rfl
  case Z10|Zx|Zy|Z1d|Z11|Z12|Ze|Zc=>k_is
  case EE_Stock|EE_Sums|MI6|MI12=>refine' ⟨?j1,?j2,?j3,?j4⟩;case j1|j2|j3|j4=>k_is
  case MM7|MM8|MM9|MM13|MM14|MM16=>refine' ⟨?j1,?j2,?j3⟩;case j1|j2|j3=>k_is
  case FF0|FF1|FF2|FF3|FF4|FF5|FF6|FF7|FF8|FF9|FF10|FF11|FF12|FF13|FF14|FF15|FF16|FF17|FF18|FF19|FF20|FF21|FF22|FF23|FF24|FF25|FF26|FF27|FF28=>refine' L2.fun_mk ?l ?c ?k;case l|c|k=>k_is
 case S=>exact fun K H a ns hl hO hS=>⟨a,ns,rfl,hS,hl,fun _=>rfl⟩
