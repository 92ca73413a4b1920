import PyProof.Rows.All
import KE.KPairComp
import KE.KItem
import KE.KUnpack
import KE.KEqDict
import KE.KFromBytes
import KE.KIntText
import KE.KRevIter
import KE.KDictOf
import KE.KTryMore
import KE.KNestM
import KE.KLam
import PySem.Challenge.RW_castoff_k56_dues_by_hand
set_option linter.all false
set_option Elab.async false
set_option maxRecDepth 100000
set_option maxHeartbeats 4000000
open PySem PySem.Spec PyProof.Rows
namespace L2
noncomputable abbrev Key:=Sum Int Str
noncomputable def keyIs:Key→Value→Bool
 | .inl k,v=>Value.isInt k v
 | .inr x,v=>Value.isStrOf x v
noncomputable def keyH(w:World):Key→Int
 | .inl k=>hashInt k
 | .inr x=>hashStr w x
theorem keyIs_shape:∀{k:Key} {v:Value},keyIs k v=true→(∃i t,k=Sum.inl i∧v=Value.int i t)∨(∃x t,k=Sum.inr x∧v=Value.str x t)
 | .inl i,v,h=>by
  obtain ⟨t,e⟩:=Value.isInt_shape (k:=i) (v:=v) h
  exact .inl ⟨i,t,rfl,e⟩
 | .inr x,v,h=>by
  obtain ⟨t,e⟩:=Value.isStrOf_shape (x:=x) (v:=v) h
  exact .inr ⟨x,t,rfl,e⟩
theorem keyIs_int(i:Int)(t:Tok):keyIs (.inl i) (.int i t)=true:=by simp [keyIs,Value.isInt]
theorem keyIs_str(x:Str)(t:Tok):keyIs (.inr x) (.str x t)=true:=by simp [keyIs,Value.isStrOf]
theorem key_ll(a b:Int):decide ((Sum.inl a:Key)=Sum.inl b)=(a==b):=by
 by_cases e:a=b
 · subst e;simp
 · have h:¬(Sum.inl a:Key)=Sum.inl b:=fun q=>e (Sum.inl.inj q)
   rw [decide_eq_false h]
   exact (beq_eq_false_iff_ne.mpr e).symm
theorem key_rr(a b:Str):decide ((Sum.inr a:Key)=Sum.inr b)=decide (a=b):=by
 by_cases e:a=b
 · subst e;simp
 · have h:¬(Sum.inr a:Key)=Sum.inr b:=fun q=>e (Sum.inr.inj q)
   rw [decide_eq_false h,decide_eq_false e]
theorem key_lr(a:Int)(b:Str):decide ((Sum.inl a:Key)=Sum.inr b)=false:=decide_eq_false (fun q=>nomatch q)
theorem key_rl(a:Str)(b:Int):decide ((Sum.inr a:Key)=Sum.inl b)=false:=decide_eq_false (fun q=>nomatch q)
noncomputable def mixKind(prog:Program)(w:World):PySem.KeyKind prog w Key where
 is:=keyIs
 hash:=keyH w
 inj:=fun v a b ha hb=>by
  rcases keyIs_shape ha with ⟨i,t,rfl,rfl⟩ | ⟨x,t,rfl,rfl⟩
  · rcases keyIs_shape hb with ⟨j,u,rfl,e⟩ | ⟨y,u,rfl,e⟩
    · injection e with e1 _;rw [e1]
    · exact nomatch e
  · rcases keyIs_shape hb with ⟨j,u,rfl,e⟩ | ⟨y,u,rfl,e⟩
    · exact nomatch e
    · injection e with e1 _;rw [e1]
 byValue:=fun k v h=>by
   rcases keyIs_shape h with ⟨i,t,rfl,rfl⟩ | ⟨x,t,rfl,rfl⟩ <;> rfl
 pyHash:=fun hv h=>by
  rcases keyIs_shape hv with ⟨i,t,rfl,rfl⟩ | ⟨x,t,rfl,rfl⟩
  · exact wpAny_pyHash_int h
  · exact wpAny_pyHash_str h
 eqBool:=fun hu hv h=>by
  rcases keyIs_shape hu with ⟨i,t,rfl,rfl⟩ | ⟨x,t,rfl,rfl⟩
  · rcases keyIs_shape hv with ⟨j,u,rfl,rfl⟩ | ⟨y,u,rfl,rfl⟩
    · rw [key_ll]at h;exact wpAny_eqBool_int h
    · rw [key_lr]at h;exact SeqAt.EqAt.int_str i t y u _ _ _ _ h
  · rcases keyIs_shape hv with ⟨j,u,rfl,rfl⟩ | ⟨y,u,rfl,rfl⟩
    · rw [key_rl]at h;exact SeqAt.EqAt.str_int x t j u _ _ _ _ h
    · rw [key_rr]at h;exact wpAny_eqBool_str h
 «strs»:=fun k x t v h=>by
  rcases keyIs_shape h with ⟨i,u,rfl,e⟩ | ⟨y,u,rfl,e⟩
  · exact nomatch e
  · injection e with e1 _
    subst e1
    cases v <;> rfl
theorem mixKind_int(prog:Program)(w:World)(i:Int)(t:Tok):(mixKind prog w).is (.inl i) (.int i t)=true:=keyIs_int i t
theorem mixKind_str(prog:Program)(w:World)(x:Str)(t:Tok):(mixKind prog w).is (.inr x) (.str x t)=true:=keyIs_str x t
end L2
namespace L2
inductive V where
 | non | bl (b:Bool) | int (i:Int) | str (x:Str) | byt (b:Array UInt8) | flt (b:UInt64) | ref (a:Addr) | ty (n:String)
 deriving DecidableEq
noncomputable def RelV:V→Value→Prop
 | .non,u=>u=Value.none
 | .bl b,u=>u=Value.bool b
 | .int i,u=>∃t,u=Value.int i t
 | .str x,u=>∃t,u=Value.str x t
 | .byt b,u=>∃t,u=Value.bytes b t
 | .flt b,u=>∃t,u=Value.float b t
 | .ref a,u=>u=Value.ref a
 | .ty n,u=>u=Value.type n
noncomputable abbrev Vals:List V→List Value→Prop:=Paired RelV
theorem Vals.length{xs:List V}{us:List Value}(r:Vals xs us):xs.length=us.length:=Paired.length r
theorem Vals.get:∀{xs:List V} {us:List Value} {i:Nat} {x:V},Vals xs us→xs[i]?=some x→∃u,us[i]?=some u∧RelV x u
 | _,_,_,_,.nil,e=>by simp at e
 | _,_,0,_,.cons r _,e=>by simp at e;subst e;exact ⟨_,rfl,r⟩
 | _,_,i+1,x,.cons _ t,e=>by
  obtain ⟨u,h1,h2⟩:=Vals.get (i:=i) (x:=x) t (by simpa using e)
  exact ⟨u,by simpa using h1,h2⟩
theorem Vals.set{x:V}{u:Value}(r:RelV x u):∀{xs:List V} {us:List Value} (i:Nat),Vals xs us→Vals (xs.set i x) (us.set i u)
 | _,_,_,.nil=> .nil
 | _,_,0,.cons _ t=> .cons r t
 | _,_,i+1,.cons q t=> .cons q (Vals.set r i t)
theorem Vals.append:∀{xs ys:List V} {us ws:List Value},Vals xs us→Vals ys ws→Vals (xs++ys) (us++ws)
 | _,_,_,_,.nil,s=>s
 | _,_,_,_,.cons r t,s=> .cons r (Vals.append t s)
theorem Vals.take:∀{xs:List V} {us:List Value} (n:Nat),Vals xs us→Vals (xs.take n) (us.take n)
 | _,_,0,_=> .nil
 | _,_,_+1,.nil=> .nil
 | _,_,n+1,.cons r t=> .cons r (Vals.take n t)
theorem Vals.drop:∀{xs:List V} {us:List Value} (n:Nat),Vals xs us→Vals (xs.drop n) (us.drop n)
 | _,_,0,r=>r
 | _,_,_+1,.nil=> .nil
 | _,_,n+1,.cons _ t=>Vals.drop n t
noncomputable def RelO:Option V→Option Value→Prop
 | some v,some u=>RelV v u
 | none,none=>True
 | _,_=>False
noncomputable def KV{κ:Type}:List (κ×V)→List (κ×Value)→Prop:=Paired fun (p:κ×V) (q:κ×Value)=>p.1=q.1∧RelV p.2 q.2
noncomputable def kV:Key→V
 | .inl i=> .int i
 | .inr x=> .str x
inductive HO where
 | lst (xs:List V)
 | tup (xs:List V)
 | dK (kvs:List (Key×V)) | dT (kvs:List (List Key×V))
 | set (S:Int→Bool) (n:Nat)
 | ins (C dx:Addr) (fs:List (Str×V))
 | own (x:Addr)
 | xd (fs:List (Str×V))
 | met (f x:Addr)
 | rng (lo hi:Int)
 | frz (o:Obj) (u:HO)
 | tbl (ps:Array Value)
 | ext (φ:Heap→Prop)
noncomputable abbrev Hp:=Addr→Option HO
noncomputable def upd(H:Hp)(a:Addr)(o:HO):Hp:=fun b=>if b=a then some o else H b
theorem upd_same{H:Hp}{a:Addr}{o:HO}:upd H a o a=some o:=by unfold upd;rw [if_pos rfl]
theorem upd_ne{H:Hp}{a b:Addr}{o:HO}(h:b≠a):upd H a o b=H b:=by unfold upd;rw [if_neg h]
theorem upd_upd{H:Hp}{a:Addr}{o u:HO}:upd (upd H a o) a u=upd H a u:=by
 funext b;unfold upd;split <;> rfl
theorem ne_of{H:Hp}{a b:Addr}{o u:HO}(h:H a=some o)(h':H b=some u)(d:o≠u):a≠b:=by
 intro e;subst e;rw [h]at h';exact d (Option.some.inj h')
theorem ne_of_none{H:Hp}{a b:Addr}{o:HO}(h:H a=some o)(h':H b=none):a≠b:=by
 intro e;subst e;rw [h]at h';cases h'
section
variable (P:Program) (w:World)
noncomputable def ObjOk(H:Hp)(h:Heap)(a:Addr):HO→Prop
 | .lst xs=>xs.length≤sizeLine∧∃(its:List Value) (n:Nat),Vals xs its∧h.get? a=some {cls:= .type "list",data:= .seq its.toArray n}
 | .tup xs=>xs.length≤sizeLine∧∃its:List Value,Vals xs its∧IsTup h a its.toArray
 | .dK kvs=>kvs.length≤sizeLine∧(a==sysModules)=false∧∃vs,KV kvs vs∧h.DictOf (mixKind P w) a vs
 | .dT kvs=>kvs.length≤sizeLine∧(a==sysModules)=false∧∃xs:List (List Key×Addr×Value),
  Paired (fun (p:List Key×V) (q:List Key×Addr×Value)=>p.1=q.1∧H q.2.1=some (.tup (p.1.map kV))∧RelV p.2 q.2.2) kvs xs∧
  ∃o es ep,h.get? a=some o∧o.ExactDict∧o.data= .dict es ep∧es.toList=xs.map (entryOfKey (tupleKind (mixKind P w)))∧(xs.map (·.1)).Nodup
 | .set S n=>h.SetOf (intKind P w) a S n
 | .ins C dx fs=>H dx=some (.own a)∧fs.length≤1000∧dx≠a∧h.get? a=some (PySem.W.instObj C dx)∧
  ∃mA,h.Ns1 dx mA∧(∀f,RelO (fs.lookup f) (mA f))∧PySem.Within mA (fs.map (·.1))
 | .own _=>∃o,h.get? a=some o
 | .xd fs=>∃mA,h.Ns1 a mA∧∀f,RelO (fs.lookup f) (mA f)
 | .rng lo hi=>∃t u v,h.get? a=some {cls:= .type "range",data:= .fields #[.int lo t,.int hi u,.int 1 v]}
 | .frz o u=>h.get? a=some o∧ObjOk H h a u
 | .tbl ps=>h.get? a=some {cls:= .none,data:= .fields ps}
 | .met f x=>h.get? a=some (PySem.W.methodObj (.ref f) (.ref x))
 | .ext φ=>φ h∧(∃o,h.get? a=some o)∧∀h1 h2:Heap,φ h1→(∀o,h1.get? a=some o→h2.get? a=some o)→φ h2
noncomputable def HOk(H:Hp)(h:Heap):Prop:=∀a o,H a=some o→ObjOk P w H h a o
end
section
variable {P:Program} {w:World} {H H':Hp} {h h':Heap} {a:Addr} {o:HO}
theorem ObjOk.lt(x:ObjOk P w H h a o):a < h.objs.size:=by
 cases o with
 | lst xs=>obtain ⟨_,_,_,_,e⟩:=x;exact Heap.lt_size e
 | tup xs=>obtain ⟨_,_,_,p⟩:=x;exact p.lt
 | dK kvs=>obtain ⟨_,_,_,_,o,_,_,e,_⟩:=x;exact Heap.lt_size e
 | dT kvs=>obtain ⟨_,_,_,_,o,_,_,e,_⟩:=x;exact Heap.lt_size e
 | set S n=>obtain ⟨o,_,_,_,e,_⟩:=x;exact Heap.lt_size e
 | ins C dx fs=>obtain ⟨_,_,_,e,_⟩:=x;exact Heap.lt_size e
 | own y=>obtain ⟨_,e⟩:=x;exact Heap.lt_size e
 | xd fs=>obtain ⟨_,⟨_,_,_,e,_⟩,_⟩:=x;exact Heap.lt_size e
 | rng lo hi=>obtain ⟨_,_,_,e⟩:=x;exact Heap.lt_size e
 | frz ob u=>obtain ⟨e,_⟩:=x;exact Heap.lt_size e
 | tbl ps=>exact Heap.lt_size (show h.get? a=some _ from x)
 | met f y=>exact Heap.lt_size (show h.get? a=some _ from x)
 | ext φ=>obtain ⟨_,⟨_,e⟩,_⟩:=x;exact Heap.lt_size e
theorem Paired.mapP{α β:Type}{F G:α→β→Prop}:∀{l₁:List α} {l₂:List β},Paired F l₁ l₂→(∀a b,F a b→G a b)→Paired G l₁ l₂
 | _,_,.nil,_=> .nil
 | _,_,.cons r t,f=> .cons (f _ _ r) (Paired.mapP t f)
theorem ObjOk.stay(x:ObjOk P w H h a o)(k:∀b u,(b=a∨H b=some (.own a))→h.get? b=some u→h'.get? b=some u)
 (ho:∀b,H b=some (.own a)→H' b=some (.own a)) (ht:∀b xs,H b=some (.tup xs)→H' b=some (.tup xs)):ObjOk P w H' h' a o:=by
 induction o with
 | lst xs=>obtain ⟨z,its,n,r,e⟩:=x;exact ⟨z,its,n,r,k _ _ (.inl rfl) e⟩
 | tup xs=>obtain ⟨z,its,r,ob,e,c⟩:=x;exact ⟨z,its,r,ob,k _ _ (.inl rfl) e,c⟩
 | dK kvs=>obtain ⟨z,y,vs,r,ob,es,ep,e,c⟩:=x;exact ⟨z,y,vs,r,ob,es,ep,k _ _ (.inl rfl) e,c⟩
 | dT kvs=>
  obtain ⟨z,y,xs,r,ob,es,ep,e,c⟩:=x
  exact ⟨z,y,xs,Paired.mapP r fun p q z=>⟨z.1,ht _ _ z.2.1,z.2.2⟩,ob,es,ep,k _ _ (.inl rfl) e,c⟩
 | set S n=>obtain ⟨ob,es,ep,t,e,c⟩:=x;exact ⟨ob,es,ep,t,k _ _ (.inl rfl) e,c⟩
 | ins C dx fs=>
  obtain ⟨d,z,ne,e,mA,⟨od,es,ep,e2,c⟩,r⟩:=x
  exact ⟨ho _ d,z,ne,k _ _ (.inl rfl) e,mA,⟨od,es,ep,k _ _ (.inr d) e2,c⟩,r⟩
 | own y=>obtain ⟨ob,e⟩:=x;exact ⟨ob,k _ _ (.inl rfl) e⟩
 | xd fs=>obtain ⟨mA,⟨od,es,ep,e,c⟩,r⟩:=x;exact ⟨mA,⟨od,es,ep,k _ _ (.inl rfl) e,c⟩,r⟩
 | rng lo hi=>obtain ⟨t,u,v,e⟩:=x;exact ⟨t,u,v,k _ _ (.inl rfl) e⟩
 | frz ob u ih=>obtain ⟨e,q⟩:=x;exact ⟨k _ _ (.inl rfl) e,ih q⟩
 | tbl ps=>
  have e:h.get? a=some {cls:= .none,data:= .fields ps}:=x
  show h'.get? a=some {cls:= .none,data:= .fields ps}
  exact k a _ (.inl rfl) e
 | met f y=>
  have e:h.get? a=some (PySem.W.methodObj (.ref f) (.ref y)):=x
  show h'.get? a=some (PySem.W.methodObj (.ref f) (.ref y))
  exact k a _ (.inl rfl) e
 | ext φ=>obtain ⟨p,⟨o,e⟩,st⟩:=x;exact ⟨st _ _ p fun o q=>k _ _ (.inl rfl) q,⟨o,k _ _ (.inl rfl) e⟩,st⟩
theorem HOk.lt(x:HOk P w H h)(e:H a=some o):a < h.objs.size:=(x a o e).lt
theorem HOk.fresh(x:HOk P w H h)(e:h.objs.size≤a):H a=none:=by
 cases q:H a with
 | none=>rfl
 | some u=>exact absurd (Nat.lt_of_lt_of_le (x.lt q) e) (Nat.lt_irrefl _)
theorem HOk.kept(x:HOk P w H h)(k:∀b u,h.get? b=some u→h'.get? b=some u):HOk P w H h':=fun a o e=>
 (x a o e).stay (fun b u _ q=>k b u q) (fun _ q=>q) fun _ _ q=>q
theorem HOk.laid(x:HOk P w H h)(k:∀b u,h.get? b=some u→h'.get? b=some u)(hp:h.objs.size≤a)(new:ObjOk P w (upd H a o) h' a o):HOk P w (upd H a o) h':=fun b u e=>by
 have hn:=x.fresh hp
 by_cases hb:b=a
 · subst hb;rw [upd_same]at e;cases e;exact new
 · rw [upd_ne hb]at e
   exact (x b u e).stay (fun c v _ q=>k c v q) (fun c q=>by rw [upd_ne (ne_of_none q hn)];exact q) fun c xs q=>by rw [upd_ne (ne_of_none q hn)];exact q
end
noncomputable def Rd(H:Hp)(a:Addr)(u:HO):Prop:=H a=some u∨∃o,H a=some (.frz o u)
theorem Rd.ok{P:Program}{w:World}{H:Hp}{h:Heap}{a:Addr}{u:HO}(r:Rd H a u)(x:HOk P w H h):ObjOk P w H h a u:=by
 rcases r with r | ⟨o,r⟩
 · exact x a u r
 · obtain ⟨_,q⟩:=x a _ r
   exact q
noncomputable def Mut:Option HO→Prop
 | some (.lst _)=>True
 | some (.dK _)=>True
 | some (.dT _)=>True
 | some (.set _ _)=>True
 | some (.ins _ _ _)=>True
 | some (.ext _)=>True
 | _=>False
section
variable {P:Program} {w:World} {H:Hp} {h h':Heap} {x e:Addr} {o':HO}
theorem HOk.write(ok:HOk P w H h)(mu:Mut (H x))(he:e=x∨H e=some (.own x))(k:∀b u,b≠e→h.get? b=some u→h'.get? b=some u)(heo:∃u,h'.get? e=some u)
 (new:ObjOk P w (upd H x o') h' x o'):HOk P w (upd H x o') h':=fun b u q=>by
 have nown:∀c y,H c=some (.own y)→c≠x:=fun c y r z=>by subst z;rw [r]at mu;exact mu
 have ntup:∀c xs,H c=some (.tup xs)→c≠x:=fun c xs r z=>by subst z;rw [r]at mu;exact mu
 by_cases hb:b=x
 · subst hb;rw [upd_same]at q;cases q;exact new
 · rw [upd_ne hb]at q
   by_cases hbe:b=e
   · have q':H b=some (.own x):=by
      rcases he with z | z
      · exact absurd (hbe.trans z) hb
      · rw [hbe];exact z
     rw [q]at q';cases q'
     obtain ⟨v,hv⟩:=heo
     exact ⟨v,by rw [hbe];exact hv⟩
   · refine (ok b u q).stay (fun c v hc r=>k c v ?_ r) (fun c r=>by rw [upd_ne (nown c b r)];exact r) fun c xs r=>by rw [upd_ne (ntup c xs r)];exact r
     rcases hc with rfl | hc
     · exact hbe
     · rintro rfl
       rcases he with z | z
       · exact nown c b hc z
       · rw [hc]at z;cases z;exact hb rfl
end
structure Un(fs ex:List Addr)(H H':Hp)(h h':Heap):Prop where
 keep:∀b o,h.get? b=some o→H b=none→b∉fs→b∉ex→h'.get? b=some o
 slot:∀b o,h.get? b=some o→H b=none→b∈fs→b∉ex→∃sl,h'.get? b=some {o with slots:=sl}
 free:∀b o,h.get? b=some o→H b=none→b∉ex→H' b=none
 there:∀b o,h.get? b=some o→b∉ex→∃o',h'.get? b=some o'
 tups:∀b xs,H b=some (.tup xs)→H' b=some (.tup xs)
 frzs:∀b o u,H b=some (.frz o u)→H' b=some (.frz o u)
 tbls:∀b ps,H b=some (.tbl ps)→∃more,H' b=some (.tbl (ps++more))
section
variable {fs fs' ex ex':List Addr} {H H1 H2:Hp} {h h1 h2 h':Heap} {a x e:Addr} {o:HO}
theorem Un.any(u:Un fs ex H H1 h h1){b:Addr}{ob:Obj}(q:h.get? b=some ob)(n:H b=none)(hx:b∉ex):∃sl,h1.get? b=some {ob with slots:=sl}:=by
 by_cases hb:b∈fs
 · exact u.slot b ob q n hb hx
 · exact ⟨ob.slots,u.keep b ob q n hb hx⟩
theorem Un.kept(k:∀b u,h.get? b=some u→h'.get? b=some u):Un fs ex H H h h':=
 ⟨fun b ob q _ _ _=>k b ob q,fun b ob q _ _ _=>⟨ob.slots,k b ob q⟩,fun _ _ _ n _=>n,fun b ob q _=>⟨ob,k b ob q⟩,fun _ _ q=>q,fun _ _ _ q=>q,fun _ ps q=>⟨#[],by rw [q];simp⟩⟩
theorem Un.refl:Un fs ex H H h h:=Un.kept fun _ _ q=>q
theorem Un.laid(k:∀b u,h.get? b=some u→h'.get? b=some u)(hp:h.objs.size≤a)(hn:H a=none):Un fs ex H (upd H a o) h h' where
 keep:=fun b u q _ _ _=>k b u q
 slot:=fun b u q _ _ _=>⟨u.slots,k b u q⟩
 free:=fun b u q n _=>by rw [upd_ne (Nat.ne_of_lt (Nat.lt_of_lt_of_le (Heap.lt_size q) hp))];exact n
 there:=fun b u q _=>⟨u,k b u q⟩
 tups:=fun b xs q=>by rw [upd_ne (ne_of_none q hn)];exact q
 frzs:=fun b u xs q=>by rw [upd_ne (ne_of_none q hn)];exact q
 tbls:=fun b ps q=>⟨#[],by rw [upd_ne (ne_of_none q hn),q];simp⟩
theorem Un.write(mu:Mut (H x))(he:e=x∨H e=some (.own x))(k:∀b u,b≠e→h.get? b=some u→h'.get? b=some u)(heo:∃u,h'.get? e=some u):Un fs ex H (upd H x o) h h':=by
 have hx:∀b,H b=none→b≠x:=fun b n z=>by subst z;rw [n]at mu;exact mu
 have hb:∀b,H b=none→b≠e:=fun b n z=>by
  subst z
  rcases he with r | r
  · exact hx b n r
  · rw [n]at r;cases r
 have hm:∀b u,H b=some u→¬Mut (some u)→b≠x:=fun b u q nm z=>by subst z;rw [q]at mu;exact nm mu
 refine ⟨fun b u q n _ _=>k b u (hb b n) q,fun b u q n _ _=>⟨u.slots,k b u (hb b n) q⟩,fun b u q n _=>by rw [upd_ne (hx b n)];exact n,fun b u q _=>?_,
  fun b xs q=>by rw [upd_ne (hm b _ q fun z=>z)];exact q,fun b u xs q=>by rw [upd_ne (hm b _ q fun z=>z)];exact q,fun b ps q=>⟨#[],by rw [upd_ne (hm b _ q fun z=>z),q];simp⟩⟩
 by_cases hbe:b=e
 · subst hbe;exact heo
 · exact ⟨u,k b u hbe q⟩
end
noncomputable def trk(h:Heap)(H:Hp):List Addr:=(List.range h.objs.size).filter fun a=>(H a).isSome
noncomputable def hidT(h:Heap)(H:Hp):Heap:=PySem.W.hideAll h (trk h H)
theorem hidT_size(h:Heap)(H:Hp):(hidT h H).objs.size=h.objs.size:=PySem.W.hideAll_size _ _
theorem hidT_get{h:Heap}{H:Hp}{b:Addr}{o:Obj}(e:h.get? b=some o)(n:H b=none):(hidT h H).get? b=some o:=
 PySem.W.hideAll_get _ e fun hm=>by
  have q:(H b).isSome=true:=(List.mem_filter.mp hm).2
  rw [n]at q;simp at q
theorem of_hidT{h:Heap}{H:Hp}{b:Addr}{o:Obj}(e:(hidT h H).get? b=some o):h.get? b=some o∧H b=none:=by
 have e':h.get? b=some o:=PySem.W.of_hideAll (trk h H) e
 refine ⟨e',?_⟩
 cases q:H b with
 | none=>rfl
 | some x=>
  have hm:b∈trk h H:=List.mem_filter.mpr ⟨List.mem_range.mpr (Heap.lt_size e'),by simp [q]⟩
  have z:(hidT h H).get? b=none:=PySem.W.hideAll_none (trk h H) hm
  rw [z]at e;cases e
noncomputable def allNews(g h:Heap)(L:Addr):List (Addr×Obj):=(List.range h.objs.size).filterMap fun a=>if a=L∨(g.get? a).isSome=true then none else (h.get? a).map fun o=>(a,o)
noncomputable def rest(g h:Heap)(L d:Addr):List (Addr×Obj):=(allNews g h L).filter fun p=>decide (p.1≠d)
end L2
namespace L2
structure Mod(K:PySem.W.Frag)(mg:Str→Option Value)(base:Heap):Prop where
 kin:K.In base
 glob:base.Ns mainGlobals mg
 blt:∃mb,base.Ns builtinsNs mb∧∀x:Str,x≠"__name__"→mb x=bootBuiltins x
 nolimit:base.NoLimit
structure Cx where
 prog:Program
 w:World
 K:PySem.W.Frag
 mg:Str→Option Value
 base:Heap
 A:Around
 N:List Str
 s₀:Shared
 H₀:Hp
 env:Env
 outer:List Env
 stack:List Env
 ex:List Addr
 fn:Str→Bool
 calm:Bool
 pn:List (Addr×Obj)
 xe:Value→Shared→Prop
noncomputable def frs(l:List Env):List Addr:=l.filterMap (·.frame)
noncomputable abbrev Cx.fs(X:Cx):List Addr:=frs X.outer
noncomputable def Vis(sc:Scope)(x:Str):Prop:=sc.names.lookup x=some .local∨sc.names.lookup x=some .cell∨sc.names.lookup x=some .free
noncomputable def Loc(sc:Scope)(x:Str):Prop:=sc.names.lookup x=some .local∨sc.names.lookup x=some .cell
noncomputable def Look(env:Env)(h:Heap)(m:Str→Option Value)(x:Str)(u:Value):Prop:=
 (env.kindOf x=some .local∧m x=some u)∨((env.kindOf x=some .cell∨env.kindOf x=some .free)∧∃c,env.cells.lookup x=some c∧h.IsCell c (some u))
structure Cx.Ok(X:Cx):Prop where
 mod:Mod X.K X.mg X.base
 kind:X.env.scope.kind= .function
 glob:X.env.globals=mainGlobals
 blt:X.env.builtins=builtinsNs
 above:X.s₀.heap.objs.size≤X.env.locals
 inj:∀x y c,X.env.cells.lookup x=some c→X.env.cells.lookup y=some c→x=y
 has:∀x,(X.env.kindOf x=some .cell∨X.env.kindOf x=some .free)→∃c,X.env.cells.lookup x=some c
 cab:∀x c,X.fn x=true→X.env.cells.lookup x=some c→X.s₀.heap.objs.size≤c
 hd:X.calm=true→X.A.handled=none
 frames:X.A.frames=some X.stack
 stk:X.stack=X.outer∨(X.stack=X.env::X.outer∧X.env.frame=some X.env.locals)
 exf:∀b∈X.ex,b≠X.env.locals∧∀x c,X.env.cells.lookup x=some c→c≠b
 bs:∀b o,X.base.get? b=some o→X.s₀.heap.get? b=some o∧X.H₀ b=none
 bsz:X.base.objs.size≤X.s₀.heap.objs.size
 noex:∀b o,X.base.get? b=some o→b∉X.ex
 exfs:∀b∈X.ex,b∉X.fs
 funs:X.s₀.heap.FunFrames X.base X.outer
 frf:∀b∈X.fs,X.H₀ b=none
structure Inv(X:Cx)(pins:List (Addr×Obj))(σ:List (Option V))(H:Hp)(s:Shared):Prop where
 ok:X.Ok
 os:s.os=X.s₀.os
 bare:AllBare s.gens
 base:Un X.fs X.ex X.H₀ H X.s₀.heap s.heap
 loc:∃m,s.heap.Ns X.env.locals m∧∀(i:Nat) (x:Str) (v:V),X.N[i]?=some x→σ[i]?=some (some v)→Vis X.env.scope x→∃u,RelV v u∧Look X.env s.heap m x u
 cell:∀x c,X.env.cells.lookup x=some c→∃v,s.heap.IsCell c v
 free:H X.env.locals=none
 freeC:∀x c,X.env.cells.lookup x=some c→H c=none
 pin:∀p∈X.pn++pins,s.heap.get? p.1=some p.2∧H p.1=none∧p.1≠X.env.locals∧p.1∉X.fs∧∀v,p.2.data≠ .cell v
 hok:HOk X.prog X.w H s.heap
 len:σ.length=X.N.length
section
variable {X:Cx} {pins:List (Addr×Obj)} {σ:List (Option V)} {H H':Hp} {s:Shared} {h':Heap}
theorem Cx.Ok.nofr(ok:X.Ok){b:Addr}{o:Obj}(e:X.base.get? b=some o):b∉X.fs:=fun hb=>by
 have:=(ok.funs.mem hb).1
 rw [e]at this;cases this
theorem Inv.bs(I:Inv X pins σ H s):∀b o,X.base.get? b=some o→s.heap.get? b=some o∧H b=none:=fun b o e=>
 ⟨I.base.keep b o (I.ok.bs b o e).1 (I.ok.bs b o e).2 (I.ok.nofr e) (I.ok.noex b o e),I.base.free b o (I.ok.bs b o e).1 (I.ok.bs b o e).2 (I.ok.noex b o e)⟩
theorem Inv.bk(I:Inv X pins σ H s):∀b o,X.base.get? b=some o→s.heap.get? b=some o:=fun b o e=>(I.bs b o e).1
theorem Inv.mod(I:Inv X pins σ H s):Mod X.K X.mg X.base:=I.ok.mod
theorem Inv.kIn(I:Inv X pins σ H s):X.K.In s.heap:=I.ok.mod.kin.keeps I.bk
theorem Inv.lt(I:Inv X pins σ H s):X.env.locals < s.heap.objs.size:=let ⟨_,hn,_⟩:=I.loc;hn.lt
theorem Inv.sz(I:Inv X pins σ H s):X.s₀.heap.objs.size≤s.heap.objs.size:=Nat.le_trans I.ok.above (Nat.le_of_lt I.lt)
theorem Inv.nofs(I:Inv X pins σ H s){a:Addr}(h:s.heap.objs.size≤a):a∉X.fs:=fun hb=>by
 obtain ⟨_,o,ho,_⟩:=I.ok.funs.mem hb
 exact absurd (Nat.lt_of_lt_of_le (Heap.lt_size ho) (Nat.le_trans I.sz h)) (Nat.lt_irrefl _)
theorem Inv.cne(I:Inv X pins σ H s):∀x c,X.env.cells.lookup x=some c→c≠X.env.locals:=fun x c e z=>by
 obtain ⟨v,o,ho,hd⟩:=I.cell x c e
 obtain ⟨m,⟨o',es,ep,ho',hd',_⟩,_⟩:=I.loc
 rw [z,ho']at ho;cases ho;rw [hd']at hd;cases hd
theorem Inv.funs(I:Inv X pins σ H s):s.heap.FunFrames X.base X.outer:=by
 have all:∀(l:List Env),(∀b∈frs l,b∈X.fs)→X.s₀.heap.FunFrames X.base l→s.heap.FunFrames X.base l:=by
  intro l
  induction l with
  | nil=>intro _ _;trivial
  | cons env r ih=>
   intro hs hl
   obtain ⟨hk,⟨L,o,hf,hn,ho,hd⟩,hr⟩:=hl
   have hL:L∈X.fs:=hs L (by unfold frs;rw [List.filterMap_cons,hf];exact List.mem_cons_self)
   obtain ⟨sl,e⟩:=I.base.slot L o ho (I.ok.frf L hL) hL fun z=>I.ok.exfs L z hL
   exact ⟨hk,⟨L,_,hf,hn,e,hd⟩,ih (fun b hb=>hs b (by unfold frs;rw [List.filterMap_cons,hf];exact List.mem_cons_of_mem _ hb)) hr⟩
 exact all X.outer (fun _ hb=>hb) I.ok.funs
theorem Inv.stack(I:Inv X pins σ H s):s.heap.FunFrames X.base X.stack:=by
 rcases I.ok.stk with e | ⟨e,hf⟩
 · rw [e];exact I.funs
 · rw [e]
   obtain ⟨m,hn,_⟩:=I.loc
   refine .cons (by rw [I.ok.kind];decide) hf hn ?_ I.funs
   exact Heap.get?_none_of_le (Nat.le_trans I.ok.bsz I.ok.above)
theorem Inv.stkSub(I:Inv X pins σ H s):∀b∈frs X.stack,b∈X.env.locals::X.fs:=fun b hb=>by
 rcases I.ok.stk with e | ⟨e,hf⟩
 · rw [e]at hb;exact List.mem_cons_of_mem _ hb
 · rw [e]at hb
   unfold frs at hb
   rw [List.filterMap_cons,hf]at hb
   exact hb
theorem Inv.stkFree(I:Inv X pins σ H s):∀b∈frs X.stack,H b=none:=fun b hb=>by
 rcases List.mem_cons.mp (I.stkSub b hb) with e | hb
 · rw [e];exact I.free
 · obtain ⟨_,o,ho,_⟩:=I.ok.funs.mem hb
   exact I.base.free b o ho (I.ok.frf b hb) fun z=>I.ok.exfs b z hb
theorem Inv.step{g':Array GenState}{t':Nat}{d':Drawn}{ch:List Addr}(I:Inv X pins σ H s)
 (hch:∀b∈ch,(b∈X.ex∨X.s₀.heap.objs.size≤b)∧b≠X.env.locals∧(∀x c,X.env.cells.lookup x=some c→c≠b)∧∀p∈X.pn++pins,p.1≠b)
 (keep:∀b o,b≠X.env.locals→b∉X.fs→b∉ch→s.heap.get? b=some o→H b=none→h'.get? b=some o)
 (slot:∀b o,b≠X.env.locals→b∈X.fs→b∉ch→s.heap.get? b=some o→H b=none→∃sl,h'.get? b=some {o with slots:=sl}) (free:∀b o,b∉ch→s.heap.get? b=some o→H b=none→H' b=none)
 (there:∀b o,b∉ch→s.heap.get? b=some o→∃o',h'.get? b=some o')
 (tups:∀b xs,H b=some (.tup xs)→H' b=some (.tup xs)) (frzs:∀b o u,H b=some (.frz o u)→H' b=some (.frz o u)) (tbls:∀b ps,H b=some (.tbl ps)→∃more,H' b=some (.tbl (ps++more)))
 (ns:∀m,s.heap.Ns X.env.locals m→h'.Ns X.env.locals m) (hok:HOk X.prog X.w H' h') (hg:AllBare g'):
 Inv X pins σ H' {s with heap:=h',gens:=g',drawn:=d',toks:=t'}:=by
 have neL:∀b o,X.s₀.heap.get? b=some o→b≠X.env.locals:=fun b o e=>Nat.ne_of_lt (Nat.lt_of_lt_of_le (Heap.lt_size e) I.ok.above)
 have neC:∀b o,X.s₀.heap.get? b=some o→b∉X.ex→b∉ch:=fun b o e hx hb=>by
  rcases (hch b hb).1 with z | z
  · exact hx z
  · exact absurd (Nat.lt_of_lt_of_le (Heap.lt_size e) z) (Nat.lt_irrefl _)
 have cellK:∀x c,X.env.cells.lookup x=some c→∀v,s.heap.IsCell c v→h'.IsCell c v:=fun x c e v ⟨o,ho,hd⟩=>by
  have nch:c∉ch:=fun z=>(hch c z).2.2.1 x c e rfl
  by_cases hc:c∈X.fs
  · obtain ⟨sl,q⟩:=slot c o (I.cne x c e) hc nch ho (I.freeC x c e)
    exact ⟨_,q,hd⟩
  · exact ⟨o,keep c o (I.cne x c e) hc nch ho (I.freeC x c e),hd⟩
 refine ⟨I.ok,I.os,hg,⟨fun b o e n hb hx=>?_,fun b o e n hb hx=>?_,fun b o e n hx=>?_,fun b o e hx=>?_,fun b xs e=>tups b xs (I.base.tups b xs e),fun b o xs e=>frzs b o xs (I.base.frzs b o xs e),fun b ps e=>?_⟩,?_,fun x c e=>?_,?_,fun x c e=>?_,fun p hp=>?_,hok,I.len⟩
 · exact keep b o (neL b o e) hb (neC b o e hx) (I.base.keep b o e n hb hx) (I.base.free b o e n hx)
 · obtain ⟨sl,e1⟩:=I.base.slot b o e n hb hx
   obtain ⟨sl',e2⟩:=slot b _ (neL b o e) hb (neC b o e hx) e1 (I.base.free b o e n hx)
   exact ⟨sl',e2⟩
 · obtain ⟨o',e1⟩:=I.base.there b o e hx
   exact free b o' (neC b o e hx) e1 (I.base.free b o e n hx)
 · obtain ⟨o',e1⟩:=I.base.there b o e hx
   exact there b o' (neC b o e hx) e1
 · obtain ⟨m1,e1⟩:=I.base.tbls b ps e
   obtain ⟨m2,e2⟩:=tbls b _ e1
   exact ⟨m1++m2,by rw [e2,Array.append_assoc]⟩
 · obtain ⟨m,hn,hl⟩:=I.loc
   refine ⟨m,ns m hn,fun i x v e1 e2 e3=>?_⟩
   obtain ⟨u,r,l⟩:=hl i x v e1 e2 e3
   refine ⟨u,r,?_⟩
   rcases l with l | ⟨k,c,e,z⟩
   · exact .inl l
   · exact .inr ⟨k,c,e,cellK x c e _ z⟩
 · obtain ⟨v,z⟩:=I.cell x c e
   exact ⟨v,cellK x c e v z⟩
 · obtain ⟨m,⟨o,_,_,ho,_⟩,_⟩:=I.loc
   exact free _ o (fun z=>(hch _ z).2.1 rfl) ho I.free
 · obtain ⟨v,o,ho,hd⟩:=I.cell x c e
   exact free c o (fun z=>(hch c z).2.2.1 x c e rfl) ho (I.freeC x c e)
 · obtain ⟨e,n,ne,nf,d⟩:=I.pin p hp
   have nch:p.1∉ch:=fun z=>(hch p.1 z).2.2.2 p hp rfl
   exact ⟨keep p.1 p.2 ne nf nch e n,free p.1 p.2 nch e n,ne,nf,d⟩
theorem Inv.un{t':Nat}(I:Inv X pins σ H s)(u:Un X.fs [] H H' s.heap h')(hok:HOk X.prog X.w H' h'):Inv X pins σ H' {s with heap:=h',toks:=t'}:=by
 obtain ⟨m,⟨o,es,ep,ho,r⟩,_⟩:=id I.loc
 obtain ⟨sl,hL⟩:=u.any ho I.free (by simp)
 exact I.step (g':=s.gens) (d':=s.drawn) (ch:=[]) (fun _ z=>nomatch z) (fun b o _ hb _ e n=>u.keep b o e n hb (by simp)) (fun b o _ hb _ e n=>u.slot b o e n hb (by simp)) (fun b o _ e n=>u.free b o e n (by simp)) (fun b o _ e=>u.there b o e (by simp)) u.tups u.frzs u.tbls (fun m' hm=>by
  obtain ⟨o',es',ep',ho',r'⟩:=hm
  rw [ho]at ho';cases ho'
  exact ⟨_,es',ep',hL,r'⟩) hok I.bare
theorem Inv.call{g':Array GenState}{t':Nat}{d':Drawn}{ch:List Addr}(I:Inv X pins σ H s)(u:Un (frs X.stack) ch H H' s.heap h')(hok:HOk X.prog X.w H' h')(hg:AllBare g')
 (hch:∀b∈ch,(b∈X.ex∨X.s₀.heap.objs.size≤b)∧b≠X.env.locals∧(∀x c,X.env.cells.lookup x=some c→c≠b)∧∀p∈X.pn++pins,p.1≠b):
 Inv X pins σ H' {s with heap:=h',gens:=g',drawn:=d',toks:=t'}:=by
 obtain ⟨m,⟨o,es,ep,ho,r⟩,_⟩:=id I.loc
 obtain ⟨sl,hL⟩:=u.any ho I.free fun z=>(hch _ z).2.1 rfl
 exact I.step (ch:=ch) hch (fun b o hL hb hc e n=>u.keep b o e n (fun z=>(List.mem_cons.mp (I.stkSub b z)).elim hL hb) hc) (fun b o _ _ hc e n=>u.any e n hc) (fun b o hc e n=>u.free b o e n hc) (fun b o hc e=>u.there b o e hc) u.tups u.frzs u.tbls (fun m' hm=>by
  obtain ⟨o',es',ep',ho',r'⟩:=hm
  rw [ho]at ho';cases ho'
  exact ⟨_,es',ep',hL,r'⟩) hok hg
theorem Inv.turned{t':Nat}{it:Addr}(I:Inv X pins σ H s)(k:∀b o,b≠it→s.heap.get? b=some o→h'.get? b=some o)(hn:H it=none)(hL:it≠X.env.locals)
 (h1:it∈X.ex∨X.s₀.heap.objs.size≤it) (h2:∀x c,X.env.cells.lookup x=some c→c≠it) (h3:∀p∈X.pn++pins,p.1≠it):Inv X pins σ H {s with heap:=h',toks:=t'}:=by
 have nit:∀b u,H b=some u→b≠it:=fun b u e z=>by rw [z,hn]at e;cases e
 refine I.step (g':=s.gens) (d':=s.drawn) (ch:=[it]) (fun b hb=>?_) (fun b o _ _ hc e _=>k b o (fun z=>hc (by simp [z])) e) (fun b o _ _ hc e _=>⟨o.slots,k b o (fun z=>hc (by simp [z])) e⟩) (fun _ _ _ _ n=>n)
  (fun b o hc e=>⟨o,k b o (fun z=>hc (by simp [z])) e⟩) (fun _ _ e=>e) (fun _ _ _ e=>e) (fun b ps e=>⟨#[],by rw [e];simp⟩) (fun m hm=>?_) (fun b u e=>?_) I.bare
 · have e:b=it:=by simpa using hb
   subst e
   exact ⟨h1,hL,h2,h3⟩
 · obtain ⟨o,es,ep,ho,r⟩:=hm
   exact ⟨o,es,ep,k _ o (Ne.symm hL) ho,r⟩
 · refine (I.hok b u e).stay (fun c v hc q=>k c v ?_ q) (fun _ q=>q) fun _ _ q=>q
   rcases hc with z | z
   · rw [z];exact nit b u e
   · exact nit c _ z
theorem Inv.tok(I:Inv X pins σ H s)(t:Nat):Inv X pins σ H {s with toks:=t}:=I.un (h':=s.heap) (t':=t) Un.refl I.hok
theorem Inv.kept{t':Nat}(I:Inv X pins σ H s)(k:∀b u,s.heap.get? b=some u→h'.get? b=some u):Inv X pins σ H {s with heap:=h',toks:=t'}:=I.un (Un.kept k) (I.hok.kept k)
theorem Inv.laid{a:Addr}{o:HO}{t':Nat}(I:Inv X pins σ H s)(k:∀b u,s.heap.get? b=some u→h'.get? b=some u)(hp:s.heap.objs.size≤a)(new:ObjOk X.prog X.w (upd H a o) h' a o):
 Inv X pins σ (upd H a o) {s with heap:=h',toks:=t'}:=I.un (Un.laid k hp (I.hok.fresh hp)) (I.hok.laid k hp new)
theorem Inv.write{x e:Addr}{o:HO}{t':Nat}(I:Inv X pins σ H s)(mu:Mut (H x))(he:e=x∨H e=some (.own x))(k:∀b u,b≠e→s.heap.get? b=some u→h'.get? b=some u)(heo:∃u,h'.get? e=some u)
 (new:ObjOk X.prog X.w (upd H x o) h' x o):Inv X pins σ (upd H x o) {s with heap:=h',toks:=t'}:=I.un (Un.write mu he k heo) (I.hok.write mu he k heo new)
theorem Inv.weak{σ':List (Option V)}(I:Inv X pins σ H s)(hl:σ'.length=σ.length)(w:∀(i:Nat) v,σ'[i]?=some (some v)→σ[i]?=some (some v)):Inv X pins σ' H s:=
 ⟨I.ok,I.os,I.bare,I.base,let ⟨m,hn,hl'⟩:=I.loc;⟨m,hn,fun i x v e1 e2 e3=>hl' i x v e1 (w i v e2) e3⟩,I.cell,I.free,I.freeC,I.pin,I.hok,hl.trans I.len⟩
theorem Inv.pins_of{pins':List (Addr×Obj)}(I:Inv X pins σ H s)(h:∀p∈pins',s.heap.get? p.1=some p.2∧H p.1=none∧p.1≠X.env.locals∧p.1∉X.fs∧∀v,p.2.data≠ .cell v):Inv X pins' σ H s:=
 ⟨I.ok,I.os,I.bare,I.base,I.loc,I.cell,I.free,I.freeC,fun p hp=>(List.mem_append.mp hp).elim (fun z=>I.pin p (List.mem_append_left _ z)) (h p),I.hok,I.len⟩
theorem nodup_ix{N:List Str}(hN:N.Nodup){i j:Nat}{x:Str}(a:N[i]?=some x)(b:N[j]?=some x):i=j:=by
 obtain ⟨h1,e1⟩:=List.getElem?_eq_some_iff.mp a
 obtain ⟨h2,e2⟩:=List.getElem?_eq_some_iff.mp b
 exact (List.getElem_inj hN).mp (e1.trans e2.symm)
theorem store_ok2{M:Model}{A:Around}{E:Value→Shared→Prop}{i:Nat}{x:Str}{v:V}{u:Value}{Q:Unit→Shared→Prop}(I:Inv X pins σ H s)(hN:X.N.Nodup)(hi:X.N[i]?=some x)(hx:Loc X.env.scope x)(r:RelV v u)
 (h:∀s',Inv X pins (σ.set i (some v)) H s'→(∃a,Heap.SameBut a s.heap s'.heap∧(a=X.env.locals∨X.env.cells.lookup x=some a))→Q () s') (hf:X.fn x=true∨X.env.scope.names.lookup x=some .local:=by first | exact .inl rfl | exact .inr rfl | assumption):wpAny M A (storeName X.env x u) Q E s:=by
 obtain ⟨m,hn,hl⟩:=id I.loc
 have hcls:(X.env.scope.kind== .class || (X.env.scope.kind== .module && X.env.locals !=X.env.globals))=false:=by rw [I.ok.kind];rfl
 have hiσ:i < σ.length:=by rw [I.len];exact (List.getElem?_eq_some_iff.mp hi).1
 have cne:=I.cne
 have tracked:∀{a:Addr} {h':Heap},(∃o,s.heap.get? a=some o∧H a=none)→Heap.SameBut a s.heap h'→HOk X.prog X.w H h':=fun {a h'} ha hs b ob e=>by
  obtain ⟨_,_,hfree⟩:=ha
  refine (I.hok b ob e).stay (fun c w' hc q=>(hs.2 c ?_).trans q) (fun _ q=>q) fun _ _ q=>q
  rintro rfl
  rcases hc with rfl | hc
  · rw [hfree]at e;cases e
  · rw [hfree]at hc;cases hc
 rcases hx with hk | hk
 · refine wpAny_storeName_local hk hn (fun h' hn' hs=>?_) hcls
   obtain ⟨oL,_,_,hoL,_⟩:=id hn
   refine h _ ⟨I.ok,I.os,I.bare,⟨fun b o e n hb hx=>?_,fun b o e n hb hx=>?_,I.base.free,fun b o e hx=>?_,I.base.tups,I.base.frzs,I.base.tbls⟩,⟨_,hn',fun j y v' e1 e2 e3=>?_⟩,fun y c e=>?_,I.free,I.freeC,fun p hp=>?_,tracked ⟨oL,hoL,I.free⟩ hs,by simpa using I.len⟩ ⟨_,hs,.inl rfl⟩
   · exact (hs.2 b (Nat.ne_of_lt (Nat.lt_of_lt_of_le (Heap.lt_size e) I.ok.above))).trans (I.base.keep b o e n hb hx)
   · obtain ⟨sl,e1⟩:=I.base.slot b o e n hb hx
     exact ⟨sl,(hs.2 b (Nat.ne_of_lt (Nat.lt_of_lt_of_le (Heap.lt_size e) I.ok.above))).trans e1⟩
   · obtain ⟨o',e1⟩:=I.base.there b o e hx
     exact ⟨o',(hs.2 b (Nat.ne_of_lt (Nat.lt_of_lt_of_le (Heap.lt_size e) I.ok.above))).trans e1⟩
   · by_cases hj:j=i
     · subst hj
       rw [hi]at e1;cases e1
       rw [List.getElem?_set_self hiσ]at e2
       cases e2
       exact ⟨u,r,.inl ⟨hk,by simp⟩⟩
     · rw [List.getElem?_set_ne (Ne.symm hj)]at e2
       obtain ⟨u',r',q⟩:=hl j y v' e1 e2 e3
       refine ⟨u',r',?_⟩
       rcases q with ⟨k,e⟩ | ⟨k,c,e,z⟩
       · refine .inl ⟨k,?_⟩
         have:y≠x:=fun e=>hj (nodup_ix hN e1 (e▸hi))
         simp [this,e]
       · exact .inr ⟨k,c,e,z.sameBut hs (cne y c e)⟩
   · obtain ⟨w',z⟩:=I.cell y c e
     exact ⟨w',z.sameBut hs (cne y c e)⟩
   · obtain ⟨e,n,ne,nf,d⟩:=I.pin p hp
     exact ⟨(hs.2 p.1 ne).trans e,n,ne,nf,d⟩
 · have hfn:X.fn x=true:=by
    rcases hf with z | z
    · exact z
    · rw [z]at hk;cases hk
   obtain ⟨c,hc⟩:=I.ok.has x (.inl hk)
   obtain ⟨w',z⟩:=I.cell x c hc
   refine wpAny_storeName_cell I.ok.kind hk hc z (fun h' hc' hs=>?_)
   obtain ⟨oc,hoc,hocd⟩:=id z
   refine h {s with heap:=h'} ⟨I.ok,I.os,I.bare,⟨fun b o e n hb hx=>?_,fun b o e n hb hx=>?_,I.base.free,fun b o e hx=>?_,I.base.tups,I.base.frzs,I.base.tbls⟩,⟨m,hn.sameBut hs (Ne.symm (cne x c hc)),fun j y v' e1 e2 e3=>?_⟩,fun y c' e=>?_,I.free,I.freeC,fun p hp=>?_,tracked ⟨oc,hoc,I.freeC x c hc⟩ hs,by simpa using I.len⟩ ⟨c,hs,.inr hc⟩
   · exact (hs.2 b (Nat.ne_of_lt (Nat.lt_of_lt_of_le (Heap.lt_size e) (I.ok.cab x c hfn hc)))).trans (I.base.keep b o e n hb hx)
   · obtain ⟨sl,e1⟩:=I.base.slot b o e n hb hx
     exact ⟨sl,(hs.2 b (Nat.ne_of_lt (Nat.lt_of_lt_of_le (Heap.lt_size e) (I.ok.cab x c hfn hc)))).trans e1⟩
   · obtain ⟨o',e1⟩:=I.base.there b o e hx
     exact ⟨o',(hs.2 b (Nat.ne_of_lt (Nat.lt_of_lt_of_le (Heap.lt_size e) (I.ok.cab x c hfn hc)))).trans e1⟩
   · by_cases hj:j=i
     · subst hj
       rw [hi]at e1;cases e1
       rw [List.getElem?_set_self hiσ]at e2
       cases e2
       exact ⟨u,r,.inr ⟨.inl hk,c,hc,hc'⟩⟩
     · rw [List.getElem?_set_ne (Ne.symm hj)]at e2
       obtain ⟨u',r',q⟩:=hl j y v' e1 e2 e3
       refine ⟨u',r',?_⟩
       rcases q with q | ⟨k,c',e,z'⟩
       · exact .inl q
       · refine .inr ⟨k,c',e,z'.sameBut hs ?_⟩
         rintro rfl
         exact hj (nodup_ix hN e1 (I.ok.inj _ _ _ e hc▸hi))
   · by_cases hcc:c'=c
     · subst hcc;exact ⟨_,hc'⟩
     · obtain ⟨w2,z2⟩:=I.cell y c' e
       exact ⟨w2,z2.sameBut hs hcc⟩
   · obtain ⟨e,n,ne,nf,d⟩:=I.pin p hp
     refine ⟨(hs.2 p.1 ?_).trans e,n,ne,nf,d⟩
     intro q
     rw [q,hoc]at e
     have q':oc=p.2:=Option.some.inj e
     exact d w' (by rw [← q'];exact hocd)
theorem store_ok{M:Model}{A:Around}{E:Value→Shared→Prop}{i:Nat}{x:Str}{v:V}{u:Value}{Q:Unit→Shared→Prop}(I:Inv X pins σ H s)(hN:X.N.Nodup)(hi:X.N[i]?=some x)(hx:Loc X.env.scope x)(r:RelV v u)
 (h:∀s',Inv X pins (σ.set i (some v)) H s'→Q () s') (hf:X.fn x=true∨X.env.scope.names.lookup x=some .local:=by first | exact .inl rfl | exact .inr rfl | assumption):wpAny M A (storeName X.env x u) Q E s:=
 store_ok2 I hN hi hx r (fun s' I' _=>h s' I') hf
theorem Inv.call'{s':Shared}{ch:List Addr}(I:Inv X pins σ H s)(ho:s'.os=s.os)(u:Un (frs X.stack) ch H H' s.heap s'.heap)(hok:HOk X.prog X.w H' s'.heap)(hg:AllBare s'.gens)
 (hch:∀b∈ch,(b∈X.ex∨X.s₀.heap.objs.size≤b)∧b≠X.env.locals∧(∀x c,X.env.cells.lookup x=some c→c≠b)∧∀p∈X.pn++pins,p.1≠b):Inv X pins σ H' s':=by
 obtain ⟨h',g',d',t',o'⟩:=s'
 have e:o'=s.os:=ho
 subst e
 exact I.call (g':=g') (t':=t') (d':=d') u hok hg hch
end
noncomputable abbrev XK:=Value→Option Addr→Hp→Prop
noncomputable abbrev St:=List (Option V)
noncomputable abbrev VK:=V→Hp→Prop
noncomputable abbrev TE:=St→Hp→VK→Prop
noncomputable abbrev TT:=St→Hp→(Bool→Hp→Prop)→Prop
noncomputable abbrev TA:=St→Hp→(List V→Hp→Prop)→Prop
structure Ends where
 nx:St→Hp→Prop
 rt:VK
 bk:St→Hp→Prop:=fun _ _=>False
 ct:St→Hp→Prop:=fun _ _=>False
noncomputable abbrev TS:=Ends→St→Hp→Prop
noncomputable def EP(X:Cx)(pins:List (Addr×Obj))(σ:St)(Q:VK)(u:Value)(s':Shared):Prop:=∃v H',Inv X pins σ H' s'∧RelV v u∧Q v H'
noncomputable def TP(X:Cx)(pins:List (Addr×Obj))(σ:St)(Q:Bool→Hp→Prop)(b:Bool)(s':Shared):Prop:=∃H',Inv X pins σ H' s'∧Q b H'
noncomputable def AP(X:Cx)(pins:List (Addr×Obj))(σ:St)(Q:List V→Hp→Prop)(us:List Value)(s':Shared):Prop:=∃vs H',Inv X pins σ H' s'∧Vals vs us∧Q vs H'
noncomputable def SP(X:Cx)(pins:List (Addr×Obj))(D:Ends)(f:Flow)(s':Shared):Prop:=
 match f with
 | .next=>∃σ' H',Inv X pins σ' H' s'∧D.nx σ' H'
 | .brk=>∃σ' H',Inv X pins σ' H' s'∧D.bk σ' H'
 | .cont=>∃σ' H',Inv X pins σ' H' s'∧D.ct σ' H'
 | .ret u=>∃v σ' H',Inv X pins σ' H' s'∧RelV v u∧D.rt v H'
noncomputable def PE(X:Cx)(e:Expr)(t:TE):Prop:=
 ∀(pins:List (Addr×Obj)) (s:Shared) (σ:St) (H:Hp) (Q:VK),Inv X pins σ H s→t σ H Q→wpAny (model X.prog X.w) X.A (eval e X.env) (EP X pins σ Q) X.xe s
noncomputable def PT(X:Cx)(e:Expr)(t:TT):Prop:=
 ∀(pins:List (Addr×Obj)) (s:Shared) (σ:St) (H:Hp) (Q:Bool→Hp→Prop),Inv X pins σ H s→t σ H Q→wpAny (model X.prog X.w) X.A (isTrue e X.env (eval e X.env)) (TP X pins σ Q) X.xe s
noncomputable def PW(X:Cx)(e:Expr)(t:TT):Prop:=
 ∀(whole:Sem Value) (pins:List (Addr×Obj)) (s:Shared) (σ:St) (H:Hp) (Q:Bool→Hp→Prop),Inv X pins σ H s→t σ H Q→wpAny (model X.prog X.w) X.A (isTrue e X.env whole) (TP X pins σ Q) X.xe s
theorem PW.pt{X:Cx}{e:Expr}{t:TT}(h:PW X e t):PT X e t:=h _
noncomputable def PA(X:Cx)(es:List Expr)(t:TA):Prop:=
 ∀(pos:Pos) (pins:List (Addr×Obj)) (s:Shared) (σ:St) (H:Hp) (Q:List V→Hp→Prop),Inv X pins σ H s→t σ H Q→wpAny (model X.prog X.w) X.A (spliced (backTo pos (starEach es X.env))) (AP X pins σ Q) X.xe s
noncomputable def PS(X:Cx)(st:Stmt)(t:TS):Prop:=
 ∀(pins:List (Addr×Obj)) (s:Shared) (σ:St) (H:Hp) (D:Ends),Inv X pins σ H s→t D σ H→wpAny (model X.prog X.w) X.A (exec st X.env) (SP X pins D) X.xe s
noncomputable def PSs(X:Cx)(st:List Stmt)(t:TS):Prop:=
 ∀(pins:List (Addr×Obj)) (s:Shared) (σ:St) (H:Hp) (D:Ends),Inv X pins σ H s→t D σ H→wpAny (model X.prog X.w) X.A (execs st X.env) (SP X pins D) X.xe s
theorem thn{α:Type}{t:Sem α}{Q Q':α→Shared→Prop}{M:Model}{A:Around}{E:Value→Shared→Prop}{s:Shared}(h:wpAny M A t Q E s)(hQ:∀a s,Q a s→Q' a s):wpAny M A t Q' E s:=wpAny_mono h hQ fun _ _ x=>x
end L2
namespace L2
section
variable {X:Cx}
noncomputable def tVar(i:Nat):TE:=fun σ H Q=>∃v,σ[i]?=some (some v)∧Q v H
noncomputable def tC(v:V):TE:=fun _ H Q=>Q v H
theorem pe_var{i:Nat}{x:Str}{pos:Pos}(hN:X.N[i]?=some x)(hv:Vis X.env.scope x)(hd:(x==("__debug__":Str))=false:=by decide)(hcd:(x==("__classdict__":Str))=false:=by decide):PE X (.Name x pos) (tVar i):=by
 intro pins s σ H Q I h
 obtain ⟨v,e,h⟩:=h
 obtain ⟨m,hn,hl⟩:=I.loc
 obtain ⟨u,r,l⟩:=hl i x v hN e hv
 have fin:EP X pins σ Q u s:=⟨v,H,I,r,h⟩
 rcases l with ⟨hk,hm⟩ | ⟨hk,c,hc,hcell⟩
 · exact wpAny_Name (wpAny_loadName_local I.ok.kind hk hn hm fin) hd
 · rcases hk with hk | hk
   · exact wpAny_Name (wpAny_loadName_cell I.ok.kind hk hc hcell fin) hd
   · exact wpAny_Name (wpAny_loadName_free I.ok.kind hk hc hcell fin hcd) hd
theorem pe_int{i j pos}:PE X (.Constant (.int i) j pos) (tC (.int i)):=fun _ _ _ H _ I h=>wpAny_Constant_int ⟨.int i,H,I.tok _,⟨_,rfl⟩,h⟩
theorem pe_bl{b j pos}:PE X (.Constant (.bool b) j pos) (tC (.bl b)):=fun _ _ _ H _ I h=>Constant_bool ⟨.bl b,H,I,rfl,h⟩
theorem pe_non{j pos}:PE X (.Constant .none j pos) (tC .non):=fun _ _ _ H _ I h=>Constant_none ⟨.non,H,I,rfl,h⟩
theorem pe_str{x j pos}:PE X (.Constant (.str x) j pos) (tC (.str x)):=fun _ _ _ H _ I h=>Calls.Constant_str ⟨.str x,H,I.tok _,⟨_,rfl⟩,h⟩
noncomputable def Gl(X:Cx)(x:Str):Prop:=X.env.kindOf x=some .globalImplicit
theorem ld_glob{E:Value→Shared→Prop}{pins:List (Addr×Obj)}{s:Shared}{σ:St}{H:Hp}{x:Str}{u:Value}{pos:Pos}{Q:Value→Shared→Prop}(I:Inv X pins σ H s)(hg:Gl X x)(hm:X.mg x=some u)(h:Q u s)
 (hd:(x==("__debug__":Str))=false:=by decide):wpAny (model X.prog X.w) X.A (eval (.Name x pos) X.env) Q E s:=
 Calls.Name_function_global I.ok.kind hg (Calls.loadGlobal_global (by rw [I.ok.glob];exact I.mod.glob.keeps I.bk) hm h) hd
theorem ld_blt{E:Value→Shared→Prop}{pins:List (Addr×Obj)}{s:Shared}{σ:St}{H:Hp}{x:Str}{u:Value}{pos:Pos}{Q:Value→Shared→Prop}(I:Inv X pins σ H s)(hg:Gl X x)(hm:X.mg x=none)(hv:bootBuiltins x=some u)(h:Q u s)
 (hn:x≠"__name__":=by decide) (hd:(x==("__debug__":Str))=false:=by decide):wpAny (model X.prog X.w) X.A (eval (.Name x pos) X.env) Q E s:=by
 obtain ⟨mb,h1,h2⟩:=I.mod.blt
 exact Calls.Name_function_global I.ok.kind hg (Calls.loadGlobal_builtin (by rw [I.ok.glob];exact I.mod.glob.keeps I.bk) hm (by rw [I.ok.blt];exact h1.keeps I.bk) ((h2 x hn).trans hv) h) hd
theorem pe_glob{x:Str}{v:V}{u:Value}{pos:Pos}(hg:Gl X x)(hm:X.mg x=some u)(r:RelV v u)(hd:(x==("__debug__":Str))=false:=by decide):PE X (.Name x pos) (tC v):=
 fun _ _ _ H _ I h=>ld_glob I hg hm ⟨v,H,I,r,h⟩ hd
theorem pe_bltn{x:Str}{v:V}{u:Value}{pos:Pos}(hg:Gl X x)(hm:X.mg x=none)(hv:bootBuiltins x=some u)(r:RelV v u)(hn:x≠"__name__":=by decide)(hd:(x==("__debug__":Str))=false:=by decide):PE X (.Name x pos) (tC v):=
 fun _ _ _ H _ I h=>ld_blt I hg hm hv ⟨v,H,I,r,h⟩ hn hd
variable {a b:Expr} {ta tb:TE} {pos:Pos}
noncomputable def PC(X:Cx)(op:CmpOp)(a b:Expr)(t:TE):Prop:=
 ∀(pins:List (Addr×Obj)) (s:Shared) (σ:St) (H:Hp) (Q:VK),Inv X pins σ H s→t σ H Q→
   wpAny (model X.prog X.w) X.A (eval a X.env) (fun v s₁=>wpAny (model X.prog X.w) X.A (eval b X.env) (fun u s₂=>wpAny (model X.prog X.w) X.A (compareOp op v u) (EP X pins σ Q) X.xe s₂) X.xe s₁) X.xe s
theorem nobehind(b:Expr){op:CmpOp}(h:op≠ .In)(h2:op≠ .NotIn):behindInMarks op b=false:=by
 have e1:(op==CmpOp.In)=false:=by cases op <;> first | rfl | exact absurd rfl h
 have e2:(op==CmpOp.NotIn)=false:=by cases op <;> first | rfl | exact absurd rfl h2
 cases b <;> simp [behindInMarks,e1,e2]
noncomputable def tB(t:TE):TT:=fun σ H Q=>t σ H fun x H1=>∃c,x= .bl c∧Q c H1
theorem pe_cmp{op:CmpOp}{t:TE}(h:PC X op a b t)(h1:behindInMarks op b=false:=by first | exact nobehind _ (by decide) (by decide) | rfl):PE X (.Compare a [op] [b] pos) t:=fun pins s σ H Q I hw=>wpAny_Compare1 (h pins s σ H Q I hw) h1
theorem pt_cmp{op:CmpOp}{t:TE}(h:PC X op a b t)(h1:behindInMarks op b=false:=by first | exact nobehind _ (by decide) (by decide) | rfl):PT X (.Compare a [op] [b] pos) (tB t):=by
 intro pins s σ H Q I hw
 refine wpAny_isTrue_Compare1 (thn (h pins s σ H _ I hw) fun v s1 h1=>thn h1 fun u s2 h2=>thn h2 fun c s3 hq_=>?_) h1
 obtain ⟨x,H1,I1,r1,q1⟩:=hq_
 obtain ⟨d,rfl,q⟩:=q1
 cases r1
 exact wpAny_truthy_bool ⟨H1,I1,q⟩
theorem pt_val{e:Expr}{t:TE}(h:PE X e t)(he:∀whole,isTrue e X.env whole=(do let v ← whole;standAt e.pos;holding [v] (truthy v)):=by intro _;rfl):PT X e (tB t):=by
 intro pins s σ H Q I hw
 refine isTrue_plain (thn (h pins s σ H _ I hw) fun v s1 hq_=>?_) (he _)
 obtain ⟨x,H1,I1,r1,q1⟩:=hq_
 obtain ⟨d,rfl,q⟩:=q1
 cases r1
 exact wpAny_truthy_bool ⟨H1,I1,q⟩
variable {tA tB':TT} {rest:List Expr}
noncomputable def tAnd(t u:TT):TT:=fun σ H Q=>t σ H fun c H1=>if c=true then u σ H1 Q else Q false H1
noncomputable def tOr(t u:TT):TT:=fun σ H Q=>t σ H fun c H1=>if c=true then Q true H1 else u σ H1 Q
noncomputable def tNot(t:TT):TT:=fun σ H Q=>t σ H fun c H1=>Q (!c) H1
theorem pw_and1(ha:PT X a tA):PW X (.BoolOp .And [a] pos) tA:=by
 intro wh pins s σ H Q I h
 refine isTrue_and (thn (ha pins s σ H Q I h) fun c s1 e=>?_)
 cases c with
 | true=>exact isTrue_and_nil e
 | false=>exact e
theorem pw_or1(ha:PT X a tA):PW X (.BoolOp .Or [a] pos) tA:=by
 intro wh pins s σ H Q I h
 refine isTrue_or (thn (ha pins s σ H Q I h) fun c s1 e=>?_)
 cases c with
 | false=>exact isTrue_or_nil e
 | true=>exact e
theorem pw_and(ha:PT X a tA)(hb:PW X (.BoolOp .And (b::rest) pos) tB'):PW X (.BoolOp .And (a::b::rest) pos) (tAnd tA tB'):=by
 intro wh pins s σ H Q I h
 refine isTrue_and (thn (ha pins s σ H _ I h) fun c s1 ⟨H1,I1,q1⟩=>?_)
 cases c with
 | true=>exact hb wh pins s1 σ H1 Q I1 q1
 | false=>exact ⟨H1,I1,q1⟩
theorem pw_or(ha:PT X a tA)(hb:PW X (.BoolOp .Or (b::rest) pos) tB'):PW X (.BoolOp .Or (a::b::rest) pos) (tOr tA tB'):=by
 intro wh pins s σ H Q I h
 refine isTrue_or (thn (ha pins s σ H _ I h) fun c s1 ⟨H1,I1,q1⟩=>?_)
 cases c with
 | true=>exact ⟨H1,I1,q1⟩
 | false=>exact hb wh pins s1 σ H1 Q I1 q1
theorem pt_not(ha:PT X a tA):PT X (.UnaryOp .Not a pos) (tNot tA):=by
 intro pins s σ H Q I h
 exact isTrue_not (ha pins s σ H (fun c H1=>Q (!c) H1) I h)
noncomputable def tAndV(ta tb:TE):TE:=fun σ H Q=>ta σ H fun x H1=>∃c,x= .bl c∧if c=true then tb σ H1 Q else Q (.bl false) H1
noncomputable def tOrV(ta tb:TE):TE:=fun σ H Q=>ta σ H fun x H1=>∃c,x= .bl c∧if c=true then Q (.bl true) H1 else tb σ H1 Q
noncomputable def tNotV(ta:TE):TE:=fun σ H Q=>ta σ H fun x H1=>∃c,x= .bl c∧Q (.bl (!c)) H1
theorem pe_one{op}{t:TE}(h:PE X a t):PE X (.BoolOp op [a] pos) t:=fun pins s σ H Q I hw=>BoolOp_one (h pins s σ H Q I hw)
theorem pe_and(ha:PE X a ta)(hb:PE X (.BoolOp .And (b::rest) pos) tb):PE X (.BoolOp .And (a::b::rest) pos) (tAndV ta tb):=by
 intro pins s σ H Q I h
 refine BoolOp_and (thn (ha pins s σ H _ I h) fun v s1 hq_=>?_)
 obtain ⟨x,H1,I1,r1,q1⟩:=hq_
 obtain ⟨c,rfl,q1⟩:=q1
 cases r1
 refine wpAny_truthy_bool ?_
 cases c with
 | true=>exact hb pins s1 σ H1 Q I1 q1
 | false=>exact ⟨.bl false,H1,I1,rfl,q1⟩
theorem pe_not(ha:PE X a ta):PE X (.UnaryOp .Not a pos) (tNotV ta):=by
 intro pins s σ H Q I h
 refine UnaryOp_ (thn (ha pins s σ H _ I h) fun v s1 hq_=>?_)
 obtain ⟨x,H1,I1,r1,q1⟩:=hq_
 obtain ⟨c,rfl,q1⟩:=q1
 cases r1
 exact not_of (wpAny_truthy_bool ⟨.bl (!c),H1,I1,rfl,q1⟩)
noncomputable def tIf(t:TT)(ta tb:TE):TE:=fun σ H Q=>t σ H fun c H1=>if c=true then ta σ H1 Q else tb σ H1 Q
end
end L2
namespace L2
noncomputable def SqL(K:PySem.W.Frag)(H:Hp)(a:Addr)(xs:List V):Prop:=
 Rd H a (.lst xs)∨
  ∃(o:Obj) (its:Array Value) (n:Nat),K.lookup a=some o∧o.cls= .type "list"∧o.dict=none∧o.data= .seq its n∧its.size≤sizeLine∧Vals xs its.toList
noncomputable def SqT(K:PySem.W.Frag)(H:Hp)(a:Addr)(xs:List V):Prop:=
 Rd H a (.tup xs)∨
  ∃(o:Obj) (its:Array Value) (n:Nat),K.lookup a=some o∧o.cls= .type "tuple"∧o.data= .seq its n∧its.size≤sizeLine∧Vals xs its.toList
noncomputable def absV:Value→Option V
 | .none=>some .non
 | .bool b=>some (.bl b)
 | .int i _=>some (.int i)
 | .str x _=>some (.str x)
 | .bytes b _=>some (.byt b)
 | .float b _=>some (.flt b)
 | .ref a=>some (.ref a)
 | .type n=>some (.ty n)
 | _=>none
theorem RelV.abs{x:V}{u:Value}(r:RelV x u):absV u=some x:=by
 cases x with
 | non=>cases r;rfl
 | bl _=>cases r;rfl
 | int _=>obtain ⟨t,rfl⟩:=r;rfl
 | str _=>obtain ⟨t,rfl⟩:=r;rfl
 | byt _=>obtain ⟨t,rfl⟩:=r;rfl
 | flt _=>obtain ⟨t,rfl⟩:=r;rfl
 | ref _=>cases r;rfl
 | ty _=>cases r;rfl
theorem RelV.inj{x y:V}{u:Value}(r:RelV x u)(q:RelV y u):x=y:=Option.some.inj (r.abs.symm.trans q.abs)
theorem Vals.inj:∀{xs ys:List V} {us:List Value},Vals xs us→Vals ys us→xs=ys
 | _,_,_,.nil,.nil=>rfl
 | _,_,_,.cons r t,.cons r' t'=>by rw [r.inj r',Vals.inj t t']
section
variable {X:Cx} {pins:List (Addr×Obj)} {σ:St} {H:Hp} {s:Shared} {a:Addr} {xs ys:List V}
theorem SqL.of{K:PySem.W.Frag}(h:H a=some (.lst xs)):SqL K H a xs:= .inl (.inl h)
theorem SqT.of{K:PySem.W.Frag}(h:H a=some (.tup xs)):SqT K H a xs:= .inl (.inl h)
theorem Inv.list(I:Inv X pins σ H s)(h:SqL X.K H a xs):∃its:List Value,Vals xs its∧PlainL s.heap a its.toArray∧xs.length≤sizeLine:=by
 rcases h with h | ⟨o,its,n,hk,hc,hd,hs,hz,r⟩
 · obtain ⟨z,its,n,r,e⟩:=h.ok I.hok
   exact ⟨its,r,⟨_,n,e,rfl,rfl,rfl⟩,z⟩
 · refine ⟨its.toList,r,⟨o,n,I.kIn a o hk,hc,hd,by simpa using hs⟩,?_⟩
   have e:=r.length
   simp only [Array.length_toList]at e
   omega
theorem Inv.tuple(I:Inv X pins σ H s)(h:SqT X.K H a xs):∃its:List Value,Vals xs its∧IsTup s.heap a its.toArray∧xs.length≤sizeLine:=by
 rcases h with h | ⟨o,its,n,hk,hc,hs,hz,r⟩
 · obtain ⟨z,its,r,p⟩:=h.ok I.hok
   exact ⟨its,r,p,z⟩
 · refine ⟨its.toList,r,⟨o,I.kIn a o hk,hc,n,by simpa using hs⟩,?_⟩
   have e:=r.length
   simp only [Array.length_toList]at e
   omega
theorem Inv.list_inj(I:Inv X pins σ H s)(h:SqL X.K H a xs)(h':SqL X.K H a ys):xs=ys:=by
 obtain ⟨its,r,⟨o,n,e,_,_,d⟩,_⟩:=I.list h
 obtain ⟨its',r',⟨o',n',e',_,_,d'⟩,_⟩:=I.list h'
 rw [e]at e';cases e'
 rw [d]at d'
 injection d' with d1 _
 have:its=its':=by simpa using congrArg Array.toList d1
 subst this
 exact r.inj r'
end
section
variable {X:Cx} {st:Stmt} {rest:List Stmt} {t u:TS} {e:Expr} {te:TE} {pos:Pos}
noncomputable def tNext:TS:=fun D σ H=>D.nx σ H
noncomputable def tSeq(t u:TS):TS:=fun D σ H=>t {D with nx:=u D} σ H
theorem pss_nil:PSs X [] tNext:=fun _ _ σ H _ I h=>wpAny_execs_nil ⟨σ,H,I,h⟩
theorem pss_cons(h1:PS X st t)(h2:PSs X rest u):PSs X (st::rest) (tSeq t u):=by
 intro pins s σ H D I h
 refine wpAny_execs_cons (thn (h1 pins s σ H {D with nx:=u D} I h) fun f s1 q=>?_)
 cases f with
 | next=>
  obtain ⟨σ',H',I',q⟩:=q
  exact h2 pins s1 σ' H' D I' q
 | ret v=>exact q
 | brk=>exact q
 | cont=>exact q
theorem pss_one(h1:PS X st t):PSs X [st] t:=by
 intro pins s σ H D I h
 refine wpAny_execs_cons (thn (h1 pins s σ H D I h) fun f s1 q=>?_)
 cases f with
 | next=>exact wpAny_execs_nil q
 | ret v=>exact q
 | brk=>exact q
 | cont=>exact q
noncomputable def tBreak:TS:=fun D σ H=>D.bk σ H
noncomputable def tCont:TS:=fun D σ H=>D.ct σ H
theorem Inv.quiet{pins:List (Addr×Obj)}{σ:St}{H:Hp}{s:Shared}(I:Inv X pins σ H s):interactive X.env=false:=by simp [interactive,I.ok.kind]
noncomputable def tDrop(te:TE):TS:=fun D σ H=>te σ H fun _ H1=>D.nx σ H1
theorem ps_expr(he:PE X e te)(hs:swapsWith e none pos.line X.env=pure false:=by rfl):PS X (.Expr e pos) (tDrop te):=by
 intro pins s σ H D I h
 exact wpAny_Expr_any (thn (he pins s σ H _ I h) fun v s1 ⟨x,H1,I1,r1,q1⟩=>⟨σ,H1,I1,q1⟩) I.quiet hs
noncomputable def tRet(te:TE):TS:=fun D σ H=>te σ H D.rt
theorem ps_ret(he:PE X e te):PS X (.Return (some e) pos) (tRet te):=by
 intro pins s σ H D I h
 exact wpAny_Return_some (thn (he pins s σ H _ I h) fun v s1 ⟨x,H1,I1,r1,q1⟩=>⟨x,σ,H1,I1,r1,q1⟩)
noncomputable def tRetN:TS:=fun D _ H=>D.rt .non H
noncomputable def tIfS(c:TT)(t u:TS):TS:=fun D σ H=>c σ H fun b H1=>if b=true then t D σ H1 else u D σ H1
theorem ps_if{c:Expr}{a b:List Stmt}{tc:TT}(hc:PT X c tc)(ha:PSs X a t)(hb:PSs X b u):PS X (.If c a b pos) (tIfS tc t u):=by
 intro pins s σ H D I h
 refine wpAny_If (thn (hc pins s σ H _ I h) fun d s1 ⟨H1,I1,q1⟩=>?_)
 cases d with
 | true=>exact ha pins s1 σ H1 D I1 q1
 | false=>exact hb pins s1 σ H1 D I1 q1
noncomputable def tNever:TS:=fun _ _ _=>False
theorem ps_never:PS X st tNever:=fun _ _ _ _ _ _ h=>h.elim
end
noncomputable abbrev TG:=V→St→Hp→(St→Hp→Prop)→Prop
noncomputable abbrev TGs:=List V→St→Hp→(St→Hp→Prop)→Prop
noncomputable def PG(X:Cx)(target:Expr)(t:TG):Prop:=
 ∀(pins:List (Addr×Obj)) (s:Shared) (σ:St) (H:Hp) (v:V) (u:Value) (Q:St→Hp→Prop),Inv X pins σ H s→RelV v u→t v σ H Q→
   wpAny (model X.prog X.w) X.A (assign target X.env u) (fun _ s'=>∃σ' H',Inv X pins σ' H' s'∧Q σ' H') X.xe s
noncomputable def PGs(X:Cx)(ts:List Expr)(t:TGs):Prop:=
 ∀(pins:List (Addr×Obj)) (s:Shared) (σ:St) (H:Hp) (vs:List V) (us:List Value) (Q:St→Hp→Prop),Inv X pins σ H s→Vals vs us→t vs σ H Q→
   wpAny (model X.prog X.w) X.A (assignInOrder ((assignEach ts X.env).map (·.2)) us) (fun _ s'=>∃σ' H',Inv X pins σ' H' s'∧Q σ' H') X.xe s
noncomputable abbrev TSet:=V→V→V→Hp→(Hp→Prop)→Prop
noncomputable def PSet(X:Cx)(t:TSet):Prop:=
 ∀(pins:List (Addr×Obj)) (s:Shared) (σ:St) (H:Hp) (o i v:V) (ov iv u:Value) (Q:Hp→Prop),Inv X pins σ H s→RelV o ov→RelV i iv→RelV v u→t o i v H Q→
   wpAny (model X.prog X.w) X.A (setItem ov iv u) (fun _ s'=>∃H',Inv X pins σ H' s'∧Q H') X.xe s
noncomputable abbrev TIp:=V→V→Hp→VK→Prop
section
variable {X:Cx} {pos:Pos}
noncomputable def gName(i:Nat):TG:=fun v σ H Q=>Q (σ.set i (some v)) H
theorem pg_name{i:Nat}{x:Str}(hN:X.N.Nodup)(hi:X.N[i]?=some x)(hx:Loc X.env.scope x)(hf:X.fn x=true∨X.env.scope.names.lookup x=some .local:=by first | exact .inl rfl | exact .inr rfl | assumption):PG X (.Name x pos) (gName i):=by
 intro pins s σ H v u Q I r h
 exact wpAny_assign_Name (store_ok I hN hi hx r (fun s' I'=>⟨_,H,I',h⟩) hf)
noncomputable def gNil:TGs:=fun vs σ H Q=>vs=[]∧Q σ H
noncomputable def gCons(t:TG)(u:TGs):TGs:=fun vs σ H Q=>∃v r,vs=v::r∧t v σ H fun σ' H'=>u r σ' H' Q
theorem pgs_nil:PGs X [] gNil:=by
 intro pins s σ H vs us Q I r h
 obtain ⟨e,h⟩:=h
 subst e
 cases r
 exact assignInOrder_nil ⟨σ,H,I,h⟩
theorem pgs_cons{e:Expr}{es:List Expr}{t:TG}{u:TGs}(h1:PG X e t)(h2:PGs X es u)
 (hs:(assignEach (e::es) X.env).map (·.2)=assign e X.env::(assignEach es X.env).map (·.2):=by rfl):PGs X (e::es) (gCons t u):=by
 intro pins s σ H vs us Q I r h
 obtain ⟨v,vr,e1,h⟩:=h
 subst e1
 cases r with
 | cons r rr=>
  rw [hs]
  refine assignInOrder_cons (thn (h1 pins s σ H _ _ _ I r h) fun _ s1 hq_=>?_)
  obtain ⟨σ1,H1,I1,q1⟩:=hq_
  exact h2 pins s1 σ1 H1 _ _ Q I1 rr q1
noncomputable def gTup(K:PySem.W.Frag)(n:Nat)(t:TGs):TG:=fun v σ H Q=>∃a xs,v= .ref a∧SqT K H a xs∧xs.length=n∧t xs σ H Q
theorem pg_tup{es:List Expr}{k:Nat}{t:TGs}{n:Nat}(hc:X.calm=true)(h:PGs X es t)
 (hn:(assignEach es X.env).length=n:=by rfl) (hst:(assignEach es X.env).findIdx? (·.1)=none:=by rfl):PG X (.Tuple es k pos) (gTup X.K n t):=by
 intro pins s σ H v u Q I r hw
 obtain ⟨a,xs,e1,hq,hl,hw⟩:=hw
 subst e1
 cases r
 obtain ⟨its,rv,ht,hz⟩:=I.tuple hq
 refine assign_Tuple_tuple (I.ok.hd hc) ht (by simp [hn,← hl,rv.length]) hst fun h' hx=>?_
 have I1:Inv X pins σ H {s with heap:=h'}:=I.kept (t':=s.toks) fun b o e=>hx b o (Nat.ne_of_lt (Heap.lt_size e)) e
 exact h pins _ σ H xs _ Q I1 (by simpa using rv) hw
noncomputable def gSub(to ti:TE)(t:TSet):TG:=fun v σ H Q=>to σ H fun o H1=>ti σ H1 fun i H2=>t o i v H2 fun H3=>Q σ H3
theorem pg_sub{o i:Expr}{to ti:TE}{t:TSet}(ho:PE X o to)(hi:PE X i ti)(hs:PSet X t)
 (ha:∀v,assign (.Subscript o i pos) X.env v=(do
  let ov ← holding [v] (eval o X.env)
  let iv ← holding [v,ov] (eval i X.env)
  standAt pos
  holding [v,ov,iv] (setItem ov iv v)
  release [v,ov,iv] []):=by intro _;rfl):PG X (.Subscript o i pos) (gSub to ti t):=by
 intro pins s σ H v u Q I r h
 rw [ha]
 refine wpAny_bind (wpAny_holding (thn (ho pins s σ H _ I h) fun ov s1 hq_=>?_))
 obtain ⟨x,H1,I1,r1,q1⟩:=hq_
 refine wpAny_bind (wpAny_holding (thn (hi pins s1 σ H1 _ I1 q1) fun iv s2 hq_=>?_))
 obtain ⟨y,H2,I2,r2,q2⟩:=hq_
 refine wpAny_bind (wpAny_standAt (wpAny_bind (wpAny_holding (thn (hs pins s2 σ H2 x y v ov iv u _ I2 r1 r2 r q2) fun _ s3 ⟨H3,I3,q3⟩=>?_))))
 exact wpAny_release ⟨σ,H3,I3,q3⟩
noncomputable def tAsg(te:TE)(g:TG):TS:=fun D σ H=>te σ H fun x H1=>g x σ H1 D.nx
theorem ps_asg{tg e:Expr}{te:TE}{g:TG}(he:PE X e te)(hg:PG X tg g)(hs:swapsWithSole [tg] e pos.line X.env=pure false:=by rfl)(hw:swappedStores [tg] e X.env=pure none:=by rfl)
 (h1:(assignEach [tg] X.env).map (·.2)=[assign tg X.env]:=by rfl):PS X (.Assign [tg] e pos) (tAsg te g):=by
 intro pins s σ H D I h
 refine wpAny_Assign_stores (thn (he pins s σ H _ I h) fun v s1 hq_=>?_) hs hw
 obtain ⟨x,H1,I1,r1,q1⟩:=hq_
 rw [h1]
 exact thn (hg pins s1 σ H1 x v _ I1 r1 q1) fun _ s2 q=>q
theorem ps_set{i:Nat}{x:Str}{e:Expr}{te:TE}{pos':Pos}(hN:X.N.Nodup)(hi:X.N[i]?=some x)(hx:Loc X.env.scope x)(he:PE X e te)(hs:swapsWith e (some (.Name x pos')) pos.line X.env=pure false:=by rfl)(hf:X.fn x=true∨X.env.scope.names.lookup x=some .local:=by first | exact .inl rfl | exact .inr rfl | assumption):
 PS X (.Assign [.Name x pos'] e pos) (tAsg te (gName i)):=by
 intro pins s σ H D I h
 refine wpAny_Assign_Name (thn (he pins s σ H _ I h) fun v s1 hq_=>?_) hs
 obtain ⟨y,H1,I1,r1,q1⟩:=hq_
 exact store_ok I1 hN hi hx r1 (fun s2 I2=>⟨_,H1,I2,q1⟩) hf
noncomputable def tPar(i j:Nat)(ta:TA):TS:=fun D σ H=>ta σ H fun vs H1=>∃v w,vs=[v,w]∧D.nx ((σ.set i (some v)).set j (some w)) H1
theorem ps_par{i j:Nat}{x y:Str}{a b:Expr}{ta:TA}{px py pt:Pos}{kt k2 pt2}(hc:X.calm=true)(hN:X.N.Nodup)(hi:X.N[i]?=some x)(hj:X.N[j]?=some y)(hij:i≠j)
 (hx:X.env.scope.names.lookup x=some .local) (hy:X.env.scope.names.lookup y=some .local) (ha:PA X [a,b] ta)
 (hw:swappedStores [.Tuple [.Name x px,.Name y py] kt pt] (.Tuple [a,b] k2 pt2) X.env=pure (some [x,y]))
 (hs:swapsWithSole [.Tuple [.Name x px,.Name y py] kt pt] (.Tuple [a,b] k2 pt2) pos.line X.env=pure false:=by rfl):
 PS X (.Assign [.Tuple [.Name x px,.Name y py] kt pt] (.Tuple [a,b] k2 pt2) pos) (tPar i j ta):=by
 intro pins s σ H D I h
 rw [exec_Assign_arm]
 refine wpAny_bind (wpAny_standAt ?_)
 rw [hs]
 refine wpAny_bind (wpAny_pure ?_)
 rw [if_neg (by decide)]
 refine wpAny_bind (Tuple_ (thn (ha _ pins s σ H _ I h) fun us s1 hq_=>?_))
 obtain ⟨vs,H1,I1,r1,q1⟩:=hq_
 obtain ⟨v,w,e1,q1⟩:=q1
 subst e1
 obtain ⟨u1,u2,rfl,rv,rw'⟩:∃u1 u2,us=[u1,u2]∧RelV v u1∧RelV w u2:=by
  cases r1 with
  | cons p q=>
   cases q with
   | cons p' q'=>
    cases q'
    exact ⟨_,_,rfl,p,p'⟩
 refine wpAny_newObj_type ?_ (by show 2≤sizeLine;decide)
 have I2:Inv X pins σ H1 {s1 with heap:=s1.heap.push {cls:= .type "tuple",data:= .seq [u1,u2].toArray}}:=I1.kept (t':=s1.toks) fun b o e=>Heap.get?_push_of_some _ e
 rw [hw]
 refine wpAny_bind (wpAny_pure ?_)
 show wpAny (model X.prog X.w) X.A (do rule "assign.swapped-stores";let items ← unpackItems (.ref s1.heap.objs.size) 2 none;assignInOrder [fun v=>bindName X.env y v,fun v=>bindName X.env x v] items.reverse;pure Flow.next) _ _ _
 refine wpAny_bind (wpAny_rule (wpAny_bind (unpackItems_tuple (items:=#[u1,u2]) (I.ok.hd hc) (IsTup.new s1.heap _) fun h' hx'=>?_)))
 have I3:=I2.kept (h':=h') (t':=s1.toks) fun b o e=>hx' b o (Nat.ne_of_lt (Heap.lt_size e)) e
 show wpAny _ _ (assignInOrder [fun v=>bindName X.env y v,fun v=>bindName X.env x v] [u2,u1] >>=fun _=>pure Flow.next) _ _ _
 refine wpAny_bind (assignInOrder_cons (wpAny_bindName (store_ok I3 hN hj (.inl hy) rw' (fun s2 I4=>?_) (.inr hy))))
 refine assignInOrder_cons (wpAny_bindName (store_ok I4 hN hi (.inl hx) rv (fun s3 I5=>assignInOrder_nil (wpAny_pure ?_)) (.inr hx)))
 rw [List.set_comm _ _ (Ne.symm hij)]at I5
 exact ⟨_,H1,I5,q1⟩
noncomputable def tAug(i:Nat)(te:TE)(ti:TIp):TS:=fun D σ H=>∃x,σ[i]?=some (some x)∧te σ H fun y H1=>ti x y H1 fun z H2=>D.nx (σ.set i (some z)) H2
noncomputable def ipI(f:Int→Int→Int):TIp:=fun x y H Q=>∃i j,x= .int i∧y= .int j∧Q (.int (f i j)) H
end
section
variable {X:Cx} {pos:Pos}
noncomputable def tWhile(c:TT)(tb:TS):TS:=fun D σ H=>∃W:Nat→St→Hp→Prop,(∃m,W m σ H)∧∀m σ H,W m σ H→
 c σ H fun b H1=>if b=true then ∃N:St→Hp→Prop,(∀σ' H',N σ' H'→∃m',m' < m∧W m' σ' H')∧tb {D with nx:=N,ct:=N,bk:=D.nx} σ H1 else D.nx σ H1
theorem ps_while{c:Expr}{body:List Stmt}{tc:TT}{tb:TS}(hp:PassesOwn (model X.prog X.w) X.A X.env X.xe)(hc:PT X c tc)(hb:PSs X body tb):PS X (.While c body [] pos) (tWhile tc tb):=by
 intro pins s σ H D I h
 obtain ⟨W,⟨m0,w0⟩,turn⟩:=h
 refine wpAny_While (codeAny_whileLoop (fun n s'=>∃σ' H',Inv X pins σ' H' s'∧W n σ' H') ?_ m0 ⟨σ,H,I,w0⟩)
 rintro n s1 ⟨σ1,H1,I1,w1⟩
 refine wpAny_passesOwn hp (thn (hc pins s1 σ1 H1 _ I1 (turn n σ1 H1 w1)) fun b s2 ⟨H2,I2,q2⟩=>?_)
 cases b with
 | true=>
  obtain ⟨N,hN,q2⟩:=q2
  rw [if_pos rfl]
  refine wpAny_passesOwn hp (thn (hb pins s2 σ1 H2 _ I2 q2) fun f s3 q3=>?_)
  cases f with
  | next=>
   obtain ⟨σ3,H3,I3,n3⟩:=q3
   obtain ⟨m',hm,w3⟩:=hN σ3 H3 n3
   exact ⟨m',hm,σ3,H3,I3,w3⟩
  | cont=>
   obtain ⟨σ3,H3,I3,n3⟩:=q3
   obtain ⟨m',hm,w3⟩:=hN σ3 H3 n3
   exact ⟨m',hm,σ3,H3,I3,w3⟩
  | brk=>exact q3
  | ret v=>exact q3
 | false=>
  rw [if_neg Bool.false_ne_true]
  exact wpAny_execs_nil ⟨σ1,H2,I2,q2⟩
end
structure It where
 go:Nat→Hp→Prop
 yld:Nat→Hp→V→Hp→Prop
 stop:Nat→Hp→Prop
noncomputable def FpOk(X:Cx)(pins:List (Addr×Obj))(H:Hp)(b:Addr):Prop:=
 H b=none∧b≠X.env.locals∧b∉X.fs∧(b∈X.ex∨X.s₀.heap.objs.size≤b)∧(∀x c,X.env.cells.lookup x=some c→c≠b)∧∀p∈X.pn++pins,p.1≠b
theorem Inv.fpOk{X:Cx}{pins:List (Addr×Obj)}{σ:St}{H H':Hp}{s:Shared}{b:Addr}(I:Inv X pins σ H s)(hb:s.heap.objs.size≤b)(hn:H' b=none):FpOk X pins H' b:=by
 refine ⟨hn,Nat.ne_of_gt (Nat.lt_of_lt_of_le I.lt hb),I.nofs hb,.inr (Nat.le_trans I.sz hb),fun x c e z=>?_,fun p hp z=>?_⟩
 · obtain ⟨v,q⟩:=I.cell x c e
   exact absurd (Nat.lt_of_lt_of_le q.lt (by rw [z];exact hb)) (Nat.lt_irrefl _)
 · exact absurd (Nat.lt_of_lt_of_le (Heap.lt_size (I.pin p hp).1) (by rw [z];exact hb)) (Nat.lt_irrefl _)
structure Turn(P:Program)(w:World)(K:PySem.W.Frag)(tg:Expr)(J:It)(fp:List Addr)(it:Addr)(tn:Nat→Heap→Prop):Prop where
 mem:it∈fp
 obj:∀i h,tn i h→∀b∈fp,∃o,h.get? b=some o∧∀v,o.data≠ .cell v
 keep:∀i h h',tn i h→(∀b∈fp,∀o,h.get? b=some o→h'.get? b=some o)→tn i h'
 item:∀(X:Cx),X.prog=P→X.w=w→X.K=K→X.calm=true→∀(i:Nat) (pins:List (Addr×Obj)) (s:Shared) (σ:St) (H:Hp) (E:Value→Shared→Prop),Inv X pins σ H s→(∀b∈fp,FpOk X pins H b)→tn i s.heap→J.go i H→
  wpAny (model P w) X.A (pyNext (.ref it)) (fun r s1=>∃u,r=some u∧
   wpAny (model P w) X.A (letOwnedTupleGo tg (.ref it) u) (fun _ s2=>∃x H',Inv X pins σ H' s2∧RelV x u∧J.yld i H x H'∧tn (i+1) s2.heap∧∀b∈fp,H' b=none) E s1) E s
 done:∀(X:Cx),X.prog=P→X.w=w→X.K=K→X.calm=true→∀(i:Nat) (pins:List (Addr×Obj)) (s:Shared) (σ:St) (H:Hp) (E:Value→Shared→Prop),Inv X pins σ H s→(∀b∈fp,FpOk X pins H b)→tn i s.heap→J.stop i H→
   wpAny (model P w) X.A (pyNext (.ref it)) (fun r s1=>r=none∧Inv X pins σ H s1) E s
 self:∀(A:Around) (i:Nat) (s:Shared) (Q:Value→Shared→Prop) (E:Value→Shared→Prop),tn i s.heap→Q (.ref it) s→wpAny (model P w) A (pyIter (.ref it)) Q E s
noncomputable abbrev TI:=St→Hp→(It→Hp→Prop)→Prop
noncomputable def PIE(X:Cx)(pins:List (Addr×Obj))(σ:St)(tg:Expr)(R:It→Hp→Prop)(itv:Value)(s2:Shared):Prop:=
 ∃(it:Addr) (fp:List Addr) (tn:Nat→Heap→Prop) (J:It) (H':Hp),itv= .ref it∧Inv X pins σ H' s2∧Turn X.prog X.w X.K tg J fp it tn∧tn 0 s2.heap∧(∀b∈fp,FpOk X pins H' b)∧R J H'
noncomputable def PI(X:Cx)(tg iter:Expr)(wi:TI):Prop:=
 ∀(pins:List (Addr×Obj)) (s:Shared) (σ:St) (H:Hp) (R:It→Hp→Prop),Inv X pins σ H s→wi σ H R→
   wpAny (model X.prog X.w) X.A (eval iter X.env) (fun v s1=>wpAny (model X.prog X.w) X.A (pyIter v) (PIE X pins σ tg R) X.xe s1) X.xe s
theorem go_of{M:Model}{A:Around}{E:Value→Shared→Prop}{s:Shared}{tg:Expr}{it:Addr}{u:Value}{o:Obj}{n:String}{vs:Array Value}{Q:Unit→Shared→Prop}(ho:s.heap.get? it=some o)(hc:o.cls= .type n)(hd:o.data= .fields vs)
 (hn:["enumerate","zip","dict_itemiterator","dict_reverseitemiterator","odict_iterator","itertools.zip_longest","itertools.pairwise"].contains n=false) (hQ:Q () s):wpAny M A (letOwnedTupleGo tg (.ref it) u) Q E s:=by
 unfold letOwnedTupleGo
 cases tg <;> first
  | exact wpAny_pure hQ
  | (cases u <;> first
   | exact wpAny_pure hQ
   | (refine wpAny_bind (wpAny_load ho ?_)
      rw [hc,hd]
      show wpAny M A (if (["enumerate","zip","dict_itemiterator","dict_reverseitemiterator","odict_iterator","itertools.zip_longest","itertools.pairwise"].contains n && vs[0]?==some (rawInt _))=true then _ else _) Q E s
      rw [if_neg (by intro h;rw [hn,Bool.false_and]at h;cases h)]
      exact wpAny_pure hQ))
noncomputable def Itl(K:PySem.W.Frag)(a:Addr):It:=
 ⟨fun i H=>∃xs x,SqL K H a xs∧xs[i]?=some x,fun i H x H'=>H'=H∧∀xs,SqL K H a xs→xs[i]?=some x,fun i H=>∃xs,SqL K H a xs∧xs.length≤i⟩
noncomputable def Itt(K:PySem.W.Frag)(a:Addr):It:=
 ⟨fun i H=>∃xs x,SqT K H a xs∧xs[i]?=some x,fun i H x H'=>H'=H∧∀xs,SqT K H a xs→xs[i]?=some x,fun i H=>∃xs,SqT K H a xs∧xs.length≤i⟩
noncomputable def Itr(lo:Int)(n:Nat):It:=⟨fun i _=>i < n,fun i H x H'=>H'=H∧x= .int (lo+i),fun i _=>n≤i⟩
theorem turn_list{P:Program}{w:World}{K:PySem.W.Frag}{tg:Expr}(a it:Addr):Turn P w K tg (Itl K a) [it] it (fun i h=>h.IsListIter it a i) where
 mem:=by simp
 obj:=fun i h st b hb=>by
  have e:b=it:=by simpa using hb
  subst e
  obtain ⟨o,e,c,d⟩:=st
  exact ⟨o,e,fun v z=>by rw [d]at z;cases z⟩
 keep:=fun i h h' st k=>st.at fun o e=>k it (by simp) o e
 item:=by
  intro X hP hw hK hc i pins s σ H E I hf st hg
  subst hP hw hK
  obtain ⟨xs,x,hq,hx⟩:=hg
  obtain ⟨its,rv,p,hz⟩:=I.list hq
  obtain ⟨u,hu,ru⟩:=rv.get hx
  obtain ⟨f0,f1,f2,f3,f4,f5⟩:=hf it (by simp)
  refine wpAny_pyNext_list_item st p.isList (x:=u) (by simpa using hu) fun h' st' sb=>?_
  have I1:Inv X pins σ H {s with heap:=h'}:=I.turned (t':=s.toks) (fun b o hb e=>(sb.2 b hb).trans e) f0 f1 f3 f4 f5
  obtain ⟨o,e,c,d⟩:=id st'
  exact ⟨u,rfl,go_of (s:={s with heap:=h'}) e c d (by decide) ⟨x,H,I1,ru,⟨rfl,fun ys hy=>by rw [I.list_inj hy hq];exact hx⟩,st',fun b hb=>(hf b hb).1⟩⟩
 done:=by
   intro X hP hw hK hc i pins s σ H E I hf st hg
   subst hP hw hK
   obtain ⟨xs,hq,hx⟩:=hg
   obtain ⟨its,rv,p,hz⟩:=I.list hq
   obtain ⟨f0,f1,f2,f3,f4,f5⟩:=hf it (by simp)
   have hl:=rv.length
   exact wpAny_pyNext_list_end (I.ok.hd hc) st p.isList (by simp;omega) fun h' eb=>⟨rfl,I.turned (t':=s.toks) (fun b o hb e=>eb b o hb e) f0 f1 f3 f4 f5⟩
 self:=fun _ _ _ _ _ st h=>wpAny_pyIter_listiter st h
theorem turn_range{P:Program}{w:World}{K:PySem.W.Frag}{tg:Expr}(it:Addr)(lo:Int)(n:Nat):Turn P w K tg (Itr lo n) [it] it (fun i h=>IsRangeIter h it (lo+(i:Nat) * 1) ((n:Int) - (i:Nat)) 1) where
 mem:=by simp
 obj:=fun i h st b hb=>by
  have e:b=it:=by simpa using hb
  subst e
  exact ⟨_,st,fun v z=>by
   have z':Data.fields _=Data.cell v:=z
   cases z'⟩
 keep:=fun i h h' st k=>k it (by simp) _ st
 item:=by
  intro X hP hw hK hc i pins s σ H E I hf st hg
  subst hP hw hK
  obtain ⟨f0,f1,f2,f3,f4,f5⟩:=hf it (by simp)
  have W:=Walks.range (prog:=X.prog) (w:=X.w) (I.ok.hd hc) it lo 1 n
  refine W.item i s _ _ hg st fun v h' tk hv st' kk=>?_
  obtain ⟨t,rfl⟩:=hv
  have I1:Inv X pins σ H {s with heap:=h',toks:=tk}:=I.turned (fun b o hb e=>kk b o (by simpa using hb) e) f0 f1 f3 f4 f5
  refine ⟨_,rfl,go_of (s:={s with heap:=h',toks:=tk}) (n:="range_iterator") st' rfl rfl (by decide) ⟨.int (lo+i),H,I1,⟨t,?_⟩,⟨rfl,rfl⟩,st',fun b hb=>(hf b hb).1⟩⟩
  rw [Int.mul_one]
 done:=by
   intro X hP hw hK hc i pins s σ H E I hf st hg
   subst hP hw hK
   obtain ⟨f0,f1,f2,f3,f4,f5⟩:=hf it (by simp)
   exact wpAny_pyNext_range_end (I.ok.hd hc) st (by have:n≤i:=hg;omega) fun h' eb=>⟨rfl,I.turned (t':=s.toks) (fun b o hb e=>eb b o hb e) f0 f1 f3 f4 f5⟩
 self:=fun _ _ _ _ _ st h=>wpAny_pyIter_rangeiter st h
end L2
namespace L2
section
variable {X:Cx} {tg:Expr}
noncomputable def iList(K:PySem.W.Frag)(tl:TE):TI:=fun σ H R=>tl σ H fun x H1=>∃a,x= .ref a∧(∃xs,SqL K H1 a xs)∧R (Itl K a) H1
noncomputable def iTup(K:PySem.W.Frag)(tl:TE):TI:=fun σ H R=>tl σ H fun x H1=>∃a,x= .ref a∧(∃xs,SqT K H1 a xs)∧R (Itt K a) H1
theorem pi_list{l:Expr}{tl:TE}(hl:PE X l tl):PI X tg l (iList X.K tl):=by
 intro pins s σ H R I h
 refine thn (hl pins s σ H _ I h) fun v s1 hq_=>?_
 obtain ⟨x,H1,I1,r1,q1⟩:=hq_
 obtain ⟨a,e,⟨xs,hq⟩,q⟩:=q1
 subst e
 cases r1
 obtain ⟨its,rv,p,hz⟩:=I1.list hq
 refine wpAny_pyIter_list p.isList ?_
 refine ⟨s1.heap.objs.size,[s1.heap.objs.size],_,_,H1,rfl,I1.kept (t':=s1.toks) fun b o e=>Heap.get?_push_of_some _ e,turn_list a _,⟨_,Heap.get?_push_size _ rfl,rfl,rfl⟩,fun b hb=>?_,q⟩
 have e:b=s1.heap.objs.size:=by simpa using hb
 subst e
 exact I1.fpOk (Nat.le_refl _) (I1.hok.fresh (Nat.le_refl _))
theorem range_it{pins:List (Addr×Obj)}{σ:St}{H:Hp}{s:Shared}{R:It→Hp→Prop}{E:Value→Shared→Prop}{lo hi:Int}{t u v:Tok}{tk:Nat}(I:Inv X pins σ H s)(h1:-(2 ^ 62)≤lo)(h2:lo < 2 ^ 62)(h3:-(2 ^ 62)≤hi)(h4:hi < 2 ^ 62)
 (q:R (Itr lo (hi - lo).toNat) H):wpAny (model X.prog X.w) X.A (pyIter (.ref s.heap.objs.size)) (PIE X pins σ tg R) E {s with heap:=s.heap.push {cls:= .type "range",data:= .fields #[.int lo t,.int hi u,.int 1 v]},toks:=tk}:=by
 refine wpAny_pyIter_range (IsRange.new ..) (small_one h1 h2 h3 h4) ?_
 have I1:Inv X pins σ H {s with heap:=s.heap.push {cls:= .type "range",data:= .fields #[.int lo t,.int hi u,.int 1 v]},toks:=tk}:=I.kept fun b o e=>Heap.get?_push_of_some _ e
 refine ⟨(s.heap.push {cls:= .type "range",data:= .fields #[.int lo t,.int hi u,.int 1 v]}).objs.size,[(s.heap.push {cls:= .type "range",data:= .fields #[.int lo t,.int hi u,.int 1 v]}).objs.size],_,_,H,rfl,
  I1.kept (t':=tk) fun b o e=>Heap.get?_push_of_some _ e,turn_range _ lo (hi - lo).toNat,?_,fun b hb=>?_,q⟩
 · have e1:lo+((0:Nat):Int) * 1=lo:=by simp
   have e2:(((hi - lo).toNat:Nat):Int) - ((0:Nat):Int)=Builtin.Range.rangeSize lo hi 1:=by rw [rangeSize_one];split <;> omega
   show IsRangeIter _ _ (lo+((0:Nat):Int) * 1) ((((hi - lo).toNat:Nat):Int) - ((0:Nat):Int)) 1
   rw [e1,e2]
   exact Heap.get?_push_size _ rfl
 · have e:b=(s.heap.push {cls:= .type "range",data:= .fields #[.int lo t,.int hi u,.int 1 v]}).objs.size:=by simpa using hb
   subst e
   exact I1.fpOk (Nat.le_refl _) (I1.hok.fresh (Nat.le_refl _))
noncomputable def iRng1(ta:TA):TI:=fun σ H R=>ta σ H fun vs H1=>∃j:Int,vs=[.int j]∧-(2 ^ 62)≤j∧j < 2 ^ 62∧R (Itr 0 j.toNat) H1
noncomputable def iRng2(ta:TA):TI:=fun σ H R=>ta σ H fun vs H1=>∃i j:Int,vs=[.int i,.int j]∧(-(2 ^ 62)≤i∧i < 2 ^ 62∧-(2 ^ 62)≤j∧j < 2 ^ 62)∧R (Itr i (j - i).toNat) H1
theorem pi_range1{a:Expr}{ta:TA}{p pos:Pos}(hg:Gl X "range")(hm:X.mg "range"=none)(ha:PA X [a] ta)(hs:starEach [a] X.env=[(false,eval a X.env)]:=by rfl):PI X tg (.Call (.Name "range" p) [a] [] pos) (iRng1 ta):=by
 intro pins s σ H R I h
 refine Call_ (ld_blt I hg hm boot_range (PyProof.Rows.callWith_type1 (thn (ha pos pins s σ H _ I h) fun us s1 hq_=>?_) hs rfl))
 obtain ⟨vs,H1,I1,r1,q1⟩:=hq_
 obtain ⟨j,e,q1,q2,q⟩:=q1
 subst e
 cases r1 with
 | cons r rr=>
  cases rr
  obtain ⟨t,rfl⟩:=r
  exact call_range_1 (range_it I1 (by omega) (by omega) q1 q2 (by simpa using q))
theorem pi_range2{a b:Expr}{ta:TA}{p pos:Pos}(hg:Gl X "range")(hm:X.mg "range"=none)(ha:PA X [a,b] ta)(hs:starEach [a,b] X.env=[(false,eval a X.env),(false,eval b X.env)]:=by rfl)(hs2:starEach [b] X.env=[(false,eval b X.env)]:=by rfl):
 PI X tg (.Call (.Name "range" p) [a,b] [] pos) (iRng2 ta):=by
 intro pins s σ H R I h
 refine Call_ (ld_blt I hg hm boot_range (PyProof.Rows.callWith_type1 (thn (ha pos pins s σ H _ I h) fun us s1 ⟨vs,H1,I1,r1,q1⟩=>?_) (by rw [hs,hs2]) (by rw [hs2];rfl)))
 obtain ⟨i,j,e,⟨q1,q2,q3,q4⟩,q⟩:=q1
 subst e
 cases r1 with
 | cons r rr=>
  cases rr with
  | cons r' rr=>
   cases rr
   obtain ⟨t,rfl⟩:=r
   obtain ⟨t',rfl⟩:=r'
   exact call_range_2 (range_it I1 q1 q2 q3 q4 q)
noncomputable def tFor(wi:TI)(g:TG)(tb:TS):TS:=fun D σ H=>wi σ H fun J H1=>∃W:Nat→Nat→St→Hp→Prop,(∃m,W 0 m σ H1)∧∀i m σ H,W i m σ H→
 (J.stop i H∧D.nx σ H)∨(J.go i H∧∃N:St→Hp→Prop,(∀σ' H',N σ' H'→∃m',m' < m∧W (i+1) m' σ' H')∧∀x H',J.yld i H x H'→g x σ H' fun σ2 H2=>tb {D with nx:=N,ct:=N,bk:=D.nx} σ2 H2)
noncomputable def pinsAt(fp:List Addr)(h:Heap):List (Addr×Obj):=fp.filterMap fun b=>(h.get? b).map fun o=>(b,o)
theorem mem_pinsAt{fp:List Addr}{h:Heap}{b:Addr}{o:Obj}(hb:b∈fp)(e:h.get? b=some o):(b,o)∈pinsAt fp h:=List.mem_filterMap.mpr ⟨b,hb,by rw [e];rfl⟩
theorem of_pinsAt{fp:List Addr}{h:Heap}{p:Addr×Obj}(hp:p∈pinsAt fp h):p.1∈fp∧h.get? p.1=some p.2:=by
 obtain ⟨b,hb,e⟩:=List.mem_filterMap.mp hp
 cases q:h.get? b with
 | none=>rw [q]at e;cases e
 | some o=>
  rw [q]at e
  have e':(b,o)=p:=Option.some.inj e
  subst e'
  exact ⟨hb,q⟩
theorem Inv.pinned{pins:List (Addr×Obj)}{σ:St}{H:Hp}{s:Shared}{fp:List Addr}(I:Inv X pins σ H s)(hf:∀b∈fp,FpOk X pins H b)(ho:∀b∈fp,∃o,s.heap.get? b=some o∧∀v,o.data≠ .cell v):Inv X (pins++pinsAt fp s.heap) σ H s:=
 I.pins_of fun p hp=>(List.mem_append.mp hp).elim (fun z=>I.pin p (List.mem_append_right _ z)) fun z=>by
  obtain ⟨hb,e⟩:=of_pinsAt z
  obtain ⟨f0,f1,f2,_⟩:=hf p.1 hb
  obtain ⟨o,e',d⟩:=ho p.1 hb
  rw [e]at e';cases e'
  exact ⟨e,f0,f1,f2,d⟩
theorem Inv.unpinned{pins pl:List (Addr×Obj)}{σ:St}{H:Hp}{s:Shared}(I:Inv X (pins++pl) σ H s):Inv X pins σ H s:=I.pins_of fun p hp=>I.pin p (List.mem_append_right _ (List.mem_append_left _ hp))
theorem ps_for{iter:Expr}{body:List Stmt}{wi:TI}{g:TG}{tb:TS}{pos:Pos}(hp:PassesOwn (model X.prog X.w) X.A X.env X.xe)(hc:X.calm=true)(hi:PI X tg iter wi)(hg:PG X tg g)(hb:PSs X body tb)
 (hs:∀x,foldedSetIterable iter X.env x=pure x:=by intro _;rfl):PS X (.For tg iter body [] pos) (tFor wi g tb):=by
 intro pins s σ H D I h
 refine wpAny_For (thn (hi pins s σ H _ I h) fun v s1 h1=>thn h1 fun itv s2 h2=>?_) hs
 obtain ⟨it,fp,tn,J,H2,e,I2,T,st2,f2,W,⟨m0,w0⟩,turn⟩:=h2
 subst e
 have stat:∀{H':Hp},(∀b∈fp,H' b=none)→∀b∈fp,FpOk X pins H' b:=fun hn b hb=>⟨hn b hb,(f2 b hb).2⟩
 refine codeAny_forLoop_any (fun n s'=>∃i σ' H',Inv X pins σ' H' s'∧tn i s'.heap∧(∀b∈fp,H' b=none)∧W i n σ' H') ?_ m0 ⟨0,σ,H2,I2,st2,fun b hb=>(f2 b hb).1,w0⟩
 rintro n s3 ⟨i,σ3,H3,I3,st3,fr3,w3⟩
 rcases turn i n σ3 H3 w3 with ⟨stop,qn⟩ | ⟨go,N,hN,step⟩
 · refine wpAny_passesOwn hp (thn (T.done X rfl rfl rfl hc i pins s3 σ3 H3 X.xe I3 (stat fr3) st3 stop) fun r s4 ⟨hr,I4⟩=>?_)
   subst hr
   exact wpAny_execs_nil ⟨σ3,H3,I4,qn⟩
 · refine wpAny_passesOwn hp (thn (T.item X rfl rfl rfl hc i pins s3 σ3 H3 X.xe I3 (stat fr3) st3 go) fun r s4 ⟨u,hr,h4⟩=>?_)
   subst hr
   refine wpAny_passesOwn hp (thn h4 fun _ s5 hq_=>?_)
   obtain ⟨x,H5,I5,r5,y5,st5,fr5⟩:=hq_
   have I5':=I5.pinned (stat fr5) (T.obj _ _ st5)
   refine wpAny_passesOwn hp (thn (hg _ s5 σ3 H5 x u _ I5' r5 (step x H5 y5)) fun _ s6 hq_=>?_)
   obtain ⟨σ6,H6,I6,q6⟩:=hq_
   refine wpAny_passesOwn hp (thn (hb _ s6 σ6 H6 _ I6 q6) fun f s7 q7=>?_)
   have again:∀{σ7:St} {H7:Hp},Inv X (pins++pinsAt fp s5.heap) σ7 H7 s7→N σ7 H7→∃m,m < n∧∃i σ' H',Inv X pins σ' H' s7∧tn i s7.heap∧(∀b∈fp,H' b=none)∧W i m σ' H':=fun {σ7 H7} I7 n7=>by
    obtain ⟨m',hm,w7⟩:=hN σ7 H7 n7
    refine ⟨m',hm,i+1,σ7,H7,I7.unpinned,T.keep _ _ _ st5 fun b hb o e=>(I7.pin (b,o) (List.mem_append_right _ (List.mem_append_right _ (mem_pinsAt hb e)))).1,fun b hb=>?_,w7⟩
    obtain ⟨o,e,d⟩:=T.obj _ _ st5 b hb
    exact (I7.pin (b,o) (List.mem_append_right _ (List.mem_append_right _ (mem_pinsAt hb e)))).2.1
   cases f with
   | next=>obtain ⟨σ7,H7,I7,n7⟩:=q7;exact again I7 n7
   | cont=>obtain ⟨σ7,H7,I7,n7⟩:=q7;exact again I7 n7
   | brk=>obtain ⟨σ7,H7,I7,q7⟩:=q7;exact ⟨σ7,H7,I7.unpinned,q7⟩
   | ret v=>obtain ⟨x7,σ7,H7,I7,r7,q7⟩:=q7;exact ⟨x7,σ7,H7,I7.unpinned,r7,q7⟩
end
theorem for_list{K:PySem.W.Frag}{a:Addr}{xs:List V}{g:TG}{tb:TS}{D:Ends}{σ:St}{H:Hp}(Pv:Nat→St→Hp→Prop)(h0:Pv 0 σ H)(hl:∀i σ H,i≤xs.length→Pv i σ H→SqL K H a xs)
 (hs:∀i x σ H,xs[i]?=some x→Pv i σ H→g x σ H fun σ2 H2=>tb {D with nx:=Pv (i+1),ct:=Pv (i+1),bk:=D.nx} σ2 H2) (hd:∀σ H,Pv xs.length σ H→D.nx σ H):
 ∃W:Nat→Nat→St→Hp→Prop,(∃m,W 0 m σ H)∧∀i m σ H,W i m σ H→
  ((Itl K a).stop i H∧D.nx σ H)∨((Itl K a).go i H∧∃N:St→Hp→Prop,(∀σ' H',N σ' H'→∃m',m' < m∧W (i+1) m' σ' H')∧∀x H',(Itl K a).yld i H x H'→g x σ H' fun σ2 H2=>tb {D with nx:=N,ct:=N,bk:=D.nx} σ2 H2):=by
 refine ⟨fun i m σ H=>m=xs.length - i∧i≤xs.length∧Pv i σ H,⟨xs.length,by simp,Nat.zero_le _,h0⟩,?_⟩
 rintro i m σ H ⟨rfl,hi,p⟩
 have q:=hl i σ H hi p
 by_cases hlt:i < xs.length
 · refine .inr ⟨⟨xs,xs[i],q,by simp [hlt]⟩,Pv (i+1),fun σ' H' p'=>⟨xs.length - (i+1),by omega,rfl,hlt,p'⟩,fun x H' y=>?_⟩
   obtain ⟨e,y⟩:=y
   subst e
   exact hs i x σ _ (y xs q) p
 · have e:i=xs.length:=by omega
   subst e
   exact .inl ⟨⟨xs,q,Nat.le_refl _⟩,hd σ H p⟩
theorem for_range{lo:Int}{n:Nat}{g:TG}{tb:TS}{D:Ends}{σ:St}{H:Hp}(Pv:Nat→St→Hp→Prop)(h0:Pv 0 σ H)
 (hs:∀i σ H,i < n→Pv i σ H→g (.int (lo+i)) σ H fun σ2 H2=>tb {D with nx:=Pv (i+1),ct:=Pv (i+1),bk:=D.nx} σ2 H2) (hd:∀σ H,Pv n σ H→D.nx σ H):
 ∃W:Nat→Nat→St→Hp→Prop,(∃m,W 0 m σ H)∧∀i m σ H,W i m σ H→
  ((Itr lo n).stop i H∧D.nx σ H)∨((Itr lo n).go i H∧∃N:St→Hp→Prop,(∀σ' H',N σ' H'→∃m',m' < m∧W (i+1) m' σ' H')∧∀x H',(Itr lo n).yld i H x H'→g x σ H' fun σ2 H2=>tb {D with nx:=N,ct:=N,bk:=D.nx} σ2 H2):=by
 refine ⟨fun i m σ H=>m=n - i∧i≤n∧Pv i σ H,⟨n,by simp,Nat.zero_le _,h0⟩,?_⟩
 rintro i m σ H ⟨rfl,hi,p⟩
 by_cases hlt:i < n
 · refine .inr ⟨hlt,Pv (i+1),fun σ' H' p'=>⟨n - (i+1),by omega,rfl,hlt,p'⟩,fun x H' y=>?_⟩
   obtain ⟨e,y⟩:=y
   subst e y
   exact hs i σ _ hlt p
 · have e:i=n:=by omega
   subst e
   exact .inl ⟨Nat.le_refl _,hd σ H p⟩
end L2
namespace L2
noncomputable abbrev R2:=V→V→Hp→VK→Prop
noncomputable def OpR(X:Cx)(f:Value→Value→Sem Value)(r:R2):Prop:=
 ∀(pins:List (Addr×Obj)) (s:Shared) (σ:St) (H:Hp) (x y:V) (v u:Value) (Q:VK),Inv X pins σ H s→RelV x v→RelV y u→r x y H Q→
   wpAny (model X.prog X.w) X.A (f v u) (EP X pins σ Q) X.xe s
noncomputable def UnR(X:Cx)(f:Value→Sem Value)(r:V→Hp→VK→Prop):Prop:=
 ∀(pins:List (Addr×Obj)) (s:Shared) (σ:St) (H:Hp) (x:V) (v:Value) (Q:VK),Inv X pins σ H s→RelV x v→r x H Q→
   wpAny (model X.prog X.w) X.A (f v) (EP X pins σ Q) X.xe s
noncomputable def CallR(X:Cx)(f:Value)(r:List V→Hp→VK→Prop):Prop:=
 ∀(pins:List (Addr×Obj)) (s:Shared) (σ:St) (H:Hp) (xs:List V) (us:List Value) (Q:VK),Inv X pins σ H s→Vals xs us→r xs H Q→
   wpAny (model X.prog X.w) X.A (call f us) (EP X pins σ Q) X.xe s
noncomputable def tOp(r:R2)(ta tb:TE):TE:=fun σ H Q=>ta σ H fun x H1=>tb σ H1 fun y H2=>r x y H2 Q
noncomputable def tUn(r:V→Hp→VK→Prop)(ta:TE):TE:=fun σ H Q=>ta σ H fun x H1=>r x H1 Q
noncomputable def rI(C:Int→Int→Prop)(g:Int→Int→V):R2:=fun x y H Q=>∃i j,x= .int i∧y= .int j∧C i j∧Q (g i j) H
noncomputable def rI0(g:Int→Int→V):R2:=fun x y H Q=>∃i j,x= .int i∧y= .int j∧Q (g i j) H
noncomputable def rU(g:Int→V):V→Hp→VK→Prop:=fun x H Q=>∃i,x= .int i∧Q (g i) H
section
variable {X:Cx} {a b c:Expr} {ta tb tc:TE} {pos:Pos}
theorem binT(ha:PE X a ta)(hb:PE X b tb){pins:List (Addr×Obj)}{s:Shared}{σ:St}{H:Hp}{R:V→V→Hp→Prop}(I:Inv X pins σ H s)
 (h:ta σ H fun x H1=>tb σ H1 fun y H2=>R x y H2) {Q:Value→Shared→Prop} {f:Value→Value→Sem Value}
 (hf:∀v u s2 x y H2,Inv X pins σ H2 s2→RelV x v→RelV y u→R x y H2→wpAny (model X.prog X.w) X.A (f v u) Q X.xe s2):
 wpAny (model X.prog X.w) X.A (eval a X.env) (fun v s₁=>wpAny (model X.prog X.w) X.A (eval b X.env) (fun u s₂=>wpAny (model X.prog X.w) X.A (f v u) Q X.xe s₂) X.xe s₁) X.xe s:=by
 refine thn (ha pins s σ H _ I h) fun v s1 hq_=>?_
 obtain ⟨x,H1,I1,r1,q1⟩:=hq_
 refine thn (hb pins s1 σ H1 _ I1 q1) fun u s2 hq_=>?_
 obtain ⟨y,H2,I2,r2,q2⟩:=hq_
 exact hf v u s2 x y H2 I2 r1 r2 q2
theorem pe_op{op:Operator}{r:R2}(ho:OpR X (binaryOp op) r)(ha:PE X a ta)(hb:PE X b tb):PE X (.BinOp a op b pos) (tOp r ta tb):=by
 intro pins s σ H Q I h
 exact wpAny_BinOp (binT ha hb I h fun v u s2 x y H2 I2 rx ry q=>ho pins s2 σ H2 x y v u Q I2 rx ry q)
theorem pe_un{op:UnaryOp}{r:V→Hp→VK→Prop}(ho:UnR X (unaryOp op) r)(ha:PE X a ta):PE X (.UnaryOp op a pos) (tUn r ta):=by
 intro pins s σ H Q I h
 exact UnaryOp_ (thn (ha pins s σ H _ I h) fun v s1 ⟨x,H1,I1,r1,q1⟩=>ho pins s1 σ H1 x v Q I1 r1 q1)
theorem opI{f:Value→Value→Sem Value}{C:Int→Int→Prop}{g:Int→Int→Int}
 (rule:∀(i j:Int) (t u:Tok) (s:Shared) (Q:Value→Shared→Prop) (E:Value→Shared→Prop),C i j→Q (.int (g i j) s.toks) {s with toks:=s.toks+1}→wpAny (model X.prog X.w) X.A (f (.int i t) (.int j u)) Q E s):
 OpR X f (rI C fun i j=> .int (g i j)):=by
 intro pins s σ H x y v u Q I rx ry h
 obtain ⟨i,j,rfl,rfl,hc,q⟩:=h
 obtain ⟨t,rfl⟩:=rx
 obtain ⟨t',rfl⟩:=ry
 exact rule i j t t' s _ _ hc ⟨.int (g i j),H,I.tok _,⟨_,rfl⟩,q⟩
theorem opI0{f:Value→Value→Sem Value}{g:Int→Int→Int}
 (rule:∀(i j:Int) (t u:Tok) (s:Shared) (Q:Value→Shared→Prop) (E:Value→Shared→Prop),Q (.int (g i j) s.toks) {s with toks:=s.toks+1}→wpAny (model X.prog X.w) X.A (f (.int i t) (.int j u)) Q E s):
 OpR X f (rI0 fun i j=> .int (g i j)):=by
 intro pins s σ H x y v u Q I rx ry h
 obtain ⟨i,j,rfl,rfl,q⟩:=h
 obtain ⟨t,rfl⟩:=rx
 obtain ⟨t',rfl⟩:=ry
 exact rule i j t t' s _ _ ⟨.int (g i j),H,I.tok _,⟨_,rfl⟩,q⟩
theorem opB0{f:Value→Value→Sem Value}{g:Int→Int→Bool}
 (rule:∀(i j:Int) (t u:Tok) (s:Shared) (Q:Value→Shared→Prop) (E:Value→Shared→Prop),Q (.bool (g i j)) s→wpAny (model X.prog X.w) X.A (f (.int i t) (.int j u)) Q E s):
 OpR X f (rI0 fun i j=> .bl (g i j)):=by
 intro pins s σ H x y v u Q I rx ry h
 obtain ⟨i,j,rfl,rfl,q⟩:=h
 obtain ⟨t,rfl⟩:=rx
 obtain ⟨t',rfl⟩:=ry
 exact rule i j t t' s _ _ ⟨.bl (g i j),H,I,rfl,q⟩
noncomputable def CDiv(i j:Int):Prop:=0 < j∧j < 1073741824
noncomputable def CPow(i j:Int):Prop:=0≤j∧j≤1000000∧i.natAbs < 2 ^ 64
noncomputable def CMul(i j:Int):Prop:=(-(2 ^ 64) < i∧i < 2 ^ 64)∨(-(2 ^ 64) < j∧j < 2 ^ 64)
theorem CMul.ok{i j:Int}(h:CMul i j):IntMulOk i j:=by
 rcases h with ⟨h1,h2⟩ | ⟨h1,h2⟩
 · exact .of_left (intBits_le_64 h1 h2)
 · exact .of_right (intBits_le_64 h1 h2)
theorem op_add:OpR X (binaryOp .Add) (rI0 fun i j=> .int (i+j)):=opI0 fun _ _ _ _ _ _ _ q=>add_int q
theorem op_sub:OpR X (binaryOp .Sub) (rI0 fun i j=> .int (i - j)):=opI0 fun _ _ _ _ _ _ _ q=>sub_int q
theorem op_mul:OpR X (binaryOp .Mult) (rI CMul fun i j=> .int (i * j)):=opI fun _ _ _ _ _ _ _ hc q=>mul_int q hc.ok
theorem op_fdiv:OpR X (binaryOp .FloorDiv) (rI CDiv fun i j=> .int (i / j)):=opI fun i j _ _ _ _ _ hc q=>by
 have h1:(0:Int) < j:=hc.1
 have h2:j < 1073741824:=hc.2
 exact floordiv_int (by omega) (by rw [Int.fdiv_eq_ediv_of_nonneg i (by omega)];exact q) (.inl (PyProof.noPylong_small (by omega)))
theorem op_mod:OpR X (binaryOp .Mod) (rI (fun _ j=>0 < j) fun i j=> .int (i % j)):=opI fun i j _ _ _ _ _ hc q=>by
 have h1:(0:Int) < j:=hc
 exact mod_int' (by omega) (by rw [Int.fmod_eq_emod_of_nonneg i (by omega)];exact q)
theorem op_pow:OpR X (binaryOp .Pow) (rI CPow fun i j=> .int (i ^ j.toNat)):=opI fun _ _ _ _ _ _ _ hc q=>pow_int_small hc.1 hc.2.1 hc.2.2 q
theorem unI{f:Value→Sem Value}{g:Int→Int}
 (rule:∀(i:Int) (t:Tok) (s:Shared) (Q:Value→Shared→Prop) (E:Value→Shared→Prop),Q (.int (g i) s.toks) {s with toks:=s.toks+1}→wpAny (model X.prog X.w) X.A (f (.int i t)) Q E s):
 UnR X f (rU fun i=> .int (g i)):=by
 intro pins s σ H x v Q I rx h
 obtain ⟨i,rfl,q⟩:=h
 obtain ⟨t,rfl⟩:=rx
 exact rule i t s _ _ ⟨.int (g i),H,I.tok _,⟨_,rfl⟩,q⟩
theorem un_neg:UnR X (unaryOp .USub) (rU fun i=> .int (-i)):=unI fun _ _ _ _ _ q=>neg_int q
end
noncomputable def scal:V→V→Bool
 | .non,.non=>true | .non,.int _=>true | .int _,.non=>true | .non,.bl _=>true | .bl _,.non=>true | .non,.str _=>true | .str _,.non=>true
 | .int _,.int _=>true | .bl _,.bl _=>true | .str _,.str _=>true | .byt _,.byt _=>true
 | .int _,.str _=>true | .str _,.int _=>true | .bl _,.str _=>true | .str _,.bl _=>true
 | _,_=>false
noncomputable def rEq:R2:=fun x y H Q=>scal x y=true∧Q (.bl (decide (x=y))) H
noncomputable def rNe:R2:=fun x y H Q=>scal x y=true∧Q (.bl (!decide (x=y))) H
theorem dec_int{i j:Int}:decide (V.int i=V.int j)=(i==j):=by
 rw [Bool.eq_iff_iff]
 simp
theorem dec_bl{i j:Bool}:decide (V.bl i=V.bl j)=(i==j):=by
 rw [Bool.eq_iff_iff]
 simp
theorem dec_str{i j:Str}:decide (V.str i=V.str j)=(i==j):=by
 rw [Bool.eq_iff_iff]
 simp
theorem dec_byt{i j:Array UInt8}:decide (V.byt i=V.byt j)=(i.toList==j.toList):=by
 rw [Bool.eq_iff_iff]
 cases i
 cases j
 simp
section
variable {X:Cx} {a b c:Expr} {ta tb tc:TE} {pos:Pos}
theorem fin_bl{pins:List (Addr×Obj)}{σ:St}{H:Hp}{s:Shared}{Q:VK}{k k':Bool}(I:Inv X pins σ H s)(q:Q (.bl k) H)(e:k=k'):EP X pins σ Q (.bool k') s:=by
 subst e
 exact ⟨.bl k,H,I,rfl,q⟩
theorem op_eq:OpR X (compareOp .Eq) rEq:=by
 intro pins s σ H x y v u Q I rx ry h
 obtain ⟨hs,q⟩:=h
 cases x with
 | non=>
  cases rx
  cases y with
  | non=>cases ry;exact PySem.EqNone.eq_none_none (fin_bl I q (by simp))
  | bl j=>cases ry;exact PySem.EqNone.eq_none_bool (fin_bl I q (by simp))
  | int j=>obtain ⟨t',rfl⟩:=ry;exact PySem.EqNone.eq_none_int (fin_bl I q (by simp))
  | str j=>obtain ⟨t',rfl⟩:=ry;exact PySem.EqNone.eq_none_str (fin_bl I q (by simp))
  | _=>exact absurd (show false=true from hs) Bool.false_ne_true
 | bl i=>
  cases rx
  cases y with
  | non=>cases ry;exact PySem.EqNone.eq_bool_none (fin_bl I q (by simp))
  | bl j=>cases ry;exact eq_bool (fin_bl I q dec_bl)
  | str j=>obtain ⟨t',rfl⟩:=ry;exact PySem.EqMixed.eq_bool_str (fin_bl I q (by simp))
  | _=>exact absurd (show false=true from hs) Bool.false_ne_true
 | int i=>
  obtain ⟨t,rfl⟩:=rx
  cases y with
  | non=>cases ry;exact PySem.EqNone.eq_int_none (fin_bl I q (by simp))
  | int j=>obtain ⟨t',rfl⟩:=ry;exact eq_int (fin_bl I q dec_int)
  | str j=>obtain ⟨t',rfl⟩:=ry;exact PySem.EqMixed.eq_int_str (fin_bl I q (by simp))
  | _=>exact absurd (show false=true from hs) Bool.false_ne_true
 | str i=>
  obtain ⟨t,rfl⟩:=rx
  cases y with
  | non=>cases ry;exact PySem.EqNone.eq_str_none (fin_bl I q (by simp))
  | bl j=>cases ry;exact PySem.EqMixed.eq_str_bool (fin_bl I q (by simp))
  | int j=>obtain ⟨t',rfl⟩:=ry;exact PySem.EqMixed.eq_str_int (fin_bl I q (by simp))
  | str j=>obtain ⟨t',rfl⟩:=ry;exact eq_str (fin_bl I q dec_str)
  | _=>exact absurd (show false=true from hs) Bool.false_ne_true
 | byt i=>
  obtain ⟨t,rfl⟩:=rx
  cases y with
  | byt j=>obtain ⟨t',rfl⟩:=ry;exact PySem.W.eq_bytes (fin_bl I q dec_byt)
  | _=>exact absurd (show false=true from hs) Bool.false_ne_true
 | _=>cases y <;> exact absurd (show false=true from hs) Bool.false_ne_true
theorem op_ne:OpR X (compareOp .NotEq) rNe:=by
 intro pins s σ H x y v u Q I rx ry h
 obtain ⟨hs,q⟩:=h
 cases x with
 | non=>
  cases rx
  cases y with
  | non=>cases ry;exact PySem.EqNone.ne_none_none (fin_bl I q (by simp))
  | bl j=>cases ry;exact PySem.EqNone.ne_none_bool (fin_bl I q (by simp))
  | int j=>obtain ⟨t',rfl⟩:=ry;exact PySem.EqNone.ne_none_int (fin_bl I q (by simp))
  | str j=>obtain ⟨t',rfl⟩:=ry;exact PySem.EqNone.ne_none_str (fin_bl I q (by simp))
  | _=>exact absurd (show false=true from hs) Bool.false_ne_true
 | bl i=>
  cases rx
  cases y with
  | non=>cases ry;exact PySem.EqNone.ne_bool_none (fin_bl I q (by simp))
  | bl j=>cases ry;exact ne_bool (fin_bl I q (congrArg not dec_bl))
  | str j=>obtain ⟨t',rfl⟩:=ry;exact PySem.EqMixed.ne_bool_str (fin_bl I q (by simp))
  | _=>exact absurd (show false=true from hs) Bool.false_ne_true
 | int i=>
  obtain ⟨t,rfl⟩:=rx
  cases y with
  | non=>cases ry;exact PySem.EqNone.ne_int_none (fin_bl I q (by simp))
  | int j=>obtain ⟨t',rfl⟩:=ry;exact ne_int (fin_bl I q (congrArg not dec_int))
  | str j=>obtain ⟨t',rfl⟩:=ry;exact PySem.EqMixed.ne_int_str (fin_bl I q (by simp))
  | _=>exact absurd (show false=true from hs) Bool.false_ne_true
 | str i=>
  obtain ⟨t,rfl⟩:=rx
  cases y with
  | non=>cases ry;exact PySem.EqNone.ne_str_none (fin_bl I q (by simp))
  | bl j=>cases ry;exact PySem.EqMixed.ne_str_bool (fin_bl I q (by simp))
  | int j=>obtain ⟨t',rfl⟩:=ry;exact PySem.EqMixed.ne_str_int (fin_bl I q (by simp))
  | str j=>obtain ⟨t',rfl⟩:=ry;exact ne_str (fin_bl I q (congrArg not dec_str))
  | _=>exact absurd (show false=true from hs) Bool.false_ne_true
 | byt i=>
  obtain ⟨t,rfl⟩:=rx
  cases y with
  | byt j=>obtain ⟨t',rfl⟩:=ry;exact PySem.W.ne_bytes (fin_bl I q (congrArg not dec_byt))
  | _=>exact absurd (show false=true from hs) Bool.false_ne_true
 | _=>cases y <;> exact absurd (show false=true from hs) Bool.false_ne_true
theorem op_lt:OpR X (compareOp .Lt) (rI0 fun i j=> .bl (decide (i < j))):=opB0 fun _ _ _ _ _ _ _ q=>lt_int q
theorem op_le:OpR X (compareOp .LtE) (rI0 fun i j=> .bl (decide (i≤j))):=opB0 fun _ _ _ _ _ _ _ q=>le_int q
theorem op_gt:OpR X (compareOp .Gt) (rI0 fun i j=> .bl (decide (j < i))):=opB0 fun _ _ _ _ _ _ _ q=>gt_int q
theorem op_in_str:OpR X (compareOp .In) (fun x y H Q=>∃i j,x= .str i∧y= .str j∧Q (.bl (!(Builtin.Str.occurrences j i 0 j.length 1).isEmpty)) H):=by
 intro pins s σ H x y v u Q I rx ry h
 obtain ⟨i,j,rfl,rfl,q⟩:=h
 obtain ⟨t,rfl⟩:=rx
 obtain ⟨t',rfl⟩:=ry
 exact in_str (fin_bl I q rfl)
theorem op_isN:OpR X (compareOp .Is) (fun x y H Q=>y= .non∧Q (.bl (decide (x= .non))) H):=by
 intro pins s σ H x y v u Q I rx ry h
 obtain ⟨rfl,q⟩:=h
 cases ry
 refine is_none_gen (fin_bl I q ?_)
 cases x <;> first
  | (cases rx;rfl)
  | (obtain ⟨t,rfl⟩:=rx;rfl)
theorem nomark(b:Expr){op:CmpOp}(h:op≠ .In:=by decide)(h2:op≠ .NotIn:=by decide):behindInMarks op b=false:=by
 have e1:(op==CmpOp.In)=false:=by cases op <;> first | rfl | exact absurd rfl h
 have e2:(op==CmpOp.NotIn)=false:=by cases op <;> first | rfl | exact absurd rfl h2
 cases b <;> simp [behindInMarks,e1,e2]
theorem pe_cmpR{op:CmpOp}{r:R2}(ho:OpR X (compareOp op) r)(ha:PE X a ta)(hb:PE X b tb)(hm:behindInMarks op b=false):PE X (.Compare a [op] [b] pos) (tOp r ta tb):=by
 intro pins s σ H Q I h
 exact wpAny_Compare1 (binT ha hb I h fun v u s2 x y H2 I2 rx ry q=>ho pins s2 σ H2 x y v u Q I2 rx ry q) hm
noncomputable def tTest(t:TE):TT:=fun σ H Q=>t σ H fun x H'=>∃k,x= .bl k∧Q k H'
theorem pt_cmpR{op:CmpOp}{r:R2}(ho:OpR X (compareOp op) r)(ha:PE X a ta)(hb:PE X b tb)(hm:behindInMarks op b=false):PT X (.Compare a [op] [b] pos) (tTest (tOp r ta tb)):=by
 intro pins s σ H Q I h
 refine wpAny_isTrue_Compare1 (thn (ha pins s σ H _ I h) fun v s1 ⟨x,H1,I1,r1,q1⟩=>thn (hb pins s1 σ H1 _ I1 q1) fun u s2 ⟨y,H2,I2,r2,q2⟩=>
  thn (ho pins s2 σ H2 x y v u _ I2 r1 r2 q2) fun c s3 ⟨z,H3,I3,r3,k,e,q3⟩=>?_) hm
 subst e
 cases r3
 exact wpAny_truthy_bool ⟨H3,I3,q3⟩
noncomputable def tChain(r r':R2)(ta tb tc:TE):TE:=fun σ H Q=>ta σ H fun x H1=>tb σ H1 fun y H2=>r x y H2 fun z H3=>∃k,z= .bl k∧
 (if k=true then tc σ H3 fun w' H4=>r' y w' H4 Q else Q (.bl false) H3)
theorem pe_chain{op op':CmpOp}{r r':R2}(ho:OpR X (compareOp op) r)(ho':OpR X (compareOp op') r')(ha:PE X a ta)(hb:PE X b tb)(hc:PE X c tc)
 (hm:lastMarks [op,op'] [b,c]=false:=by with_unfolding_all rfl):PE X (.Compare a [op,op'] [b,c] pos) (tChain r r' ta tb tc):=by
 intro pins s σ H Q I h
 refine Compare_chain (thn (ha pins s σ H _ I h) fun v s1 ⟨x,H1,I1,r1,q1⟩=>chain_link (thn (hb pins s1 σ H1 _ I1 q1) fun u s2 ⟨y,H2,I2,r2,q2⟩=>
  thn (ho pins s2 σ H2 x y v u _ I2 r1 r2 q2) fun d s3 ⟨z,H3,I3,r3,k,e,q3⟩=>?_)) hm
 subst e
 cases r3
 refine wpAny_truthy_bool ?_
 cases k with
 | false=>exact ite_ff ⟨.bl false,H3,I3,rfl,q3⟩
 | true=>exact ite_tt (chain_last (thn (hc pins s3 σ H3 _ I3 q3) fun w' s4 ⟨z',H4,I4,r4,q4⟩=>ho' pins s4 σ H4 y z' u w' Q I4 r2 r4 q4))
theorem line63:(sizeLine:Nat) < 2 ^ 63:=by rw [sizeLine_eq];decide
theorem op_add_str:OpR X (binaryOp .Add) (fun x y H Q=>∃i j,x= .str i∧y= .str j∧i.length+j.length≤sizeLine∧Q (.str (i++j)) H):=by
 intro pins s σ H x y v u Q I rx ry h
 obtain ⟨i,j,rfl,rfl,hz,q⟩:=h
 obtain ⟨t,rfl⟩:=rx
 obtain ⟨t',rfl⟩:=ry
 exact add_str (fun t' tk=>⟨.str (i++j),H,I.tok _,⟨_,rfl⟩,q⟩) hz
theorem vals1{x:V}{us:List Value}(r:Vals [x] us):∃u,us=[u]∧RelV x u:=by
 cases r with
 | cons r1 r2=>cases r2;exact ⟨_,rfl,r1⟩
theorem vals2{x y:V}{us:List Value}(r:Vals [x,y] us):∃u w',us=[u,w']∧RelV x u∧RelV y w':=by
 cases r with
 | cons r1 r2=>
  cases r2 with
  | cons r3 r4=>cases r4;exact ⟨_,_,rfl,r1,r3⟩
theorem call_abs:CallR X (.builtin "abs") (fun xs H Q=>∃i,xs=[.int i]∧Q (.int (if i < 0 then -i else i)) H):=by
 intro pins s σ H xs us Q I r h
 obtain ⟨i,rfl,q⟩:=h
 obtain ⟨u,rfl,t,rfl⟩:=vals1 r
 exact call_abs_int fun u tk=>⟨.int (if i < 0 then -i else i),H,I.tok _,⟨_,rfl⟩,q⟩
end
end L2
namespace L2
structure ObjM(h:Heap)(x dx C:Addr)(mA:Str→Option Value):Prop where
 obj:h.get? x=some (PySem.W.instObj C dx)
 ns:h.Ns1 dx mA
 ne:dx≠x
theorem lookIn_ns{h:Heap}{dx:Addr}{mA:Str→Option Value}(n:h.Ns1 dx mA):∃od,h.get? dx=some od∧∀name,PySem.W.lookIn name od=some (mA name):=by
 obtain ⟨o,es,ep,ho,hd,hk,_,hm⟩:=n
 refine ⟨o,ho,fun name=>?_⟩
 have e:=hm name
 unfold nsFind findBy at e
 rw [← Array.find?_toList]at e
 unfold PySem.W.lookIn
 rw [hd]
 dsimp only
 split
 · rename_i y q
   rw [q]at e
   exact congrArg some e
 · rename_i q
   rw [q]at e
   have a:es.toList.any (·.refKey)=false:=by
    rw [List.any_eq_false]
    intro y hy
    obtain ⟨z,t,hkey⟩:=hk y (Array.mem_toList_iff.mp hy)
    simp [DictEntry.refKey,hkey]
   have a':¬es.toList.any (·.refKey)=true:=by rw [a];exact Bool.false_ne_true
   rw [if_neg a']
   exact congrArg some e
theorem ObjM.look{h:Heap}{x dx C:Addr}{mA:Str→Option Value}(I:ObjM h x dx C mA):∃od,PySem.W.InstAt h x (PySem.W.instObj C dx) C (some od)∧∀name,PySem.W.lookIn name od=some (mA name):=
 let ⟨od,ho,hl⟩:=lookIn_ns I.ns
 ⟨od,⟨I.obj,rfl,rfl,ho⟩,hl⟩
section
variable {prog:Program} {w:World} {A:Around} {E:Value→Shared→Prop} {s:Shared} {K:PySem.W.Frag} {x dx C f:Addr} {mA:Str→Option Value} {name:Str} {v:Value}
theorem get_map{expr:Bool}{Q:Value→Shared→Prop}(X:K.In s.heap)(I:ObjM s.heap x dx C mA)(hg:PySem.W.plainGet K C name=true)(hh:PySem.W.hasDictIn K C=true)
 (ha:PySem.W.findIn K (.ref C) name=some none) (hv:mA name=some v) (hv':PySem.W.handedIn v=true) (h:Q v {s with toks:=s.toks+1}):
 wpAny (model prog w) A (getAttr (.ref x) name expr) Q E s:=by
 obtain ⟨od,J,hl⟩:=I.look
 exact PySem.W.get_value X J (PySem.W.plainGet_of hg).1 (PySem.W.findObj_own hh ha rfl (by rw [hl,hv])) hv' h
theorem get_meth{pl:Sem Bool}{Q:Value×List Value→Shared→Prop}(X:K.In s.heap)(I:ObjM s.heap x dx C mA)(hg:PySem.W.plainGet K C name=true)
 (hf:PySem.W.findIn K (.ref C) name=some (some (.ref f))) (ht:PySem.W.isFn K (.ref f)=true) (hv:mA name=none) (h:Q (.ref f,[.ref x]) s):
 wpAny (model prog w) A (getMethod (.ref x) name pl) Q E s:=by
 obtain ⟨od,J,hl⟩:=I.look
 exact PySem.W.method_fn X J (PySem.W.plainGet_of hg).1 (PySem.W.plainGet_of hg).2 hf (beq_iff_eq.mp ht) (by show (PySem.W.lookIn name od).map (·.isSome)=some false;rw [hl,hv];rfl) h
theorem set_map{ns:List Str}{Q:Unit→Shared→Prop}(X:K.In s.heap)(I:ObjM s.heap x dx C mA)
 (hs:PySem.W.findIn K (.ref C) "__setattr__"=some (some (.builtin "object.__setattr__"))) (hp:PySem.W.plainOver K C=true) (ht:PySem.W.takerIn K C name=some none) (hh:PySem.W.hasDictIn K C=true)
 (hw:PySem.Within mA ns) (hsz:ns.length≤sizeLine)
 (h:∀h',ObjM h' x dx C (fun y=>if y=name then some v else mA y)→Heap.SameBut dx s.heap h'→Q () {s with heap:=h',toks:=s.toks+2}):
 wpAny (model prog w) A (setAttr (.ref x) name v) Q E s:=by
 obtain ⟨od,J,hl⟩:=I.look
 refine PySem.W.set_plain X J hs (PySem.W.osa_open (s:={s with toks:=s.toks+1}) (r:=none) X J hp ht fun b=>?_)
 obtain ⟨cd,hc,hd'⟩:=PySem.W.any_some hh
 have hx:s.heap.get? x=some ⟨.ref C,some dx,.plain,#[]⟩:=I.obj
 refine wpAny_bind (wpAny_pure (wpAny_bind (wpAny_bind (wpAny_loadPart hx (wpAny_bind (PySem.W.Looks.here (s:={s with toks:=s.toks+1}) (PySem.W.looks_clsIn X hc) ?_))))))
 rw [hd']
 refine wpAny_pure (a:=some dx) (wpAny_bind (wpAny_pure (wpAny_bind ?_)))
 refine wpAny_nsSet1 (s:={s with toks:=s.toks+1}) I.ns fun h' hn2 hs2=>?_
 obtain ⟨oD,esD,epD,hoD,hdD,hcD⟩:=hn2.count (PySem.Within.cons name v hw)
 refine wpAny_bind (wpAny_lookBehind hoD (by rw [hdD];exact pastItsLine_dict (Nat.le_trans hcD (by rw [List.length_cons];omega))) ?_)
 exact wpAny_pure (h _ ⟨(hs2.2 _ (Ne.symm I.ne)).trans I.obj,hn2,I.ne⟩ hs2)
theorem make_map{R:Result→Shared→Prop}{vs:List Value}{kw:List (Str×Value)}(X:K.In s.heap)(hm:PySem.W.makesIn K C=true)
 (hi:PySem.W.findIn K (.ref C) "__init__"=some (some (.ref f))) (hf:PySem.W.typeIn K (.ref f)=some (.type "function"))
 (h:codeAny (model prog w) (A.under (.builtin "type.__call__" ⟨.ref C::vs,kw⟩)) (.call (.ref f) ⟨.ref (s.heap.objs.size+1)::vs,kw⟩) (PySem.W.InitBack (s.heap.objs.size+1) R)
  {s with heap:=(s.heap.push PySem.W.emptyDict).push (PySem.W.instObj C s.heap.objs.size)}):
 codeAny (model prog w) A (.call (.ref C) ⟨vs,kw⟩) R s:=by
 obtain ⟨hh,g,d,t,os⟩:=s
 exact PySem.W.make_core (PySem.W.makes_of X hm) (PySem.W.looks_findIn X hi) (fun self=>PySem.W.bind_fn X self hf) (.inl rfl) h
end
noncomputable def putF(f:Str)(v:V):List (Str×V)→List (Str×V)
 | []=>[(f,v)]
 | (g,x)::r=>if g=f then (g,v)::r else (g,x)::putF f v r
theorem lookup_putF(f g:Str)(v:V):∀fs:List (Str×V),(putF f v fs).lookup g=if g=f then some v else fs.lookup g
 | []=>by
  show List.lookup g [(f,v)]=_
  by_cases h:g=f
  · have hb:(g==f)=true:=beq_iff_eq.mpr h
    simp only [List.lookup,hb,if_pos h]
  · have hb:(g==f)=false:=beq_eq_false_iff_ne.mpr h
    simp only [List.lookup,hb,if_neg h]
 | (k,x)::r=>by
  have ih:=lookup_putF f g v r
  rw [show putF f v ((k,x)::r)=(if k=f then (k,v)::r else (k,x)::putF f v r) from rfl]
  by_cases hk:k=f
  · rw [if_pos hk]
    by_cases h:g=k
    · have hb:(g==k)=true:=beq_iff_eq.mpr h
      simp only [List.lookup,hb,if_pos (h.trans hk)]
    · have hb:(g==k)=false:=beq_eq_false_iff_ne.mpr h
      simp only [List.lookup,hb,if_neg (fun e:g=f=>h (e.trans hk.symm))]
  · rw [if_neg hk]
    by_cases h:g=k
    · have hb:(g==k)=true:=beq_iff_eq.mpr h
      simp only [List.lookup,hb,if_neg (fun e:g=f=>hk (h.symm.trans e))]
    · have hb:(g==k)=false:=beq_eq_false_iff_ne.mpr h
      simp only [List.lookup,hb]
      exact ih
theorem keys_putF(f:Str)(v:V):∀fs:List (Str×V),f∈(putF f v fs).map (·.1)∧∀g,g∈fs.map (·.1)→g∈(putF f v fs).map (·.1)
 | []=>⟨by simp [putF],fun g h=>by simp at h⟩
 | (k,x)::r=>by
  obtain ⟨i1,i2⟩:=keys_putF f v r
  rw [show putF f v ((k,x)::r)=(if k=f then (k,v)::r else (k,x)::putF f v r) from rfl]
  by_cases hk:k=f
  · rw [if_pos hk]
    subst hk
    exact ⟨by simp,fun g h=>by simpa using h⟩
  · rw [if_neg hk]
    refine ⟨?_,fun g h=>?_⟩
    · rw [List.map_cons]
      exact List.mem_cons_of_mem _ i1
    · rw [List.map_cons]at h ⊢
      rcases List.mem_cons.mp h with e | e
      · exact List.mem_cons.mpr (.inl e)
      · exact List.mem_cons_of_mem _ (i2 g e)
theorem length_putF(f:Str)(v:V):∀fs:List (Str×V),(putF f v fs).length≤fs.length+1
 | []=>by simp [putF]
 | (k,x)::r=>by
  have ih:=length_putF f v r
  rw [show putF f v ((k,x)::r)=(if k=f then (k,v)::r else (k,x)::putF f v r) from rfl]
  by_cases hk:k=f
  · rw [if_pos hk,List.length_cons,List.length_cons];omega
  · rw [if_neg hk,List.length_cons,List.length_cons];omega
theorem RelO.some_of{v:V}{o:Option Value}(r:RelO (some v) o):∃u,o=some u∧RelV v u:=by
 cases o with
 | none=>exact (show False from r).elim
 | some u=>exact ⟨u,rfl,r⟩
theorem RelO.none_of{o:Option Value}(r:RelO none o):o=none:=by
 cases o with
 | none=>rfl
 | some u=>exact (show False from r).elim
theorem handed_of{v:V}{u:Value}(r:RelV v u):PySem.W.handedIn u=true:=by
 cases v with
 | non=>cases (show u=Value.none from r);rfl
 | bl b=>cases (show u=Value.bool b from r);rfl
 | int i=>obtain ⟨t,e⟩:=(show ∃t,u=Value.int i t from r);cases e;rfl
 | str x=>obtain ⟨t,e⟩:=(show ∃t,u=Value.str x t from r);cases e;rfl
 | byt b=>obtain ⟨t,e⟩:=(show ∃t,u=Value.bytes b t from r);cases e;rfl
 | flt b=>obtain ⟨t,e⟩:=(show ∃t,u=Value.float b t from r);cases e;rfl
 | ref a=>cases (show u=Value.ref a from r);rfl
 | ty n=>cases (show u=Value.type n from r);rfl
section
variable {P:Program} {w:World} {H H':Hp} {h h':Heap} {a C dx:Addr} {fs fs':List (Str×V)}
theorem ins_get(hok:HOk P w H h)(e:H a=some (.ins C dx fs)):∃mA,ObjM h a dx C mA∧(∀f,RelO (fs.lookup f) (mA f))∧PySem.Within mA (fs.map (·.1))∧fs.length≤1000∧H dx=some (.own a):=by
 obtain ⟨d,z,ne,ob,mA,n,r,q⟩:=(show ObjOk P w H h a (.ins C dx fs) from hok a _ e)
 exact ⟨mA,⟨ob,n,ne⟩,r,q,z,d⟩
end
structure Cls(K:PySem.W.Frag)(C:Addr):Prop where
 pg:PySem.W.plainGet K C Str.empty=true
 hd:PySem.W.hasDictIn K C=true
 po:PySem.W.plainOver K C=true
 sa:PySem.W.findIn K (.ref C) "__setattr__"=some (some (.builtin "object.__setattr__"))
theorem Cls.get{K:PySem.W.Frag}{C:Addr}(c:Cls K C)(f:Str):PySem.W.plainGet K C f=true:=c.pg
noncomputable def NoAttr(K:PySem.W.Frag)(C:Addr)(f:Str):Prop:=PySem.W.findIn K (.ref C) f=some none
theorem NoAttr.taker{K:PySem.W.Frag}{C:Addr}{f:Str}(n:NoAttr K C f):PySem.W.takerIn K C f=some none:=by
 unfold PySem.W.takerIn
 rw [show PySem.W.findIn K (.ref C) f=some none from n]
 rfl
structure Meth(K:PySem.W.Frag)(C:Addr)(m:Str)(f:Addr):Prop where
 at_:PySem.W.findIn K (.ref C) m=some (some (.ref f))
 fn:PySem.W.isFn K (.ref f)=true
 kp:PySem.W.keepIn K (.ref f)=true
section
variable {X:Cx} {pins:List (Addr×Obj)} {σ:St} {H:Hp} {s:Shared} {a C dx:Addr} {fs:List (Str×V)} {f:Str} {v:V} {A:Around} {E:Value→Shared→Prop}
theorem getattr_ok{b:Bool}{Q:Value→Shared→Prop}(I:Inv X pins σ H s)(e:H a=some (.ins C dx fs))(c:Cls X.K C)(n:NoAttr X.K C f)(l:fs.lookup f=some v)
 (h:∀u s',Inv X pins σ H s'→RelV v u→Q u s'):wpAny (model X.prog X.w) A (getAttr (.ref a) f b) Q E s:=by
 obtain ⟨mA,O,r,_,_,_⟩:=ins_get I.hok e
 obtain ⟨u,hu,ru⟩:=RelO.some_of (v:=v) (o:=mA f) (by rw [← l];exact r f)
 exact get_map I.kIn O (c.get f) c.hd n hu (handed_of ru) (h u _ (I.tok _) ru)
theorem getmeth_ok{m:Str}{g:Addr}{pl:Sem Bool}{Q:Value×List Value→Shared→Prop}(I:Inv X pins σ H s)(e:H a=some (.ins C dx fs))(c:Cls X.K C)(k:Meth X.K C m g)(l:fs.lookup m=none)
 (h:Q (.ref g,[.ref a]) s):wpAny (model X.prog X.w) A (getMethod (.ref a) m pl) Q E s:=by
 obtain ⟨mA,O,r,_,_,_⟩:=ins_get I.hok e
 have hn:mA m=none:=RelO.none_of (by rw [← l];exact r m)
 exact get_meth I.kIn O (c.get m) k.at_ k.fn hn h
theorem setattr_ok{y:V}{u:Value}{Q:Unit→Shared→Prop}(I:Inv X pins σ H s)(e:H a=some (.ins C dx fs))(c:Cls X.K C)(n:NoAttr X.K C f)(hl:fs.length < 1000)(ry:RelV y u)
 (h:∀s',Inv X pins σ (upd H a (.ins C dx (putF f y fs))) s'→Q () s'):wpAny (model X.prog X.w) A (setAttr (.ref a) f u) Q E s:=by
 obtain ⟨mA,O,r,wi,_,ho⟩:=ins_get I.hok e
 have hz:(fs.map (·.1)).length≤sizeLine:=by rw [List.length_map,sizeLine_eq];omega
 refine set_map I.kIn O c.sa c.po n.taker c.hd wi hz fun h' O' sb=>h _ ?_
 have hd:∃o,h'.get? dx=some o:=let ⟨o,_,_,e',_⟩:=O'.ns;⟨o,e'⟩
 refine I.write (x:=a) (e:=dx) (by rw [e];exact True.intro) (.inr ho) (fun b q hb z=>(sb.2 b hb).trans z) hd ?_
 refine ⟨by rw [upd_ne O.ne];exact ho,?_,O.ne,O'.obj,_,O'.ns,fun g=>?_,fun g hg=>?_⟩
 · have:=length_putF f y fs;omega
 · show RelO ((putF f y fs).lookup g) (if g=f then some u else mA g)
   rw [lookup_putF]
   by_cases q:g=f
   · rw [if_pos q,if_pos q];exact ry
   · rw [if_neg q,if_neg q];exact r g
 · by_cases q:g=f
   · rw [q];exact (keys_putF f y fs).1
   · refine (keys_putF f y fs).2 g (wi g fun z=>hg ?_)
     show (if g=f then some u else mA g)=none
     rw [if_neg q];exact z
theorem Inv.made(I:Inv X pins σ H s):Inv X pins σ (upd (upd H s.heap.objs.size (.own (s.heap.objs.size+1))) (s.heap.objs.size+1) (.ins C s.heap.objs.size []))
 {s with heap:=(s.heap.push PySem.W.emptyDict).push (PySem.W.instObj C s.heap.objs.size)}:=by
 have e1:(s.heap.push PySem.W.emptyDict).get? s.heap.objs.size=some PySem.W.emptyDict:=Heap.get?_push_size s.heap rfl
 have e2:((s.heap.push PySem.W.emptyDict).push (PySem.W.instObj C s.heap.objs.size)).get? (s.heap.objs.size+1)=some (PySem.W.instObj C s.heap.objs.size):=by
  have:=Heap.get?_push_size (s.heap.push PySem.W.emptyDict) (o:=PySem.W.instObj C s.heap.objs.size) rfl
  rwa [Heap.size_push]at this
 have e3:(s.heap.push PySem.W.emptyDict).Ns s.heap.objs.size (fun _=>none):=⟨PySem.W.emptyDict,#[],_,e1,rfl,(fun e he=>absurd he (by simp)),fun _=>rfl⟩
 have I1:=I.laid (a:=s.heap.objs.size) (o:= .own (s.heap.objs.size+1)) (h':=s.heap.push PySem.W.emptyDict) (t':=s.toks) (fun b u q=>Heap.get?_push_of_some _ q) (Nat.le_refl _) ⟨_,e1⟩
 refine I1.laid (a:=s.heap.objs.size+1) (o:= .ins C s.heap.objs.size []) (t':=s.toks) (fun b u q=>Heap.get?_push_of_some _ q) (Nat.le_of_eq (Heap.size_push _ _)) ?_
 have ne:s.heap.objs.size≠s.heap.objs.size+1:=Nat.ne_of_lt (Nat.lt_succ_self _)
 refine ⟨by rw [upd_ne ne,upd_same],Nat.zero_le _,ne,e2,fun _=>none,(Heap.Ns1.of_empty e3).at fun o q=>Heap.get?_push_of_some _ q,fun _=>True.intro,fun y hy=>absurd rfl hy⟩
theorem attr_of{prog:Program}{w:World}{env:Env}{e:Expr}{f:Str}{pos:Pos}{s:Shared}{Q:Value→Shared→Prop}(hb:attributeBase e f env (eval e env)=eval e env)
 (h:wpAny (model prog w) A (eval e env) (fun o s₁=>wpAny (model prog w) A (getAttr o f true) Q E s₁) E s):wpAny (model prog w) A (eval (.Attribute e f pos) env) Q E s:=
 Attribute_any_ h (by rw [arm_eval_Attribute,hb])
end
noncomputable def tFld(K:PySem.W.Frag)(ta:TE)(f:Str):TE:=fun σ H Q=>ta σ H fun x H1=>∃a C dx fs v,x= .ref a∧H1 a=some (.ins C dx fs)∧Cls K C∧NoAttr K C f∧fs.lookup f=some v∧Q v H1
noncomputable def sFld(K:PySem.W.Frag)(ta tv:TE)(f:Str):TS:=fun D σ H=>tv σ H fun y H1=>ta σ H1 fun x H2=>∃a C dx fs,x= .ref a∧H2 a=some (.ins C dx fs)∧Cls K C∧NoAttr K C f∧fs.length < 1000∧
 D.nx σ (upd H2 a (.ins C dx (putF f y fs)))
section
variable {X:Cx} {o e value:Expr} {f:Str} {pos pos' tpos:Pos} {ta tv:TE}
theorem pe_fld(he:PE X e ta)(hb:attributeBase e f X.env (eval e X.env)=eval e X.env):PE X (.Attribute e f pos) (tFld X.K ta f):=by
 intro pins s σ H Q I h
 refine attr_of hb (thn (he pins s σ H _ I h) fun u s1 hq_=>?_)
 obtain ⟨x,H1,I1,rx,a,C,dx,fs,v,ex,ea,c,n,l,q⟩:=hq_
 subst ex
 obtain rfl:u=Value.ref a:=rx
 exact getattr_ok I1 ea c n l fun u' s2 I2 ru=>⟨v,H1,I2,ru,q⟩
theorem ps_fld(ha:PE X o ta)(hv:PE X value tv)(hs:swapsWith value (some (.Attribute o f pos')) pos.line X.env=pure false):PS X (.Assign [.Attribute o f pos'] value pos) (sFld X.K ta tv f):=by
 intro pins s σ H D I h
 refine plainObj_wpAny_Assign_Attribute (thn (hv pins s σ H _ I h) fun u s1 ⟨y,H1,I1,ry,q⟩=>thn (ha pins s1 σ H1 _ I1 q) fun ov s2 hq_=>?_) hs
 obtain ⟨x,H2,I2,rx,a,C,dx,fs,ex,ea,c,n,l,q2⟩:=hq_
 subst ex
 obtain rfl:ov=Value.ref a:=rx
 exact setattr_ok I2 ea c n l ry fun s3 I3=>⟨σ,_,I3,q2⟩
noncomputable def rAdd:V→V→Hp→VK→Prop:=fun x y H Q=>∃i j,x= .int i∧y= .int j∧Q (.int (i+j)) H
end
section
variable {X:Cx} {pins:List (Addr×Obj)} {σ:St} {H:Hp} {s:Shared} {A:Around} {E:Value→Shared→Prop} {Q:Value→Shared→Prop} {c:Value} {b:Bool}
inductive TyOf(K:PySem.W.Frag)(H:Hp):V→Value→Prop where
 | non:TyOf K H .non (.type "NoneType")
 | bl (x:Bool):TyOf K H (.bl x) (.type "bool")
 | int (i:Int):TyOf K H (.int i) (.type "int")
 | str (x:Str):TyOf K H (.str x) (.type "str")
 | flt (x:UInt64):TyOf K H (.flt x) (.type "float")
 | lst {a:Addr} {xs:List V} (e:H a=some (.lst xs)):TyOf K H (.ref a) (.type "list")
 | frz {a:Addr} {o:Obj} {xs:List V} (e:H a=some (.frz o (.lst xs))):TyOf K H (.ref a) (.type "list")
 | tup {a:Addr} {xs:List V} (e:H a=some (.tup xs)):TyOf K H (.ref a) (.type "tuple")
 | dK {a:Addr} {kvs:List (Key×V)} (e:H a=some (.dK kvs)):TyOf K H (.ref a) (.type "dict")
 | dT {a:Addr} {kvs:List (List Key×V)} (e:H a=some (.dT kvs)):TyOf K H (.ref a) (.type "dict")
 | ins {a C dx:Addr} {fs:List (Str×V)} (e:H a=some (.ins C dx fs)) (cl:Cls K C) (ha:PySem.W.findIn K (.ref C) "__class__"=some (some (.builtin "object.__class__")))
  (hn:PySem.W.specialIn K (.builtin "object.__class__") "__get__"=some (some (.builtin "getset_descriptor.__get__"))) (htk:PySem.W.takesIn K (.builtin "object.__class__")=some true)
  (hm:PySem.W.mroIn K C (.type "object")=some true):TyOf K H (.ref a) (.ref C)
theorem isinst_ok{x:V}{u t:Value}(I:Inv X pins σ H s)(rx:RelV x u)(ty:TyOf X.K H x t)(e:PySem.W.kitOne X.K t c=some b)(h:∀tk,Q (.bool b) {s with toks:=tk}):
 wpAny (model X.prog X.w) A (call (.builtin "isinstance") [u,c]) Q E s:=by
 cases ty with
 | non=>cases (show u=Value.none from rx);exact PySem.W.kia_one PySem.W.kitx_none I.kIn True.intro e (fun z=>nomatch z) h
 | bl y=>cases (show u=Value.bool y from rx);exact PySem.W.kia_one PySem.W.kitx_bool I.kIn True.intro e (fun z=>nomatch z) h
 | int i=>obtain ⟨t,q⟩:=(show ∃t,u=Value.int i t from rx);cases q;exact PySem.W.kia_one PySem.W.kitx_int I.kIn True.intro e (fun z=>nomatch z) h
 | str y=>obtain ⟨t,q⟩:=(show ∃t,u=Value.str y t from rx);cases q;exact PySem.W.kia_one PySem.W.kitx_str I.kIn True.intro e (fun z=>nomatch z) h
 | flt y=>obtain ⟨t,q⟩:=(show ∃t,u=Value.float y t from rx);cases q;exact PySem.W.kia_one PySem.W.kitx_float I.kIn True.intro e (fun z=>nomatch z) h
 | @lst a xs ea=>
  cases (show u=Value.ref a from rx)
  obtain ⟨_,_,n,_,h1⟩:=(show ObjOk X.prog X.w H s.heap a (.lst xs) from I.hok a _ ea)
  exact PySem.W.kia_one PySem.W.kitx_list I.kIn ⟨_,h1,rfl⟩ e (fun z=>nomatch z) h
 | @frz a ob xs ea=>
  cases (show u=Value.ref a from rx)
  obtain ⟨_,_,_,n,_,h1⟩:=(show ObjOk X.prog X.w H s.heap a (.frz ob (.lst xs)) from I.hok a _ ea)
  exact PySem.W.kia_one PySem.W.kitx_list I.kIn ⟨_,h1,rfl⟩ e (fun z=>nomatch z) h
 | @tup a xs ea=>
  cases (show u=Value.ref a from rx)
  obtain ⟨_,_,_,p⟩:=(show ObjOk X.prog X.w H s.heap a (.tup xs) from I.hok a _ ea)
  obtain ⟨o,h1,h2,_⟩:=p
  exact PySem.W.kia_one PySem.W.kitx_tuple I.kIn ⟨o,h1,h2⟩ e (fun z=>nomatch z) h
 | @dK a kvs ea=>
  cases (show u=Value.ref a from rx)
  obtain ⟨_,_,vs,_,p⟩:=(show ObjOk X.prog X.w H s.heap a (.dK kvs) from I.hok a _ ea)
  obtain ⟨o,es,ep,h1,h2,_⟩:=p
  exact PySem.W.kia_one PySem.W.kitx_dict I.kIn ⟨o,h1,h2.1⟩ e (fun z=>nomatch z) h
 | @dT a kvs ea=>
  cases (show u=Value.ref a from rx)
  obtain ⟨_,_,xs,_,o,es,ep,h1,h2,_⟩:=(show ObjOk X.prog X.w H s.heap a (.dT kvs) from I.hok a _ ea)
  exact PySem.W.kia_one PySem.W.kitx_dict I.kIn ⟨o,h1,h2.1⟩ e (fun z=>nomatch z) h
 | @ins a C dx fs ea cl ha hn htk hm=>
  cases (show u=Value.ref a from rx)
  obtain ⟨mA,O,_⟩:=ins_get I.hok ea
  obtain ⟨od,J,_⟩:=O.look
  exact PySem.W.kia_one (PySem.W.kitx_own (cl.get _) cl.hd ha hn htk hm) I.kIn J e (fun z=>nomatch z) h
end
end L2
namespace L2
structure Room(k:Nat)(A:Around):Prop where
 hd:A.handled=none
 dp:A.depth+3 * k+5 < recursionLimit
 un:A.units+16 * k+200 < cLine
theorem Room.mono{j k:Nat}{A:Around}(r:Room k A)(h:j≤k):Room j A:=⟨r.hd,by have:=r.dp;omega,by have:=r.un;omega⟩
theorem Room.deeper{k:Nat}{A:Around}(r:Room (k+1) A)(env:Env):Room k (A.deeper env):=
 ⟨r.hd,by have:=r.dp;show A.depth+1+3 * k+5 < _;omega,by have:=r.un;show A.units+3+16 * k+200 < _;omega⟩
theorem make_depth{A:Around}{C:Addr}{us:List Value}{kw:List (Str×Value)}:(A.under (.builtin "type.__call__" ⟨.ref C::us,kw⟩)).depth=A.depth+1:=by
 first | rfl | simp [Around.under,Code.weight,Code.isCreation,Code.isGuard,Code.isCaller,Code.frames,Code.isFrame,guardIds]
theorem make_units{A:Around}{C:Addr}{us:List Value}{kw:List (Str×Value)}:(A.under (.builtin "type.__call__" ⟨.ref C::us,kw⟩)).units=A.units+1:=by
 first | rfl | simp [Around.under,Code.cUnits,Code.frames,Code.isFrame]
theorem Room.make{k:Nat}{A:Around}(r:Room (k+1) A)(C:Addr)(us:List Value)(kw:List (Str×Value)):Room k (A.under (.builtin "type.__call__" ⟨.ref C::us,kw⟩)):=
 ⟨r.hd,by have:=r.dp;rw [make_depth];omega,by have:=r.un;rw [make_units];omega⟩
theorem Room.depth{k:Nat}{A:Around}(r:Room k A):A.depth < recursionLimit:=by have:=r.dp;omega
theorem Room.units{k:Nat}{A:Around}(r:Room k A):A.units+64 < cLine:=by have:=r.un;omega
noncomputable def tNil:TA:=fun _ H Q=>Q [] H
noncomputable def tCons(ta:TE)(tr:TA):TA:=fun σ H Q=>ta σ H fun x H1=>tr σ H1 fun xs H2=>Q (x::xs) H2
section
variable {X:Cx} {e:Expr} {es:List Expr} {te:TE} {t:TA} {pos:Pos}
theorem pa_nil:PA X [] tNil:=fun _ _ _ _ H Q I h=>Calls.spliced_nil ⟨[],H,I,.nil,h⟩
theorem pa_cons(ha:PE X e te)(hr:PA X es t)(hs:starEach (e::es) X.env=(false,eval e X.env)::starEach es X.env:=by rfl):PA X (e::es) (tCons te t):=by
 intro pos pins s σ H Q I h
 rw [hs]
 show wpAny _ _ (spliced ((false,eval e X.env)::backTo pos (starEach es X.env))) _ _ s
 refine Calls.spliced_cons (thn (ha pins s σ H _ I h) fun u s1 hq_=>?_)
 obtain ⟨x,H1,I1,r1,q1⟩:=hq_
 exact thn (hr pos pins s1 σ H1 _ I1 q1) fun us s2 ⟨xs,H2,I2,r2,q2⟩=>⟨x::xs,H2,I2,.cons r1 r2,q2⟩
noncomputable def tTup(t:TA):TE:=fun σ H Q=>t σ H fun xs H1=>xs.length≤sizeLine∧∀p,H1 p=none→Q (.ref p) (upd H1 p (.tup xs))
noncomputable def tLst(t:TA):TE:=fun σ H Q=>t σ H fun xs H1=>xs.length≤sizeLine∧∀p,H1 p=none→Q (.ref p) (upd H1 p (.lst xs))
theorem pe_tup{x1}(h:PA X es t):PE X (.Tuple es x1 pos) (tTup t):=by
 intro pins s σ H Q I hq
 refine wpAny_Tuple_spliced (thn (h pos pins s σ H _ I hq) fun us s1 ⟨xs,H1,I1,r,z,q⟩=>⟨by rw [← r.length];exact z,?_⟩)
 have hf:H1 s1.heap.objs.size=none:=I1.hok.fresh (Nat.le_refl _)
 refine ⟨.ref s1.heap.objs.size,upd H1 s1.heap.objs.size (.tup xs),I1.laid (t':=s1.toks) (fun b u e=>Heap.get?_push_of_some _ e) (Nat.le_refl _) ?_,rfl,q _ hf⟩
 exact ⟨z,us,r,⟨_,Heap.get?_push_size _ rfl,rfl,_,rfl⟩⟩
theorem pe_lst(h:PA X es t):PE X (.List es pos) (tLst t):=by
 intro pins s σ H Q I hq
 refine wpAny_List_spliced (thn (h pos pins s σ H _ I hq) fun us s1 ⟨xs,H1,I1,r,z,q⟩=>⟨by rw [← r.length];exact z,?_⟩)
 have hf:H1 s1.heap.objs.size=none:=I1.hok.fresh (Nat.le_refl _)
 refine ⟨.ref s1.heap.objs.size,upd H1 s1.heap.objs.size (.lst xs),I1.laid (t':=s1.toks) (fun b u e=>Heap.get?_push_of_some _ e) (Nat.le_refl _) ?_,rfl,q _ hf⟩
 exact ⟨z,us,0,r,Heap.get?_push_size _ rfl⟩
end
noncomputable abbrev Sp:=List V→Hp→VK→XK→Prop
noncomputable abbrev CXT:=List Env→Hp→Shared→XK→Value→Shared→Prop
structure Env0(P:Program)(w:World)(K:PySem.W.Frag)(mg:Str→Option Value)(base:Heap)(A:Around)(outer:List Env)(s:Shared)(H:Hp):Prop where
 frames:A.frames=some outer
 mod:Mod K mg base
 bs:∀b o,base.get? b=some o→s.heap.get? b=some o∧H b=none
 bsz:base.objs.size≤s.heap.objs.size
 funs:s.heap.FunFrames base outer
 frf:∀b∈frs outer,H b=none
 hok:HOk P w H s.heap
 bare:AllBare s.gens
noncomputable def CE(outer:List Env)(P:Program)(w:World)(H:Hp)(s:Shared)(Q:VK)(u:Value)(s':Shared):Prop:=
 ∃v H',s'.os=s.os∧AllBare s'.gens∧Un (frs outer) [] H H' s.heap s'.heap∧HOk P w H' s'.heap∧RelV v u∧Q v H'
noncomputable def CR(CX:CXT)(outer:List Env)(P:Program)(w:World)(H:Hp)(s:Shared)(Q:VK)(E:XK)(r:Result)(s':Shared):Prop:=
 match r with
 | .ok (.ret u)=>CE outer P w H s Q u s'
 | .ok _=>False
 | .error e=>CX outer H s E e s'
structure FnOk(P:Program)(w:World)(K:PySem.W.Frag)(mg:Str→Option Value)(base:Heap)(CX:CXT)(k:Nat)(f:Addr)(fd:FuncData)(ps:List Str)(sp:Sp):Prop where
 len:∀vs H Q E,sp vs H Q E→vs.length=ps.length
 run:∀(A:Around) (outer:List Env) (s:Shared) (H:Hp) (args:Args) (us:List Value) (vs:List V) (Q:VK) (E:XK),Room k A→Env0 P w K mg base A outer s H→BindsTo s fd args (ps.zip us)→Vals vs us→sp vs H Q E→
  codeAny (model P w) A (.call (.ref f) args) (CR CX outer P w H s Q E) s
theorem FnOk.mono{P:Program}{w:World}{K:PySem.W.Frag}{mg:Str→Option Value}{base:Heap}{CX:CXT}{j k:Nat}{f:Addr}{fd:FuncData}{ps:List Str}{sp:Sp}(F:FnOk P w K mg base CX j f fd ps sp)(h:j≤k):
 FnOk P w K mg base CX k f fd ps sp:=⟨F.len,fun A outer s H args us vs Q E hr=>F.run A outer s H args us vs Q E (hr.mono h)⟩
theorem FnOk.imp{P:Program}{w:World}{K:PySem.W.Frag}{mg:Str→Option Value}{base:Heap}{CX:CXT}{k:Nat}{f:Addr}{fd:FuncData}{ps:List Str}{sp sp':Sp}(F:FnOk P w K mg base CX k f fd ps sp)
 (h:∀vs H Q E,sp' vs H Q E→sp vs H Q E):FnOk P w K mg base CX k f fd ps sp':=
 ⟨fun vs H Q E q=>F.len vs H Q E (h _ _ _ _ q),fun A outer s H args us vs Q E hr he hb hv hs=>F.run A outer s H args us vs Q E hr he hb hv (h _ _ _ _ hs)⟩
theorem Env0.make{P:Program}{w:World}{K:PySem.W.Frag}{mg:Str→Option Value}{base:Heap}{A:Around}{outer:List Env}{s:Shared}{H:Hp}(e:Env0 P w K mg base A outer s H)(C:Addr)(us:List Value)(kw:List (Str×Value)):
 Env0 P w K mg base (A.under (.builtin "type.__call__" ⟨.ref C::us,kw⟩)) outer s H:=⟨by first | exact e.frames | (simpa [Around.under,Code.envs,Code.isFrame,pushEnvs] using e.frames),e.mod,e.bs,e.bsz,e.funs,e.frf,e.hok,e.bare⟩
section
variable {X:Cx} {pins:List (Addr×Obj)} {σ:St} {H:Hp} {s s':Shared}
theorem Inv.env0(I:Inv X pins σ H s):Env0 X.prog X.w X.K X.mg X.base X.A X.stack s H:=
 ⟨I.ok.frames,I.ok.mod,I.bs,Nat.le_trans I.ok.bsz I.sz,I.stack,I.stkFree,I.hok,I.bare⟩
theorem Inv.after{Q:VK}{u:Value}(I:Inv X pins σ H s)(h:CE X.stack X.prog X.w H s Q u s'):EP X pins σ Q u s':=by
 obtain ⟨v,H',os,bare,un,hok,r,q⟩:=h
 obtain ⟨hh,g,d,t,os'⟩:=s'
 obtain rfl:os'=s.os:=os
 exact ⟨v,H',I.call (h':=hh) (g':=g) (d':=d) (t':=t) (ch:=[]) un hok bare (fun b z=>absurd z (by simp)),r,q⟩
end
noncomputable def tCall(sp:Sp)(dvs:List V)(E:XK)(t:TA):TE:=fun σ H Q=>t σ H fun vs H1=>sp (vs++dvs) H1 Q E
noncomputable def Binds(K:PySem.W.Frag)(fd:FuncData)(ps:List Str)(ds:List Value):Prop:=
 ∀(s:Shared) (us:List Value),K.In s.heap→(us++ds).length=ps.length→BindsTo s fd ⟨us,[]⟩ (ps.zip (us++ds))
theorem Binds.all{K:PySem.W.Frag}{fd:FuncData}{ps:List Str}(h:∀us:List Value,us.length=ps.length→bindArgs fd ⟨us,[]⟩=pure (ps.zip us)):Binds K fd ps []:=fun s us _ hl=>by
 rw [List.append_nil]at hl ⊢
 exact .of_eq (h us hl)
noncomputable def Passes(CX:CXT)(X:Cx)(E:XK):Prop:=∀(pins:List (Addr×Obj)) (σ:St) (H:Hp) (s:Shared) (e:Value) (s':Shared),Inv X pins σ H s→CX X.stack H s E e s'→X.xe e s'
section
variable {X:Cx} {CX:CXT} {k:Nat} {f C:Addr} {fd:FuncData} {ps:List Str} {sp:Sp} {dvs:List V} {ds:List Value} {E:XK} {x m:Str} {p pos apos:Pos} {e o:Expr} {es:List Expr} {ta:TE} {t:TA}
theorem run_fn{pins:List (Addr×Obj)}{σ:St}{H:Hp}{s:Shared}{Q:VK}{us:List Value}{vs:List V}(F:FnOk X.prog X.w X.K X.mg X.base CX k f fd ps sp)(hr:Room k X.A)(hb:Binds X.K fd ps ds)(hd:Vals dvs ds)(hx:Passes CX X E)
 (I:Inv X pins σ H s) (r:Vals vs us) (h:sp (vs++dvs) H Q E):wpAny (model X.prog X.w) X.A (call (.ref f) us) (EP X pins σ Q) X.xe s:=by
 have r2:Vals (vs++dvs) (us++ds):=r.append hd
 have hl:(us++ds).length=ps.length:=by rw [← r2.length];exact F.len _ _ _ _ h
 refine wpAny_call (codeAny_mono (F.run X.A X.stack s H ⟨us,[]⟩ (us++ds) (vs++dvs) Q E hr I.env0 (hb s us I.kIn hl) r2 h) fun r s' hq=>?_)
 cases r with
 | error e=>exact hx pins σ H s e s' I hq
 | ok fl=>
  cases fl with
  | ret u=>exact I.after hq
  | next=>exact False.elim hq
  | brk=>exact False.elim hq
  | cont=>exact False.elim hq
theorem pe_call(F:FnOk X.prog X.w X.K X.mg X.base CX k f fd ps sp)(hr:Room k X.A)(hg:Gl X x)(hm:X.mg x=some (.ref f))(hk:PySem.W.keepIn X.K (.ref f)=true)(hb:Binds X.K fd ps ds)(hd:Vals dvs ds)(hx:Passes CX X E)
 (ha:PA X (e::es) t) (hdb:(x==("__debug__":Str))=false:=by decide) (he:starEach (e::es) X.env=(false,eval e X.env)::starEach es X.env:=by rfl) (hpl:(backTo pos (starEach es X.env)).any (·.1)=false:=by rfl):
 PE X (.Call (.Name x p) (e::es) [] pos) (tCall sp dvs E t):=by
 intro pins s σ H Q I h
 refine wpAny_Call_Name_kw (ld_glob I hg hm ?_ hdb)
 refine PySem.W.callWith_K (h₀:=X.base) I.ok.mod.kin hk (thn (ha pos pins s σ H _ I h) fun us s1 ⟨vs,H1,I1,r,q⟩=>⟨I1.kIn,?_⟩) he hpl
 exact run_fn F hr hb hd hx I1 r q
structure Mk(K:PySem.W.Frag)(C f:Addr):Prop where
 makes:PySem.W.makesIn K C=true
 init:PySem.W.findIn K (.ref C) "__init__"=some (some (.ref f))
 fn:PySem.W.isFn K (.ref f)=true
 kp:PySem.W.keepIn K (.ref C)=true
end
structure FnScope(N P:List Str)(sc:Scope):Prop where
 kind:sc.kind= .function
 co:sc.isCoroutine=false
 gen:sc.isGenerator=false
 nd:N.Nodup
 pre:N.take P.length=P
 par:∀x∈P,sc.names.lookup x=some .local∨sc.names.lookup x=some .cell
 nofree:∀y∈sc.names,y.2≠ .free
theorem bindL_out{kindOf:Str→Option NameKind}{x:Str}:∀{binds:List (Str×Value)} {m:Str→Option Value},(∀v,(x,v)∉binds)→bindL kindOf binds m x=m x
 | [],_,_=>rfl
 | (n,v)::r,m,h=>by
  unfold bindL
  rw [bindL_out fun w hw=>h w (List.mem_cons_of_mem _ hw)]
  split
  · have:x≠n:=by rintro rfl;exact h v List.mem_cons_self
    simp [this]
  · rfl
theorem bindC_out{kindOf:Str→Option NameKind}{x:Str}:∀{binds:List (Str×Value)} {m:Str→Option Value},(∀v,(x,v)∉binds)→bindC kindOf binds m x=m x
 | [],_,_=>rfl
 | (n,v)::r,m,h=>by
  unfold bindC
  rw [bindC_out fun w hw=>h w (List.mem_cons_of_mem _ hw)]
  split
  · rfl
  · have:x≠n:=by rintro rfl;exact h v List.mem_cons_self
    simp [this]
theorem bindL_get{kindOf:Str→Option NameKind}{x:Str}{v:Value}:∀{P:List Str} {vs:List Value} {i:Nat} {m:Str→Option Value},P.Nodup→P[i]?=some x→vs[i]?=some v→kindOf x=some .local→
 bindL kindOf (P.zip vs) m x=some v
 | [],_,_,_,_,h,_,_=>by simp at h
 | _::_,[],_,_,_,_,h,_=>by simp at h
 | p::P,w::vs,0,m,nd,h1,h2,hk=>by
  simp at h1 h2;subst h1;subst h2
  show bindL kindOf ((p,w)::P.zip vs) m p=_
  unfold bindL
  rw [bindL_out fun v hv=>(List.nodup_cons.mp nd).1 (List.of_mem_zip hv).1,if_pos hk]
  simp
 | p::P,w::vs,i+1,m,nd,h1,h2,hk=>by
  show bindL kindOf ((p,w)::P.zip vs) m x=_
  unfold bindL
  exact bindL_get (i:=i) (List.nodup_cons.mp nd).2 (by simpa using h1) (by simpa using h2) hk
theorem bindC_get{kindOf:Str→Option NameKind}{x:Str}{v:Value}:∀{P:List Str} {vs:List Value} {i:Nat} {m:Str→Option Value},P.Nodup→P[i]?=some x→vs[i]?=some v→kindOf x≠some .local→
 bindC kindOf (P.zip vs) m x=some v
 | [],_,_,_,_,h,_,_=>by simp at h
 | _::_,[],_,_,_,_,h,_=>by simp at h
 | p::P,w::vs,0,m,nd,h1,h2,hk=>by
  simp at h1 h2;subst h1;subst h2
  show bindC kindOf ((p,w)::P.zip vs) m p=_
  unfold bindC
  rw [bindC_out fun v hv=>(List.nodup_cons.mp nd).1 (List.of_mem_zip hv).1,if_neg hk]
  simp
 | p::P,w::vs,i+1,m,nd,h1,h2,hk=>by
  show bindC kindOf ((p,w)::P.zip vs) m x=_
  unfold bindC
  exact bindC_get (i:=i) (List.nodup_cons.mp nd).2 (by simpa using h1) (by simpa using h2) hk
noncomputable def start(N:List Str)(vs:List V):St:=vs.map some++List.replicate (N.length - vs.length) none
noncomputable def cxOf(CX:CXT)(P:Program)(w:World)(K:PySem.W.Frag)(mg:Str→Option Value)(base:Heap)(N:List Str)(qual:Str)(scope:Scope)(f:Addr)(cd:Value)(A:Around)(outer:List Env)(s:Shared)(H:Hp)(E:XK):Cx where
 prog:=P
 w:=w
 K:=K
 mg:=mg
 base:=base
 A:=A.deeper (envOfC qual scope s.heap.objs.size f cd)
 N:=N
 s₀:=s
 H₀:=H
 env:=envOfC qual scope s.heap.objs.size f cd
 outer:=outer
 stack:=envOfC qual scope s.heap.objs.size f cd::outer
 ex:=[]
 calm:=true
 fn:=fun _=>true
 pn:=[]
 xe:=fun e s'=>wpAny (model P w) (A.deeper (envOfC qual scope s.heap.objs.size f cd)) (leaving (envOfC qual scope s.heap.objs.size f cd) e) (fun _ s''=>CX outer H s E e s'') (fun e' s''=>CX outer H s E e' s'') s'
theorem cell_has{sc:Scope}{n:Nat}{x:Str}(h:sc.names.lookup x=some .cell):∃c,(cellsFrom n sc.names []).lookup x=some c:=by
 have q:=PySem.W.cellsFrom_some sc.names n [] (.inl h)
 exact Option.isSome_iff_exists.mp q
theorem inv_start{CX:CXT}{P:Program}{w:World}{K:PySem.W.Frag}{mg:Str→Option Value}{base:Heap}{N ps:List Str}{qual:Str}{scope:Scope}{f:Addr}{cd:Value}{A:Around}{outer:List Env}{s s1:Shared}{H:Hp}{E:XK}{us:List Value}{vs:List V}
 (S:FnScope N ps scope) (hd:A.handled=none) (e0:Env0 P w K mg base A outer s H) (hl:vs.length=ps.length) (r:Vals vs us)
 (x:InCallC s s.heap.objs.size (bindL (envOfC qual scope s.heap.objs.size f cd).kindOf (ps.zip us) fun _=>none) (cellsFrom (s.heap.objs.size+1) scope.names []) (bindC (envOfC qual scope s.heap.objs.size f cd).kindOf (ps.zip us) fun _=>none) s1):
 Inv (cxOf CX P w K mg base N qual scope f cd A outer s H E) [] (start N vs) H s1:=by
 have hpl:ps.length≤N.length:=by have:=congrArg List.length S.pre;rw [List.length_take]at this;omega
 obtain ⟨h1,tk,rfl,hk⟩:=x.done
 have noA:∀b:Addr,b∉(cxOf CX P w K mg base N qual scope f cd A outer s H E).ex:=fun b z=>absurd (show b∈([]:List Addr) from z) (by simp)
 refine ⟨⟨e0.mod,S.kind,rfl,rfl,Nat.le_refl _,fun y z c h1 h2=>?_,fun y hy=>?_,fun y c _ h=>?_,fun _=>hd,Around.frames_deeper e0.frames,.inr ⟨rfl,rfl⟩,fun b z=>absurd z (noA b),e0.bs,e0.bsz,fun b _ _=>noA b,fun b z=>absurd z (noA b),e0.funs,e0.frf⟩,
  rfl,e0.bare,Un.kept hk,⟨_,x.toInCall.ns,fun i y v h1 h2 h3=>?_⟩,fun y c h=>⟨_,x.cell y c h⟩,e0.hok.fresh (Nat.le_refl _),fun y c h=>?_,fun p hp=>absurd (show p∈([]:List (Addr×Obj)) from hp) (by simp),e0.hok.kept hk,?_⟩
 · exact name_of_addr x.apart (PySem.mem_of_lookup h1) (PySem.mem_of_lookup h2)
 · have hy:scope.names.lookup y=some .cell∨scope.names.lookup y=some .free:=hy
   rcases hy with hy | hy
   · exact cell_has hy
   · exact absurd rfl (S.nofree _ (PySem.mem_of_lookup hy))
 · exact Nat.le_of_lt (x.above y c (PySem.mem_of_lookup h))
 · have hi:i < vs.length:=by
    unfold start at h2
    by_cases hi:i < vs.length
    · exact hi
    · rw [List.getElem?_append_right (by simpa using hi)]at h2
      rw [List.getElem?_replicate]at h2
      split at h2 <;> cases h2
   have ha:vs[i]?=some v:=by
    unfold start at h2
    rw [List.getElem?_append_left (by simpa using hi),List.getElem?_map]at h2
    cases e:vs[i]? with
    | none=>rw [e]at h2;cases h2
    | some a=>rw [e]at h2;cases h2;rfl
   obtain ⟨u,hu,rv⟩:=r.get ha
   have hp:ps[i]?=some y:=by
    rw [← S.pre,List.getElem?_take_of_lt (by omega)];exact h1
   have ndP:ps.Nodup:=by rw [← S.pre];exact S.nd.sublist (List.take_sublist _ _)
   refine ⟨u,rv,?_⟩
   rcases S.par y (List.mem_of_getElem? hp) with k | k
   · exact .inl ⟨k,bindL_get ndP hp hu k⟩
   · obtain ⟨c,e⟩:=cell_has (n:=s.heap.objs.size+1) k
     refine .inr ⟨.inl k,c,e,?_⟩
     have q:=x.cell y c e
     rw [bindC_get ndP hp hu (by show scope.names.lookup y≠_;rw [k];decide)]at q
     exact q
 · exact e0.hok.fresh (Nat.le_of_lt (x.above y c (PySem.mem_of_lookup h)))
 · unfold start
   show _=N.length
   rw [List.length_append,List.length_map,List.length_replicate]
   omega
theorem fn_of{CX:CXT}{P:Program}{w:World}{K:PySem.W.Frag}{mg:Str→Option Value}{base:Heap}{k:Nat}{f:Addr}{name qual:Str}{params:Arguments}{body:List Stmt}{scope:Scope}{dV kV doc pm cdv ct oc:Value}{an od:Option Addr}
 {osl:Array (Option Value)} {N ps:List Str} {sp:Sp} (lk:K.lookup f=some ⟨oc,od,.func (PySem.W.fnOf name qual params body scope dV kV doc pm an cdv ct),osl⟩) (hcd:PySem.W.codeIn K cdv qual=true) (S:FnScope N ps scope)
 (len:∀vs H Q E,sp vs H Q E→vs.length=ps.length)
 (hbody:∀(A:Around) (outer:List Env) (s:Shared) (H:Hp) (vs:List V) (Q:VK) (E:XK),Room k (A.deeper (envOfC qual scope s.heap.objs.size f cdv))→sp vs H Q E→
  ∃t,PSs (cxOf CX P w K mg base N qual scope f cdv A outer s H E) body t∧t {nx:=fun _ H'=>Q .non H',rt:=Q} (start N vs) H):
 FnOk P w K mg base CX (k+1) f (PySem.W.fnOf name qual params body scope dV kV doc pm an cdv ct) ps sp:=by
 refine ⟨len,fun A outer s H args us vs Q E hr e0 hb r hsp=>?_⟩
 have hl:=len _ _ _ _ hsp
 have KX:K.In s.heap:=e0.mod.kin.keeps fun b o e=>(e0.bs b o e).1
 have lim:s.heap.NoLimit:=e0.mod.nolimit.keeps fun b o e=>(e0.bs b o e).1
 have hkind:∀y∈ps.zip us,scope.names.lookup y.1=some .local∨(scope.names.lookup y.1=some .cell∧((cellsFrom (s.heap.objs.size+1) scope.names []).lookup y.1).isSome=true):=fun ⟨n,v⟩ hy=>by
  rcases S.par n (List.of_mem_zip hy).1 with q | q
  · exact .inl q
  · exact .inr ⟨q,PySem.W.cellsFrom_some _ _ _ (.inl q)⟩
 refine codeAny_call_function hr.depth (KX _ _ lk) rfl S.co S.gen rfl (PySem.W.codeRec_of KX hcd) (hb _ _ _ _ ?_)
 refine wpAny_newFunctionEnv_cells S.kind hkind fun env he s1 x=>?_
 subst he
 refine ⟨lim.keeps x.toInCall.keep,codeAny_func ?_⟩
 obtain ⟨t,ht,hq⟩:=hbody A outer s H vs Q E (hr.deeper _) hsp
 have I:Inv (cxOf CX P w K mg base N qual scope f cdv A outer s H E) [] (start N vs) H s1:=inv_start S hr.hd e0 hl r x
 refine wpAny_mono (ht [] s1 (start N vs) H _ I hq) (fun fl s' hs=>?_) fun e s' hs=>hs
 have fin:∀{σ':St} {H':Hp} {v:V} {u:Value},Inv (cxOf CX P w K mg base N qual scope f cdv A outer s H E) [] σ' H' s'→RelV v u→Q v H'→CE outer P w H s Q u s':=
  fun {σ' H' v u} J rv q=>⟨v,H',J.os,J.bare,J.base,J.hok,rv,q⟩
 cases fl with
 | ret u=>
  obtain ⟨v,σ',H',J,rv,q⟩:=hs
  exact fin J rv q
 | next=>
  obtain ⟨σ',H',J,q⟩:=hs
  exact fin (v:=V.non) (u:=Value.none) J rfl q
 | brk=>
  obtain ⟨_,_,_,q⟩:=hs
  exact False.elim q
 | cont=>
  obtain ⟨_,_,_,q⟩:=hs
  exact False.elim q
end L2
namespace L2
section
variable {X:Cx} {x:Str} {p pos:Pos} {e:Expr} {es:List Expr} {t:TA} {id T:String} {r:List V→Hp→VK→Prop}
noncomputable def tCB(r:List V→Hp→VK→Prop)(t:TA):TE:=fun σ H Q=>t σ H fun vs H1=>r vs H1 Q
theorem pe_callB(hc:CallR X (.builtin id) r)(hg:Gl X x)(hm:X.mg x=none)(hv:bootBuiltins x=some (.builtin id))(ha:PA X (e::es) t)(hn:x≠"__name__":=by decide)(hdb:(x==("__debug__":Str))=false:=by decide)
 (he:starEach (e::es) X.env=(false,eval e X.env)::starEach es X.env:=by rfl) (hpl:(backTo pos (starEach es X.env)).any (·.1)=false:=by rfl):PE X (.Call (.Name x p) (e::es) [] pos) (tCB r t):=by
 intro pins s σ H Q I h
 refine wpAny_Call_Name_kw (ld_blt I hg hm hv ?_ hn hdb)
 exact PyProof.Rows.callWith_builtin1 (thn (ha pos pins s σ H _ I h) fun us s1 ⟨vs,H1,I1,r1,q1⟩=>hc pins s1 σ H1 vs us Q I1 r1 q1) he hpl
theorem pe_callTy(hc:CallR X (.type T) r)(hg:Gl X x)(hm:X.mg x=none)(hv:bootBuiltins x=some (.type T))(ha:PA X (e::es) t)(hn:x≠"__name__":=by decide)(hdb:(x==("__debug__":Str))=false:=by decide)
 (he:starEach (e::es) X.env=(false,eval e X.env)::starEach es X.env:=by rfl) (hpl:(backTo pos (starEach es X.env)).any (·.1)=false:=by rfl):PE X (.Call (.Name x p) (e::es) [] pos) (tCB r t):=by
 intro pins s σ H Q I h
 refine wpAny_Call_Name_kw (ld_blt I hg hm hv ?_ hn hdb)
 exact PyProof.Rows.callWith_type1 (thn (ha pos pins s σ H _ I h) fun us s1 ⟨vs,H1,I1,r1,q1⟩=>hc pins s1 σ H1 vs us Q I1 r1 q1) he hpl
end
end L2
namespace HT
open PySem PyProof.Rows
section
variable {prog:Program} {w:World} {A:Around} {E:Value→Shared→Prop} {s:Shared}
noncomputable def sIx(n d:Nat):Option Int→Nat
 | none=>d
 | some v=>if v < 0 then (v+(n:Int)).toNat else min v.toNat n
theorem sIx_nat(n d k:Nat):sIx n d (some (k:Int))=min k n:=by
 show (if (k:Int) < 0 then ((k:Int)+(n:Int)).toNat else min (k:Int).toNat n)=min k n
 rw [if_neg (by omega),Int.toNat_natCast]
end
end HT
namespace L2
noncomputable abbrev TO:=St→Hp→(Option Int→Hp→Prop)→Prop
noncomputable def PO(X:Cx)(e:Option Expr)(t:TO):Prop:=
 ∀(pins:List (Addr×Obj)) (s:Shared) (σ:St) (H:Hp) (Q:Option Int→Hp→Prop),Inv X pins σ H s→t σ H Q→
   wpAny (model X.prog X.w) X.A (evalPart e X.env) (fun u s'=>∃o H',Inv X pins σ H' s'∧IsPart u o∧Q o H') X.xe s
noncomputable def tNoPart:TO:=fun _ H Q=>Q none H
noncomputable def tPart(t:TE):TO:=fun σ H Q=>t σ H fun x H1=>∃i,x= .int i∧Q (some i) H1
section
variable {X:Cx} {e:Expr} {te:TE} {lo hi:Option Expr} {tl th:TO} {pos p2:Pos}
theorem po_none:PO X none tNoPart:=by
 intro pins s σ H Q I h
 rw [evalPart_none]
 exact wpAny_pure ⟨none,H,I,.none,h⟩
theorem po_some(h:PE X e te):PO X (some e) (tPart te):=by
 intro pins s σ H Q I hw
 rw [evalPart_some]
 refine thn (h pins s σ H _ I hw) fun u s1 hq_=>?_
 obtain ⟨x,H1,I1,r1,q1⟩:=hq_
 obtain ⟨i,rfl,q⟩:=q1
 obtain ⟨t,rfl⟩:=r1
 exact ⟨some i,H1,I1,.int i t,q⟩
noncomputable def SlR(X:Cx)(r:V→Option Int→Option Int→Hp→VK→Prop):Prop:=
 ∀(pins:List (Addr×Obj)) (s:Shared) (σ:St) (H:Hp) (x:V) (v vl vu:Value) (lo hi:Option Int) (sl:Addr) (Q:VK),Inv X pins σ H s→RelV x v→s.heap.IsSliceOf sl vl vu .none→IsPart vl lo→IsPart vu hi→r x lo hi H Q→
   ∃T id,typeLookup (.type T) "__getitem__"=pure (some (.builtin id))∧s.TypeIs v T∧wpAny (model X.prog X.w) X.A (getItem v (.ref sl)) (EP X pins σ Q) X.xe s
noncomputable def tSl(r:V→Option Int→Option Int→Hp→VK→Prop)(te:TE)(tl th:TO):TE:=fun σ H Q=>te σ H fun x H1=>tl σ H1 fun l H2=>th σ H2 fun u H3=>r x l u H3 Q
theorem pe_slice{r:V→Option Int→Option Int→Hp→VK→Prop}(hr:SlR X r)(he:PE X e te)(hl:PO X lo tl)(hu:PO X hi th):PE X (.Subscript e (.Slice lo hi none p2) pos) (tSl r te tl th):=by
 intro pins s σ H Q I h
 refine Subscript_ (thn (he pins s σ H _ I h) fun v s1 hq_=>?_)
 obtain ⟨x,H1,I1,r1,q1⟩:=hq_
 refine wpAny_Slice (thn (hl pins s1 σ H1 _ I1 q1) fun vl s2 ⟨l,H2,I2,pl,q2⟩=>thn (hu pins s2 σ H2 _ I2 q2) fun vu s3 hq_=>?_)
 obtain ⟨u,H3,I3,pu,q3⟩:=hq_
 rw [evalPart_none]
 refine wpAny_pure ?_
 have I4:Inv X pins σ H3 {s3 with heap:=s3.heap.push {cls:= .type "slice",data:= .fields #[vl,vu,.none]}}:=I3.kept (t':=s3.toks) fun b ob q=>Heap.get?_push_of_some _ q
 obtain ⟨T,id,hT,ht,hg⟩:=hr pins {s3 with heap:=s3.heap.push {cls:= .type "slice",data:= .fields #[vl,vu,.none]}} σ H3 x v vl vu l u s3.heap.objs.size Q I4 r1 (Heap.IsSliceOf.new ..) pl pu q3
 show wpAny (model X.prog X.w) X.A (subscriptTail e (.Slice lo hi none p2) v (.ref s3.heap.objs.size)) (EP X pins σ Q) X.xe {s3 with heap:=s3.heap.push {cls:= .type "slice",data:= .fields #[vl,vu,.none]}}
 exact tail_any (ops:=[.ref s3.heap.objs.size,v]) ht hT hg (by with_unfolding_all rfl)
noncomputable def cutV(xs:List V)(lo hi:Option Int):List V:=(xs.drop (HT.sIx xs.length 0 lo)).take (HT.sIx xs.length xs.length hi - HT.sIx xs.length 0 lo)
theorem cutV_length(xs:List V)(lo hi:Option Int):(cutV xs lo hi).length≤xs.length:=by
 unfold cutV
 rw [List.length_take,List.length_drop]
 omega
end
end L2
namespace L2
noncomputable def ixN(n:Nat)(i:Int):Option Nat:=if 0≤i then (if i < n then some i.toNat else none) else if -(n:Int)≤i then some (i+n).toNat else none
noncomputable def atI{α:Type}(xs:List α)(i:Int):Option α:=(ixN xs.length i).bind fun j=>xs[j]?
theorem ixN_seq{n:Nat}{i:Int}{j:Nat}(h:ixN n i=some j):seqIndex? i n=some j∧j < n∧-(n:Int)≤i∧i < n:=by
 unfold ixN at h
 by_cases h0:0≤i
 · rw [if_pos h0]at h
   by_cases h1:i < n
   · rw [if_pos h1]at h
     have e:i.toNat=j:=Option.some.inj h
     exact ⟨by rw [seqIndex_of h0 h1,e],by omega,by omega,h1⟩
   · rw [if_neg h1]at h;cases h
 · rw [if_neg h0]at h
   by_cases h1:-(n:Int)≤i
   · rw [if_pos h1]at h
     have e:(i+n).toNat=j:=Option.some.inj h
     exact ⟨by rw [seqIndex_neg (by omega) h1,e],by omega,h1,by omega⟩
   · rw [if_neg h1]at h;cases h
theorem atI_get{α:Type}{xs:List α}{i:Int}{v:α}(h:atI xs i=some v):∃j,seqIndex? i xs.length=some j∧xs[j]?=some v∧j < xs.length∧-(xs.length:Int)≤i∧i < xs.length:=by
 unfold atI at h
 cases e:ixN xs.length i with
 | none=>rw [e]at h;cases h
 | some j=>
  rw [e]at h
  obtain ⟨h1,h2,h3,h4⟩:=ixN_seq e
  exact ⟨j,h1,h,h2,h3,h4⟩
theorem atI_nat{α:Type}{xs:List α}{j:Nat}{v:α}(h:xs[j]?=some v):atI xs (j:Int)=some v:=by
 have hj:j < xs.length:=(List.getElem?_eq_some_iff.mp h).1
 have e:ixN xs.length (j:Int)=some j:=by
  unfold ixN
  rw [if_pos (by omega),if_pos (by omega)];simp
 unfold atI;rw [e];exact h
theorem atI_last{α:Type}(xs:List α)(v:α):atI (xs++[v]) (-1)=some v:=by
 have hl:(xs++[v]).length=xs.length+1:=by simp
 have e:ixN (xs++[v]).length (-1)=some xs.length:=by
  unfold ixN
  rw [hl,if_neg (by decide),if_pos (by omega)]
  congr 1
  omega
 unfold atI
 rw [e]
 show (xs++[v])[xs.length]?=some v
 simp
noncomputable def PlainIx(b:Expr):Prop:=∀o i,subscripted b false o i=operate [o,i] (getItem o i)
noncomputable def IxR(X:Cx)(r:R2):Prop:=
 ∀(value slice:Expr) (pins:List (Addr×Obj)) (s:Shared) (σ:St) (H:Hp) (x y:V) (v u:Value) (Q:VK),Inv X pins σ H s→RelV x v→RelV y u→r x y H Q→
   subscripted slice false v u=operate [v,u] (getItem v u)→wpAny (model X.prog X.w) X.A (subscriptTail value slice v u) (EP X pins σ Q) X.xe s
noncomputable def MtR(X:Cx)(id:String)(r:V→List V→Hp→VK→Prop):Prop:=
 ∀(pins:List (Addr×Obj)) (s:Shared) (σ:St) (H:Hp) (x:V) (xs:List V) (v:Value) (us:List Value) (Q:VK),Inv X pins σ H s→RelV x v→Vals xs us→r x xs H Q→
   wpAny (model X.prog X.w) X.A (call (.builtin id) (v::us)) (EP X pins σ Q) X.xe s
section
variable {X:Cx} {a b:Expr} {ta tb:TE} {pos:Pos}
theorem pe_ix{r:R2}(hr:IxR X r)(ha:PE X a ta)(hb:PE X b tb)(hs:PlainIx b):PE X (.Subscript a b pos) (tOp r ta tb):=by
 intro pins s σ H Q I h
 exact Subscript_ (binT ha hb I h fun v u s2 x y H2 I2 rx ry q=>hr a b pins s2 σ H2 x y v u Q I2 rx ry q (hs _ _))
noncomputable def rIxL(K:PySem.W.Frag):R2:=fun x y H Q=>∃p xs i v,x= .ref p∧y= .int i∧SqL K H p xs∧atI xs i=some v∧Q v H
noncomputable def rIxT(K:PySem.W.Frag):R2:=fun x y H Q=>∃p xs i v,x= .ref p∧y= .int i∧SqT K H p xs∧atI xs i=some v∧Q v H
noncomputable def rIxS:R2:=fun x y H Q=>∃z i c,x= .str z∧y= .int i∧z.length≤sizeLine∧atI z.cps.toList i=some c∧Q (.str ⟨#[c]⟩) H
theorem ix_list:IxR X (rIxL X.K):=by
 intro value slice pins s σ H x y v u Q I rx ry h hs
 obtain ⟨p,xs,i,z,rfl,rfl,hq,he,q⟩:=h
 cases rx
 obtain ⟨t,rfl⟩:=ry
 obtain ⟨its,r,pl,hz⟩:=I.list hq
 obtain ⟨j,h1,h2,h3,h4,h5⟩:=atI_get he
 obtain ⟨w,ew,rw'⟩:=r.get h2
 have hl:=r.length
 have hn:=line63
 have fin:EP X pins σ Q w s:=⟨z,H,I,rw',q⟩
 by_cases h0:0≤i
 · have hj:i.toNat=j:=by
    rw [seqIndex_of h0 h5]at h1
    exact Option.some.inj h1
   exact item_listR pl.isList h0 (by omega) (by rw [hj];simpa using ew) fin hs
 · have hj:(i+(its.toArray.size:Int)).toNat=j:=by
    rw [seqIndex_neg (by omega) h4]at h1
    rw [List.size_toArray,← hl]
    exact Option.some.inj h1
   exact subscriptTail_builtinR (x:=w) pl.isList.typeIs slot_list_getitem.lookup
    (wpAny_getItem_list_neg (Q:=fun r s'=>r=w∧EP X pins σ Q r s') pl.isList (by omega) (by rw [List.size_toArray] <;> omega) (by omega) (by rw [hj];simpa using ew) ⟨rfl,fin⟩) hs
theorem ix_tup:IxR X (rIxT X.K):=by
 intro value slice pins s σ H x y v u Q I rx ry h hs
 obtain ⟨p,xs,i,z,rfl,rfl,hq,he,q⟩:=h
 cases rx
 obtain ⟨t,rfl⟩:=ry
 obtain ⟨its,r,pl,hz⟩:=I.tuple hq
 obtain ⟨j,h1,h2,h3,h4,h5⟩:=atI_get he
 obtain ⟨w,ew,rw'⟩:=r.get h2
 have hl:=r.length
 have hn:=line63
 have fin:EP X pins σ Q w s:=⟨z,H,I,rw',q⟩
 exact subscriptTail_builtinR (x:=w) pl.typeIs slot_tuple_getitem.lookup
  (getItem_tuple (j:=j) (Q:=fun r s'=>r=w∧EP X pins σ Q r s') pl (by omega) (by omega) (by rw [List.size_toArray,← hl];exact h1) (by simpa using ew) ⟨rfl,fin⟩) hs
theorem ix_str:IxR X rIxS:=by
 intro value slice pins s σ H x y v u Q I rx ry h hs
 obtain ⟨z,i,c,rfl,rfl,hz,he,q⟩:=h
 obtain ⟨t,rfl⟩:=rx
 obtain ⟨t',rfl⟩:=ry
 obtain ⟨j,h1,h2,h3,h4,h5⟩:=atI_get he
 have hl:z.cps.toList.length=z.length:=by simp [Str.length]
 rw [hl]at h1 h4 h5
 have hn:=line63
 exact tail_any (typeIs_str s z t) slot_str_getitem.lookup (getItem_str (c:=c) (by
  have e1:decide (i < -(2 ^ 63:Int))=false:=decide_eq_false (by omega)
  have e2:decide (i ≥ 2 ^ 63)=false:=decide_eq_false (by omega)
  rw [e1,e2,Bool.or_false]) (by rw [h1];simpa using h2) ⟨.str ⟨#[c]⟩,H,I.tok _,⟨_,rfl⟩,q⟩) hs
theorem mapSeq_set(its:List Value)(n j:Nat)(u:Value):Obj.mapSeq (·.setIfInBounds j u) {cls:= .type "list",data:= .seq its.toArray n}={cls:= .type "list",data:= .seq (its.set j u).toArray n}:=by
 simp [Obj.mapSeq]
theorem Inv.lst{pins:List (Addr×Obj)}{σ:St}{H:Hp}{s:Shared}{p:Addr}{xs:List V}(I:Inv X pins σ H s)(h:H p=some (.lst xs)):
 ∃(its:List Value) (n:Nat),Vals xs its∧s.heap.get? p=some {cls:= .type "list",data:= .seq its.toArray n}∧xs.length≤sizeLine:=by
 obtain ⟨z,its,n,r,e⟩:=I.hok p _ h
 exact ⟨its,n,r,e,z⟩
theorem Inv.lstUpd{pins:List (Addr×Obj)}{σ:St}{H:Hp}{s:Shared}{p:Addr}{xs ys:List V}{its its':List Value}{n n':Nat}{f:Obj→Obj}(I:Inv X pins σ H s)(h:H p=some (.lst xs))
 (ho:s.heap.get? p=some {cls:= .type "list",data:= .seq its.toArray n}) (hf:f {cls:= .type "list",data:= .seq its.toArray n}={cls:= .type "list",data:= .seq its'.toArray n'}) (r:Vals ys its') (hz:ys.length≤sizeLine) (t:Nat):
 Inv X pins σ (upd H p (.lst ys)) {s with heap:=s.heap.update p f,toks:=t}:=by
 have e:(s.heap.update p f).get? p=some {cls:= .type "list",data:= .seq its'.toArray n'}:=by
  rw [Heap.get?_update_self f ho (by rw [hf] <;> rfl),hf]
 refine I.write (x:=p) (e:=p) (by rw [h];trivial) (.inl rfl) (fun b u hb q=>(Heap.get?_update_other _ _ (Ne.symm hb)).trans q) ⟨_,e⟩ ?_
 exact ⟨hz,its',n',r,e⟩
noncomputable def rSetL:V→V→V→Hp→(Hp→Prop)→Prop:=fun o i v H Q=>∃p xs k j,o= .ref p∧i= .int k∧H p=some (.lst xs)∧ixN xs.length k=some j∧Q (upd H p (.lst (xs.set j v)))
theorem set_list:PSet X rSetL:=by
 intro pins s σ H o i v ov iv u Q I ro ri rv h
 obtain ⟨p,xs,k,j,rfl,rfl,hp,hj,q⟩:=h
 cases ro
 obtain ⟨t,rfl⟩:=ri
 obtain ⟨its,n,r,ho,hz⟩:=I.lst hp
 obtain ⟨h1,h2,h3,h4⟩:=ixN_seq hj
 have hl:=r.length
 have hn:=line63
 have I':Inv X pins σ (upd H p (.lst (xs.set j v))) {s with heap:=s.heap.update p (Obj.mapSeq (·.setIfInBounds j u))}:=
  I.lstUpd hp ho (mapSeq_set its n j u) (r.set rv j) (by rw [List.length_set];exact hz) s.toks
 by_cases h0:0≤k
 · have hk:k.toNat=j:=by
    rw [seqIndex_of h0 h4]at h1
    exact Option.some.inj h1
   exact PySem.W.ki_setAt ho h0 (by omega) (by rw [List.size_toArray,← hl];exact h4) (by rw [hk];exact ⟨_,I',q⟩)
 · have hk:(k+(its.toArray.size:Int)).toNat=j:=by
    rw [seqIndex_neg (by omega) h3]at h1
    rw [List.size_toArray,← hl]
    exact Option.some.inj h1
   exact PySem.W.ki_setBack ho (by omega) (by rw [List.size_toArray,← hl];exact h3) (by omega) (by rw [hk];exact ⟨_,I',q⟩)
theorem slice_bounds(lo hi:Option Int)(n:Nat):(sliceBounds lo hi none n).1=((HT.sIx n 0 lo:Nat):Int)∧(sliceBounds lo hi none n).2.1=((HT.sIx n n hi:Nat):Int)∧(sliceBounds lo hi none n).2.2=1:=by
 refine ⟨?_,?_,rfl⟩
 · cases lo with
   | none=>simp [sliceBounds,HT.sIx]
   | some i=>
    simp only [sliceBounds,HT.sIx,Option.getD_none,show (1:Int) > 0 by decide,if_true]
    by_cases h:i < 0
    · simp only [h,if_true] <;> omega
    · simp only [h,if_false] <;> omega
 · cases hi with
   | none=>simp [sliceBounds,HT.sIx]
   | some i=>
    simp only [sliceBounds,HT.sIx,Option.getD_none,show (1:Int) > 0 by decide,if_true]
    by_cases h:i < 0
    · simp only [h,if_true] <;> omega
    · simp only [h,if_false] <;> omega
theorem slicePick_cut(its:List Value)(lo hi:Option Int):slicePick its.toArray lo hi none=((its.drop (HT.sIx its.length 0 lo)).take (HT.sIx its.length its.length hi - HT.sIx its.length 0 lo)).toArray:=by
 obtain ⟨h1,h2,h3⟩:=slice_bounds lo hi its.toArray.size
 unfold slicePick
 rw [h1,h2,h3]
 simp only [sliceRange_one,pick_run,List.size_toArray] <;> rfl
noncomputable def rSlL(K:PySem.W.Frag):V→Option Int→Option Int→Hp→VK→Prop:=fun x lo hi H Q=>∃a xs,x= .ref a∧SqL K H a xs∧∀p,H p=none→Q (.ref p) (upd H p (.lst (cutV xs lo hi)))
theorem sl_list:SlR X (rSlL X.K):=by
 intro pins s σ H x v vl vu lo hi sl Q I rx hs pl pu h
 obtain ⟨a,xs,rfl,hx,q⟩:=h
 cases rx
 obtain ⟨its,r,ht,hz⟩:=I.list hx
 have hlen:=r.length
 refine ⟨"list",_,slot_list_getitem.lookup,ht.isList.typeIs,?_⟩
 refine wpAny_getItem_list_slice ht.isList hs pl pu .none (by simp) ?_ (by rw [List.size_toArray] <;> omega)
 rw [slicePick_cut,← hlen]
 refine ⟨.ref s.heap.objs.size,_,I.laid (t':=s.toks) (o:= .lst (cutV xs lo hi)) (fun b ob q=>Heap.get?_push_of_some _ q) (Nat.le_refl _) ?_,rfl,q _ (I.hok.fresh (Nat.le_refl _))⟩
 exact ⟨Nat.le_trans (cutV_length xs lo hi) hz,_,0,(r.drop (HT.sIx xs.length 0 lo)).take (HT.sIx xs.length xs.length hi - HT.sIx xs.length 0 lo),Heap.get?_push_size _ rfl⟩
noncomputable def flatV:V→Bool
 | .non=>true
 | .bl _=>true
 | .int _=>true
 | .str _=>true
 | _=>false
noncomputable def eqV:V→V→Bool
 | .non,.non=>true
 | .bl a,.bl b=>a==b
 | .bl a,.int b=>(if a then 1 else 0)==b
 | .int a,.bl b=>a==(if b then 1 else 0)
 | .int a,.int b=>a==b
 | .str a,.str b=>a==b
 | _,_=>false
theorem eqAt_V{A:Around}{s:Shared}{y x:V}{u v:Value}(ry:RelV y u)(rx:RelV x v)(fy:flatV y=true)(fx:flatV x=true):SeqAt.EqAt A s u v (eqV y x):=by
 cases y with
 | non=>
  cases ry
  cases x with
  | non=>cases rx;exact SeqAt.EqAt.same _
  | bl b=>cases rx;exact SeqAt.EqAt.none_bool b
  | int b=>obtain ⟨t,rfl⟩:=rx;exact SeqAt.EqAt.none_int b t
  | str b=>obtain ⟨t,rfl⟩:=rx;exact SeqAt.EqAt.none_str b t
  | _=>exact absurd (show false=true from fx) Bool.false_ne_true
 | bl a=>
  cases ry
  cases x with
  | non=>cases rx;exact SeqAt.EqAt.bool_none a
  | bl b=>cases rx;exact SeqAt.EqAt.bool_bool a b
  | int b=>obtain ⟨t,rfl⟩:=rx;exact SeqAt.EqAt.bool_int a b t
  | str b=>obtain ⟨t,rfl⟩:=rx;exact SeqAt.EqAt.bool_str a b t
  | _=>exact absurd (show false=true from fx) Bool.false_ne_true
 | int a=>
  obtain ⟨t',rfl⟩:=ry
  cases x with
  | non=>cases rx;exact SeqAt.EqAt.int_none a t'
  | bl b=>cases rx;exact SeqAt.EqAt.int_bool a t' b
  | int b=>obtain ⟨t,rfl⟩:=rx;exact SeqAt.EqAt.int_int a t' b t
  | str b=>obtain ⟨t,rfl⟩:=rx;exact SeqAt.EqAt.int_str a t' b t
  | _=>exact absurd (show false=true from fx) Bool.false_ne_true
 | str a=>
  obtain ⟨t',rfl⟩:=ry
  cases x with
  | non=>cases rx;exact SeqAt.EqAt.str_none a t'
  | bl b=>cases rx;exact SeqAt.EqAt.str_bool a t' b
  | int b=>obtain ⟨t,rfl⟩:=rx;exact SeqAt.EqAt.str_int a t' b t
  | str b=>obtain ⟨t,rfl⟩:=rx;exact SeqAt.EqAt.str_str a t' b t
  | _=>exact absurd (show false=true from fx) Bool.false_ne_true
 | _=>exact absurd (show false=true from fy) Bool.false_ne_true
noncomputable def eqU(x:V)(u:Value):Bool:=match u with
 | .none=>eqV .non x
 | .bool b=>eqV (.bl b) x
 | .int i _=>eqV (.int i) x
 | .str z _=>eqV (.str z) x
 | _=>false
theorem eqU_of{x y:V}{u:Value}(r:RelV y u)(f:flatV y=true):eqU x u=eqV y x:=by
 cases y with
 | non=>cases r;rfl
 | bl b=>cases r;rfl
 | int i=>obtain ⟨t,rfl⟩:=r;rfl
 | str z=>obtain ⟨t,rfl⟩:=r;rfl
 | _=>exact absurd (show false=true from f) Bool.false_ne_true
theorem any_eqU{x:V}:∀{xs:List V} {us:List Value},Vals xs us→xs.all flatV=true→us.any (eqU x)=xs.any fun y=>eqV y x
 | _,_,.nil,_=>rfl
 | y::xs,u::us,.cons r t,f=>by
  rw [List.all_cons,Bool.and_eq_true]at f
  rw [List.any_cons,List.any_cons,eqU_of r f.1,any_eqU t f.2]
theorem mem_eqAt{A:Around}{s:Shared}{x:V}{v:Value}(rx:RelV x v)(fx:flatV x=true):∀{xs:List V} {us:List Value},Vals xs us→xs.all flatV=true→∀u∈us,SeqAt.EqAt A s u v (eqU x u)
 | _,_,.nil,_=>fun u hu=>by cases hu
 | y::xs,u::us,.cons r t,f=>fun u' hu=>by
  rw [List.all_cons,Bool.and_eq_true]at f
  rcases List.mem_cons.mp hu with rfl | hu
  · rw [eqU_of r f.1];exact eqAt_V r rx f.1 fx
  · exact mem_eqAt rx fx t f.2 u' hu
noncomputable def inV(x:V)(xs:List V):Bool:=xs.any fun y=>eqV y x
noncomputable def rIn(K:PySem.W.Frag)(neg:Bool):R2:=fun x y H Q=>∃p xs,y= .ref p∧(SqL K H p xs∨SqT K H p xs)∧flatV x=true∧xs.all flatV=true∧Q (.bl (if neg then !inV x xs else inV x xs)) H
theorem op_in_seq:OpR X (compareOp .In) (rIn X.K false):=by
 intro pins s σ H x y v u Q I rx ry h
 obtain ⟨p,xs,rfl,hq,fx,fs,q⟩:=h
 cases ry
 rcases hq with hq | hq
 · obtain ⟨its,r,pl,hz⟩:=I.list hq
   refine SeqAt.in_listAt (eqU x) pl.isList (fun w hw=>mem_eqAt rx fx r fs w (by simpa using hw)) ⟨.bl _,H,I,rfl,?_⟩
   rw [show its.toArray.any (eqU x)=its.any (eqU x) by simp,any_eqU r fs]
   exact q
 · obtain ⟨its,r,pl,hz⟩:=I.tuple hq
   refine SeqAt.in_tupleAt (eqU x) pl (fun w hw=>mem_eqAt rx fx r fs w (by simpa using hw)) ⟨.bl _,H,I,rfl,?_⟩
   rw [show its.toArray.any (eqU x)=its.any (eqU x) by simp,any_eqU r fs]
   exact q
theorem call_len_seq:CallR X (.builtin "len") (fun xs H Q=>∃p ys,xs=[.ref p]∧(SqL X.K H p ys∨SqT X.K H p ys)∧Q (.int ys.length) H):=by
 intro pins s σ H xs us Q I r h
 obtain ⟨p,ys,rfl,hq,q⟩:=h
 obtain ⟨u,rfl,rx⟩:=vals1 r
 cases rx
 have hn:=line63
 rcases hq with hq | hq
 · obtain ⟨its,r',pl,hz⟩:=I.list hq
   have hlen:=r'.length
   exact Calls.call_len_list pl.isList (by simp only [List.size_toArray] <;> omega) ⟨.int ys.length,H,I.tok _,⟨s.toks+1,by rw [List.size_toArray,hlen]⟩,q⟩
 · obtain ⟨its,r',pl,hz⟩:=I.tuple hq
   have hlen:=r'.length
   exact len_tuple pl (by simp only [List.size_toArray] <;> omega) ⟨.int ys.length,H,I.tok _,⟨s.toks+1,by rw [List.size_toArray,hlen]⟩,q⟩
theorem call_len_str:CallR X (.builtin "len") (fun xs H Q=>∃z,xs=[.str z]∧z.length≤sizeLine∧Q (.int z.length) H):=by
 intro pins s σ H xs us Q I r h
 obtain ⟨z,rfl,hz,q⟩:=h
 obtain ⟨u,rfl,t,rfl⟩:=vals1 r
 have hn:=line63
 exact len_str (by omega) ⟨.int z.length,H,I.tok _,⟨_,rfl⟩,q⟩
theorem call_list_of:CallR X (.type "list") (fun xs H Q=>∃p ys,xs=[.ref p]∧(SqL X.K H p ys∨SqT X.K H p ys)∧∀l,H l=none→Q (.ref l) (upd H l (.lst ys))):=by
 intro pins s σ H xs us Q I r h
 obtain ⟨p,ys,rfl,hq,q⟩:=h
 obtain ⟨u,rfl,rx⟩:=vals1 r
 cases rx
 have fin:∀(its:List Value),Vals ys its→ys.length≤sizeLine→∀(h':Heap) (c':Nat),(∀b o',s.heap.get? b=some o'→h'.get? b=some o')→
  h'.get? s.heap.objs.size=some {cls:= .type "list",dict:=none,data:= .seq its.toArray c',slots:=#[]}→EP X pins σ Q (.ref s.heap.objs.size) {s with heap:=h'}:=fun its r' hz h' c' kp e=>
  ⟨.ref s.heap.objs.size,_,I.laid (t':=s.toks) kp (Nat.le_refl _) (show ObjOk X.prog X.w _ h' _ (.lst ys) from ⟨hz,its,c',r',e⟩),rfl,q _ (I.hok.fresh (Nat.le_refl _))⟩
 rcases hq with hq | hq
 · obtain ⟨its,r',pl,hz⟩:=I.list hq
   have hlen:=r'.length
   obtain ⟨o,ho,hc,n,hd⟩:=pl.isList
   exact call_list_seq p (.inl rfl) ho hc hd (fun h' c' kp e=>fin its r' hz h' c' kp e) (by simp only [List.size_toArray] <;> omega)
 · obtain ⟨its,r',pl,hz⟩:=I.tuple hq
   have hlen:=r'.length
   obtain ⟨o,ho,hc,n,hd⟩:=pl
   exact call_list_seq p (.inr rfl) ho hc hd (fun h' c' kp e=>fin its r' hz h' c' kp e) (by simp only [List.size_toArray] <;> omega)
noncomputable def tyV(K:PySem.W.Frag)(T:String)(x:V)(H:Hp):Prop:=match x with
 | .str _=>T="str"
 | .int _=>T="int"
 | .ref p=>(T="list"∧∃xs,SqL K H p xs)∨(T="tuple"∧∃o,K.lookup p=some o∧o.cls= .type "tuple"∧o.dict=none)∨
  (T="dict"∧((∃kvs,H p=some (.dK kvs))∨∃kvs,H p=some (.dT kvs)))∨(T="set"∧∃S n,H p=some (.set S n))
 | _=>False
theorem tyV_is{pins:List (Addr×Obj)}{σ:St}{H:Hp}{s:Shared}{T:String}{x:V}{v:Value}(I:Inv X pins σ H s)(r:RelV x v)(ty:tyV X.K T x H):
 s.TypeIs v T∧∀a,v= .ref a→∃ob,s.heap.get? a=some ob∧ob.dict=none:=by
 cases x with
 | str z=>
  obtain ⟨t,rfl⟩:=r
  cases (show T="str" from ty)
  exact ⟨typeIs_str s z t,fun _ e=>nomatch e⟩
 | int i=>
  obtain ⟨t,rfl⟩:=r
  cases (show T="int" from ty)
  exact ⟨typeIs_int s i t,fun _ e=>nomatch e⟩
 | ref p=>
  cases r
  rcases ty with ⟨rfl,xs,hq⟩ | ⟨rfl,o,hk,hc,hd⟩ | ⟨rfl,hk⟩ | ⟨rfl,S,n,hk⟩
  · obtain ⟨its,_,pl,_⟩:=I.list hq
    refine ⟨pl.isList.typeIs,fun a e=>?_⟩
    cases e
    obtain ⟨o,n,e,c,hd,_⟩:=pl
    exact ⟨o,e,hd⟩
  · refine ⟨⟨o,I.kIn p o hk,hc⟩,fun a e=>?_⟩
    cases e
    exact ⟨o,I.kIn _ o hk,hd⟩
  · have z:∃o,s.heap.get? p=some o∧o.ExactDict:=by
     rcases hk with ⟨kvs,hk⟩ | ⟨kvs,hk⟩
     · obtain ⟨_,_,_,_,o,_,_,e,ex,_⟩:=I.hok p _ hk
       exact ⟨o,e,ex⟩
     · obtain ⟨_,_,_,_,o,_,_,e,ex,_⟩:=I.hok p _ hk
       exact ⟨o,e,ex⟩
    obtain ⟨o,e,ex⟩:=z
    refine ⟨⟨o,e,ex.1⟩,fun a e2=>?_⟩
    cases e2
    exact ⟨o,e,ex.2.1⟩
  · obtain ⟨o,_,_,_,e,ex,_⟩:=I.hok p _ hk
    refine ⟨⟨o,e,ex.1⟩,fun a e2=>?_⟩
    cases e2
    exact ⟨o,e,ex.2.1⟩
 | _=>exact False.elim ty
noncomputable def tBM0(K:PySem.W.Frag)(T:String)(r:V→List V→Hp→VK→Prop)(to:TE):TE:=fun σ H Q=>to σ H fun x H1=>tyV K T x H1∧r x [] H1 Q
noncomputable def tBM(K:PySem.W.Frag)(T:String)(r:V→List V→Hp→VK→Prop)(to:TE)(t:TA):TE:=fun σ H Q=>to σ H fun x H1=>tyV K T x H1∧t σ H1 fun xs H2=>r x xs H2 Q
variable {o e:Expr} {es:List Expr} {to:TE} {t:TA} {name:Str} {apos cpos:Pos} {T id:String} {r:V→List V→Hp→VK→Prop}
theorem pe_bm0(pa:PlainAttrs T)(slot:Slot T name id)(hty:typeOf (.builtin id)=pure (.type "method_descriptor"))(hm:MtR X id r)(ho:PE X o to)
 (hbase:attributeBase o name X.env (eval o X.env)=eval o X.env:=by rfl) (hline:(apos.endLine==cpos.line)=true:=by rfl):PE X (.Call (.Attribute o name apos) [] [] cpos) (tBM0 X.K T r to):=by
 intro pins s σ H Q I h
 refine wpAny_Call_method0_late hbase hline (thn (ho pins s σ H _ I h) fun v s1 hq_=>?_)
 obtain ⟨x,H1,I1,r1,ty,q1⟩:=hq_
 obtain ⟨h1,h2⟩:=tyV_is I1 r1 ty
 exact ⟨T,id,pa,slot,hty,h1,h2,Calls.callWith_builtin rfl (PySem.evalArgs_none (hm pins s1 σ H1 x [] v [] Q I1 r1 .nil q1))⟩
theorem pe_bm(pa:PlainAttrs T)(slot:Slot T name id)(hty:typeOf (.builtin id)=pure (.type "method_descriptor"))(hm:MtR X id r)(ho:PE X o to)(ha:PA X (e::es) t)
 (hbase:attributeBase o name X.env (eval o X.env)=eval o X.env:=by rfl)
 (hfew:((backTo cpos (starEach (e::es) X.env)).all (fun x=>!x.1) && (backToKw cpos (keywordEach [] X.env)).all (fun x=>x.1.isSome)
  && decide ((e::es).length+([]:List Keyword).length+(if ([]:List Keyword).isEmpty then 0 else 1) < 30))=true:=by rfl)
 (hline:(apos.endLine==cpos.line)=true:=by rfl) (hs:starEach (e::es) X.env=(false,eval e X.env)::starEach es X.env:=by rfl) (hplain:(backTo cpos (starEach es X.env)).any (·.1)=false:=by rfl):
 PE X (.Call (.Attribute o name apos) (e::es) [] cpos) (tBM X.K T r to t):=by
 intro pins s σ H Q I h
 refine wpAny_Call_method_late hbase hfew hline rfl (thn (ho pins s σ H _ I h) fun v s1 hq_=>?_)
 obtain ⟨x,H1,I1,r1,ty,q1⟩:=hq_
 obtain ⟨h1,h2⟩:=tyV_is I1 r1 ty
 refine ⟨T,id,pa,slot,hty,h1,h2,?_⟩
 have hA:=ha cpos pins s1 σ H1 _ I1 q1
 rw [hs]at hA ⊢
 refine Calls.callWith_builtin (by show (false || (backTo cpos (starEach es X.env)).any (·.1))=false;rw [hplain] <;> rfl) (Calls.evalArgs_plain ?_)
 exact thn hA fun us s2 ⟨vs,H2,I2,r2,q2⟩=>hm pins s2 σ H2 x vs v us Q I2 r1 r2 q2
end
end L2
namespace L2
noncomputable def MtM(X:Cx)(id:String)(r:V→List V→Hp→VK→Prop):Prop:=
 ∀(pins:List (Addr×Obj)) (s:Shared) (σ:St) (H:Hp) (x:V) (xs:List V) (v:Value) (us:List Value) (Q:VK),Inv X pins σ H s→RelV x v→Vals xs us→r x xs H Q→
   wpAny (model X.prog X.w) X.A (call (.builtin id) (v::us)) (EP X pins σ Q) X.xe s
theorem Vals.one:∀{x:V} {us:List Value},Vals [x] us→∃u,us=[u]∧RelV x u
 | _,_,.cons r .nil=>⟨_,rfl,r⟩
theorem Vals.zero:∀{us:List Value},Vals [] us→us=[]
 | _,.nil=>rfl
theorem Vals.eraseIdx:∀{xs:List V} {us:List Value} (i:Nat),Vals xs us→Vals (xs.eraseIdx i) (us.eraseIdx i)
 | _,_,_,.nil=> .nil
 | _,_,0,.cons _ t=>t
 | _,_,i+1,.cons r t=> .cons r (Vals.eraseIdx i t)
section
variable {X:Cx} {pins:List (Addr×Obj)} {σ:St} {H:Hp} {s:Shared} {l b:Addr} {xs ys zs:List V}
theorem Inv.lset{its its':List Value}{n:Nat}{f:Array Value→Array Value}{t':Nat}(I:Inv X pins σ H s)(hH:H l=some (.lst xs))
 (e:s.heap.get? l=some {cls:= .type "list",data:= .seq its.toArray n}) (hf:f its.toArray=its'.toArray) (hv:Vals ys its') (hz:ys.length≤sizeLine):
 Inv X pins σ (upd H l (.lst ys)) {s with heap:=s.heap.update l (Obj.mapSeq f),toks:=t'}:=by
 have q:=PySem.IsL.update e f
 rw [hf]at q
 refine I.write (x:=l) (e:=l) (by rw [hH];exact trivial) (.inl rfl) (fun b' u hb hu=>(Heap.get?_update_other s.heap (Obj.mapSeq f) (Ne.symm hb)).trans hu) ⟨_,q⟩ ?_
 exact ⟨hz,its',_,hv,q⟩
theorem Inv.lnew{its:List Value}{t':Nat}(I:Inv X pins σ H s)(hv:Vals ys its)(hz:ys.length≤sizeLine):
 Inv X pins σ (upd H s.heap.objs.size (.lst ys)) {s with heap:=s.heap.push {cls:= .type "list",data:= .seq its.toArray},toks:=t'}:=
 I.laid (fun _ _ q=>Heap.get?_push_of_some _ q) (Nat.le_refl _) ⟨hz,its,0,hv,Heap.get?_push_size _ rfl⟩
theorem Inv.fresh(I:Inv X pins σ H s):H s.heap.objs.size=none:=I.hok.fresh (Nat.le_refl _)
theorem Inv.lstM(I:Inv X pins σ H s)(hH:H l=some (.lst xs)):xs.length≤sizeLine∧∃(its:List Value) (n:Nat),Vals xs its∧xs.length=its.length∧s.heap.get? l=some {cls:= .type "list",data:= .seq its.toArray n}:=by
 obtain ⟨z,its,n,r,e⟩:=I.hok l _ hH
 exact ⟨z,its,n,r,r.length,e⟩
end
section
variable {X:Cx}
noncomputable def rAppend:V→List V→Hp→VK→Prop:=fun x vs H Q=>∃l xs y,x= .ref l∧vs=[y]∧H l=some (.lst xs)∧xs.length < sizeLine∧Q .non (upd H l (.lst (xs++[y])))
theorem mt_append:MtM X "list.append" rAppend:=by
 intro pins s σ H x vs v us Q I rx rv h
 obtain ⟨l,xs,y,rfl,rfl,hH,hz,q⟩:=h
 cases rx
 obtain ⟨u,rfl,ru⟩:=rv.one
 obtain ⟨z,its,n,r,hl,e⟩:=I.lstM hH
 refine call_meets F.slot_list_append ⟨_,e,rfl⟩ F.entry_list_append (F.args_list_append_2 _ _) (PySem.list_append l its.toArray n u (by rw [List.size_toArray];omega)) ⟨e,?_⟩
 refine ⟨.non,_,I.lset (its':=its++[u]) hH e (by simp) (r.append (.cons ru .nil)) ?_,rfl,q⟩
 rw [List.length_append,List.length_singleton]
 omega
noncomputable def rPopAt:V→List V→Hp→VK→Prop:=fun x vs H Q=>∃l xs i k y,x= .ref l∧vs=[.int i]∧H l=some (.lst xs)∧-(2 ^ 63)≤i∧i < 2 ^ 63∧seqIndex? i xs.length=some k∧xs[k]?=some y∧Q y (upd H l (.lst (xs.eraseIdx k)))
noncomputable def rCat:R2:=fun x y H Q=>∃l b xs zs,x= .ref l∧y= .ref b∧H l=some (.lst xs)∧H b=some (.lst zs)∧xs.length+zs.length≤sizeLine∧∀p,H p=none→Q (.ref p) (upd H p (.lst (xs++zs)))
theorem op_cat:OpR X (binaryOp .Add) rCat:=by
 intro pins s σ H x y v u Q I rx ry h
 obtain ⟨l,b,xs,zs,rfl,rfl,hH,hB,hz,q⟩:=h
 cases rx
 cases ry
 obtain ⟨z,its,n,r,hl,e⟩:=I.lstM hH
 obtain ⟨z2,its2,n2,r2,hl2,e2⟩:=I.lstM hB
 refine PySem.P.add_list e e2 ?_ (by rw [List.size_toArray,List.size_toArray];omega)
 have ea:its.toArray++its2.toArray=(its++its2).toArray:=by simp
 rw [ea]
 exact ⟨.ref _,_,I.lnew (t':=s.toks) (r.append r2) (by rw [List.length_append];omega),rfl,q _ I.fresh⟩
end
end L2
namespace Att
open PySem PySem.W PySem.Calls PyProof.Rows
theorem ints_of_wellAll{P:Params}{h:Heap}:∀(ns:List Int) (vs:List Value),WellAll P h vs (ns.map WData.int)→IntsAre vs ns:=by
 intro ns
 induction ns with
 | nil=>
  intro vs w
  rw [List.map_nil]at w
  cases w
  exact .nil
 | cons n ns ih=>
  intro vs w
  rw [List.map_cons]at w
  cases w with
  | cons a b=>
   cases a
   exact .cons _ _ (ih _ b)
theorem script_of{l:OpenLaw}{n:Nat}(hn:l.most=some n){P:Params}{h:Heap}{args:List WData}{vals:List Value}
 (hpre:l.row.toRowW.claim.pre args=true) (hwl:WellAll P h vals args):
 ∃a vs ns,vals=[Value.ref a]∧args=[WData.list (ns.map WData.int)]∧h.get? a=some {cls:= .type "list",data:= .seq vs.toArray}∧IntsAre vs ns∧ns.length≤n:=by
 have hsh:WShape.hasAll [] args [.list .int]=true:=(pre_splitW hpre).1
 have hc:l.pre.holds [] {args:=args}=true:=(pre_splitW hpre).2
 obtain ⟨d,r,rfl,h1,h2⟩:=hasAllW_cons hsh
 obtain rfl:=hasAllW_nil h2
 obtain ⟨xs,rfl,h3⟩:=hasW_list h1
 obtain ⟨ns,rfl⟩:=items_int h3
 have hlen:ns.length≤n:=by
  unfold OpenLaw.pre at hc
  have h4:(WTm.not (.lt (.lit (.int (n:Int))) (.len (.arg 0)))).holds [] {args:=[.list (ns.map .int)]}=true:=by
   have h4:=(holds_andW hc).1
   rw [hn]at h4
   exact h4
  have h5:=condW_of h4 (w_not (w_lt w_lit (w_len_list (w_arg rfl))))
  rw [List.length_map]at h5
  refine Nat.le_of_not_lt fun q=>?_
  have q':(n:Int) < ((ns.length:Nat):Int):=by omega
  first
   | (rw [decide_eq_true q']at h5;exact absurd h5 (by decide))
   | (simp at h5;omega)
 cases hwl with
 | cons w1 w2=>
  cases w2
  cases w1 with
  | list ho hall=>exact ⟨_,_,ns,rfl,rfl,ho,ints_of_wellAll ns _ hall,hlen⟩
theorem post_true(l:OpenLaw)(args:List WData):l.row.toRowW.claim.post args (.bool true) args=true:=
 postW_of (r:=l.row.toRowW) (X:=(true==true))
  (show WShape.has [] (.bool true) .bool=true by first | rfl | decide | simp [WShape.has,WShape.arms,WShape.armsAll])
  (show (WTm.eq .res (.lit (.bool true))).value [] {args:=args,res:=some (.bool true),after:=args}=some (.bool (true==true)) from w_eq_bool (w_res rfl) w_lit) rfl
theorem attach_call{l:OpenLaw}{n:Nat}{q:Program}{loose:List Str}{XP:(Str→Option Value)→Heap→Prop}{YP:World→Heap→Prop}{d:DefRec}
 (hn:l.most=some n) (hdf:d.params.defaults=[])
 (call:∀(w:World) (s₀ s₁:Shared) (mg mb:Str→Option Value) (fa:Addr) (o:Obj) (pm cd doc:Value) (a:Addr) (vs:List Value) (ns:List Int),
  Ground q loose [] XP w s₀ mg mb s₁.heap→YP w s₁.heap→
  s₁.heap.get? fa=some o→o.data= .func (docDef d.name d.params d.body d.scope pm cd doc)→s₁.heap.CodeRec cd d.name→mg d.name=some (.ref fa)→
  s₁.heap.get? a=some {cls:= .type "list",data:= .seq vs.toArray}→IntsAre vs ns→ns.length≤n→s₁.gens=#[]→
  codeAny (model l.prog w) callerA (.call (.ref fa) ⟨[.ref a],[]⟩) (fun r s'=>r= .ok (.ret (.bool true))∧OldK s₁.heap s'.heap∧s'.os=s₁.os∧AllBare s'.gens) s₁):
 WalkO q loose XP YP l.row.toRowW d [] (fun f vs=>PySem.call f vs):=by
 intro w s₀ s₁ mg mb G Y fa o pm cd doc dV kV ho hd hcd hD hmg hg args vals as hpre hlay hrd hwl hlo
 obtain rfl:dV= .none:=Dflts.none hD hdf
 obtain rfl:kV= .none:=Dflts.noKw hD
 obtain ⟨a,vs,ns,rfl,rfl,hobj,hints,hlen⟩:=script_of hn hpre hwl
 refine enter_call (codeAny_mono (call w s₀ s₁ mg mb fa o pm cd doc a vs ns G Y ho (fd_plain hd) hcd hmg hobj hints hlen hg) fun r s' hq=>?_)
 obtain ⟨rfl,h2,h3,h4⟩:=hq
 exact ⟨.inl ⟨.bool true,.bool true,[],rfl,fun _=>rfl,.bool true,post_true l _,fun _=>⟨List.Pairwise.nil,fun _ hm=>(nomatch hm)⟩⟩,h2,h3,h4⟩
end Att
namespace L2
theorem vals_ints:∀{vs:List Value} {ns:List Int},IntsAre vs ns→Vals (ns.map V.int) vs
 | _,_,.nil=> .nil
 | _,_,.cons n t h=> .cons ⟨t,rfl⟩ (vals_ints h)
noncomputable def Only(H:Hp):Prop:=∀b,H b=none∨∃o xs,H b=some (.frz o (.lst xs))
theorem law_call{P:Program}{w:World}{K:PySem.W.Frag}{mg mb:Str→Option Value}{CX:CXT}{k:Nat}{fa a:Addr}{fd:FuncData}{x:Str}{sp:Sp}{s₁:Shared}{vs:List Value}{ns:List Int}
 (KX:K.In s₁.heap) (hns:s₁.heap.Ns mainGlobals mg) (hb:s₁.heap.Ns builtinsNs mb) (hbb:∀x:Str,x≠"__name__"→mb x=bootBuiltins x) (hlim:s₁.heap.NoLimit) (hg:s₁.gens=#[])
 (ha:s₁.heap.get? a=some {cls:= .type "list",data:= .seq vs.toArray}) (hi:IntsAre vs ns) (hl:ns.length≤sizeLine) (hr:Room k callerA)
 (F:∀base:Heap,K.In base→base.Ns mainGlobals mg→FnOk P w K mg base CX k fa fd [x] sp) (hbind:∀(s:Shared) (u:Value),BindsTo s fd ⟨[u],[]⟩ [(x,u)])
 (hsp:∀H:Hp,Only H→SqL K H a (ns.map V.int)→sp [.ref a] H (fun v _=>v= .bl true) fun _ _ _=>False)
 (hCX:∀H e s',CX [] H s₁ (fun _ _ _=>False) e s'→False):
 codeAny (model P w) callerA (.call (.ref fa) ⟨[.ref a],[]⟩) (fun r s'=>r= .ok (.ret (.bool true))∧OldK s₁.heap s'.heap∧s'.os=s₁.os∧AllBare s'.gens) s₁:=by
 have rv:=vals_ints hi
 have lenV:=hi.length
 have core:∀H:Hp,Only H→SqL K H a (ns.map V.int)→HOk P w H s₁.heap→(∀b,H b≠none→b=a)→(H a≠none→K.lookup a=none)→
  codeAny (model P w) callerA (.call (.ref fa) ⟨[.ref a],[]⟩) (fun r s'=>r= .ok (.ret (.bool true))∧OldK s₁.heap s'.heap∧s'.os=s₁.os∧AllBare s'.gens) s₁:=by
  intro H hO hS hok hA hK
  have base_of:∀{b:Addr} {o:Obj},s₁.heap.get? b=some o→H b=none→(hidT s₁.heap H).get? b=some o:=fun e n=>hidT_get e n
  have noA:∀{b:Addr} {o:Obj} {es:Array DictEntry} {ep:Nat},s₁.heap.get? b=some o→o.data= .dict es ep→H b=none:=fun {b o es ep} e d=>by
   cases q:H b with
   | none=>rfl
   | some u=>
    have e':b=a:=hA b (by rw [q];simp)
    subst e'
    rw [ha]at e;cases e
    have d':Data.seq vs.toArray _=Data.dict es ep:=d
    cases d'
  have nsK:∀{b:Addr} {m:Str→Option Value},s₁.heap.Ns b m→(hidT s₁.heap H).Ns b m:=fun {b m} ⟨o,es,ep,e,d,r⟩=>⟨o,es,ep,base_of e (noA e d),d,r⟩
  have hKb:K.In (hidT s₁.heap H):=fun b o e=>base_of (KX b o e) (by
   cases q:H b with
   | none=>rfl
   | some u=>
    have e':b=a:=hA b (by rw [q];simp)
    subst e'
    rw [hK (by rw [q];simp)]at e;cases e)
  have hM:Mod K mg (hidT s₁.heap H):=⟨hKb,nsK hns,⟨mb,nsK hb,hbb⟩,let ⟨mc,h1,h2⟩:=hlim;⟨mc,nsK h1,h2⟩⟩
  have e0:Env0 P w K mg (hidT s₁.heap H) callerA [] s₁ H:=⟨rfl,hM,fun b o e=>of_hidT e,Nat.le_of_eq (hidT_size _ _),trivial,fun b hb=>absurd (show b∈([]:List Addr) from hb) (by simp),hok,.of_eq hg⟩
  refine codeAny_mono ((F _ hKb (nsK hns)).run callerA [] s₁ H ⟨[.ref a],[]⟩ [.ref a] [.ref a] _ _ hr e0 (hbind s₁ (.ref a)) (.cons rfl .nil) (hsp H hO hS)) fun r s' h=>?_
  cases r with
  | error e=>exact (hCX H e s' h).elim
  | ok fl=>
   cases fl with
   | next=>exact False.elim h
   | brk=>exact False.elim h
   | cont=>exact False.elim h
   | ret u=>
    obtain ⟨v,H',os,bare,un,hok',r',q⟩:=h
    have q':v= .bl true:=q
    subst q'
    obtain rfl:u=Value.bool true:=r'
    refine ⟨rfl,OldK.of_keep fun b o e=>?_,os,bare⟩
    cases q:H b with
    | none=>exact un.keep b o e q (by intro z;exact absurd (show b∈([]:List Addr) from z) (by simp)) (by simp)
    | some u=>
     rcases hO b with z | ⟨ob,xs,z⟩
     · rw [q]at z;cases z
     · have z2:=un.frzs b ob _ z
       obtain ⟨e1,_⟩:=hok b _ z
       obtain ⟨e2,_⟩:=hok' b _ z2
       rw [e]at e1;cases e1
       exact e2
 cases hk:K.lookup a with
 | some o=>
  have e:=KX a o hk
  rw [ha]at e
  cases e
  refine core (fun _=>none) (fun _=> .inl rfl) (.inr ⟨_,vs.toArray,_,hk,rfl,rfl,rfl,by rw [List.size_toArray,lenV];exact hl,by simpa using rv⟩) (fun b u z=>by have z':(none:Option HO)=some u:=z;cases z') (fun b z=>absurd rfl z) fun z=>absurd rfl z
 | none=>
  refine core (fun b=>if b=a then some (.frz {cls:= .type "list",data:= .seq vs.toArray} (.lst (ns.map V.int))) else none) (fun b=>?_) (.inl (.inr ⟨{cls:= .type "list",data:= .seq vs.toArray},if_pos rfl⟩)) (fun b u z=>?_) (fun b z=>?_) fun _=>hk
  · by_cases hb:b=a
    · exact .inr ⟨_,_,if_pos hb⟩
    · exact .inl (if_neg hb)
  · by_cases hb:b=a
    · have z':=(if_pos hb).symm.trans z
      cases z'
      subst hb
      exact ⟨ha,by rw [List.length_map];exact hl,vs,_,rv,ha⟩
    · have z':=(if_neg hb).symm.trans z
      cases z'
  · by_cases hb:b=a
    · exact hb
    · exact absurd (if_neg hb) z
end L2
namespace L2
theorem walk_of{l:PySem.W.OpenLaw}{n k:Nat}{q:Program}{loose:List Str}{XP:(Str→Option Value)→Heap→Prop}{YP:World→Heap→Prop}{d:DefRec}{K:Params→PySem.W.Frag}{CX:World→CXT}{sp:World→Sp}{x:Str}
 (hn:l.most=some n) (hn2:n≤sizeLine) (hdf:d.params.defaults=[]) (hr:Room k callerA)
 (hY:∀(w:World) (h:Heap),YP w h→(K w.params).In h)
 (F:∀(w:World) (mg:Str→Option Value) (fa:Addr) (h:Heap),(K w.params).In h→h.Ns mainGlobals mg→mg d.name=some (.ref fa)→
  ∃fd:FuncData,(∀(s:Shared) (u:Value),BindsTo s fd ⟨[u],[]⟩ [(x,u)])∧
   ∀base:Heap,(K w.params).In base→base.Ns mainGlobals mg→FnOk l.prog w (K w.params) mg base (CX w) k fa fd [x] (sp w))
 (hsp:∀(w:World) (H:Hp) (a:Addr) (ns:List Int),ns.length≤n→Only H→SqL (K w.params) H a (ns.map V.int)→sp w [.ref a] H (fun v _=>v= .bl true) fun _ _ _=>False)
 (hCX:∀(w:World) (H:Hp) (s:Shared) (e:Value) (s':Shared),CX w [] H s (fun _ _ _=>False) e s'→False):
 PySem.W.WalkO q loose XP YP l.row.toRowW d [] (fun f vs=>PySem.call f vs):=by
 refine Att.attach_call hn hdf fun w s₀ s₁ mg mb fa o pm cd doc a vs ns G Y ho hd hcd hmg hobj hints hlen hg=>?_
 have KX:=hY w _ Y
 obtain ⟨fd,hb,hF⟩:=F w mg fa _ KX G.T.g hmg
 exact law_call KX G.T.g G.T.b G.T.builtins G.T.nolimit hg hobj hints (Nat.le_trans hlen hn2) hr hF hb (fun H hO hS=>hsp w H a ns hlen hO hS) fun H e s'=>hCX w H s₁ e s'
end L2
namespace L2
noncomputable def inClass(s:Stmt)(j:Nat):Stmt:=match s with
 | .ClassDef _ _ _ body _ _ _ _ _ _ _=>body.getD j (.Pass ⟨0,0,0,0⟩)
 | _=> .Pass ⟨0,0,0,0⟩
noncomputable def defArgs(s:Stmt):Arguments:=match s with
 | .FunctionDef _ a _ _ _ _ _ _ _ _=>a
 | _=>{posonlyargs:=[],args:=[],vararg:=none,kwonlyargs:=[],kw_defaults:=[],kwarg:=none,defaults:=[]}
noncomputable def defBody(s:Stmt):List Stmt:=match s with
 | .FunctionDef _ _ b _ _ _ _ _ _ _=>b
 | _=>[]
noncomputable def defScope(s:Stmt):Scope:=match s with
 | .FunctionDef _ _ _ _ _ _ sc _ _ _=>sc
 | _=>{kind:= .function,names:=[],isGenerator:=false,isCoroutine:=false}
structure Fun(K:PySem.W.Frag)(x qual:Str)(st:Stmt)(f:Addr)(fd:FuncData):Prop where
 ex:∃(oc:Value) (od:Option Addr) (kV doc pm:Value) (an:Option Addr) (cdv ct:Value) (osl:Array (Option Value)),
  fd=PySem.W.fnOf x qual (defArgs st) (defBody st) (defScope st) .none kV doc pm an cdv ct∧K.lookup f=some ⟨oc,od,.func fd,osl⟩∧PySem.W.codeIn K cdv qual=true
 kp:PySem.W.keepIn K (.ref f)=true
section
variable {P:Program} {w:World} {K:PySem.W.Frag} {mg:Str→Option Value} {base:Heap}
theorem Fun.binds{x qual:Str}{st:Stmt}{f:Addr}{fd:FuncData}{ps:List Str}(F:Fun K x qual st f fd)
 (h:∀(kV doc pm:Value) (an:Option Addr) (cdv ct:Value) (us:List Value),us.length=ps.length→bindArgs (PySem.W.fnOf x qual (defArgs st) (defBody st) (defScope st) .none kV doc pm an cdv ct) ⟨us,[]⟩=pure (ps.zip us)):Binds K fd ps []:=by
 obtain ⟨oc,od,kV,doc,pm,an,cdv,ct,osl,rfl,lk,hcd⟩:=F.ex
 exact .all (h kV doc pm an cdv ct)
theorem fun_mk{x qual:Str}{st:Stmt}{f:Addr}{oc:Value}{od an:Option Addr}{osl:Array (Option Value)}{kV doc pm cdv ct:Value}(l:K.lookup f=some ⟨oc,od,.func (PySem.W.fnOf x qual (defArgs st) (defBody st) (defScope st) .none kV doc pm an cdv ct),osl⟩)
 (c:PySem.W.codeIn K cdv qual=true) (k:PySem.W.keepIn K (.ref f)=true):Fun K x qual st f (PySem.W.fnOf x qual (defArgs st) (defBody st) (defScope st) .none kV doc pm an cdv ct):=⟨⟨oc,od,kV,doc,pm,an,cdv,ct,osl,rfl,l,c⟩,k⟩
end
theorem hu_of{A:Around}{k:Nat}(hr:Room k A):A.units+1 < cLine:=Nat.lt_of_le_of_lt (Nat.add_le_add_left (by decide:1≤64) _) hr.units
section
variable {X:Cx}
theorem pv(i:Nat){x:Str}{pos:Pos}(hN:X.N[i]?=some x:=by rfl)(hv:Vis X.env.scope x:=by first | exact Or.inl rfl | exact Or.inr (Or.inl rfl) | exact Or.inr (Or.inr rfl))(hd:(x==("__debug__":Str))=false:=by decide)
 (hcd:(x==("__classdict__":Str))=false:=by decide):PE X (.Name x pos) (tVar i):=pe_var hN hv hd hcd
end
noncomputable def Same(H H':Hp):Prop:=∀b o,H b=some o→H' b=some o
theorem Same.refl(H:Hp):Same H H:=fun _ _ h=>h
theorem Same.trans{H H1 H2:Hp}(a:Same H H1)(b:Same H1 H2):Same H H2:=fun c o h=>b c o (a c o h)
theorem Same.seq{K:PySem.W.Frag}{H H':Hp}{a:Addr}{xs:List V}(e:Same H H')(h:SqL K H a xs):SqL K H' a xs:=by
 rcases h with (h | ⟨o,h⟩) | h
 · exact .inl (.inl (e _ _ h))
 · exact .inl (.inr ⟨o,e _ _ h⟩)
 · exact .inr h
end L2
namespace L2
section
variable {κ:Type} [DecidableEq κ]
noncomputable def valV(kvs:List (κ×V))(k:κ):Option V:=(kvs.find? fun kv=>decide (kv.1=k)).map (·.2)
noncomputable def putK(kvs:List (κ×V))(k:κ)(v:V):List (κ×V):=
 if (kvs.any fun kv=>decide (kv.1=k))=true then kvs.map (fun kv=>if kv.1=k then (kv.1,v) else kv) else kvs++[(k,v)]
noncomputable def dropK(kvs:List (κ×V))(k:κ):List (κ×V):=kvs.filter fun kv=>decide (kv.1≠k)
theorem valV_pos{p:κ×V}{r:List (κ×V)}{k:κ}(e:p.1=k):valV (p::r) k=some p.2:=by simp [valV,List.find?_cons,e]
theorem valV_neg{p:κ×V}{r:List (κ×V)}{k:κ}(e:¬p.1=k):valV (p::r) k=valV r k:=by simp [valV,List.find?_cons,e]
theorem valV_any(k:κ):∀kvs:List (κ×V),(kvs.any fun kv=>decide (kv.1=k))=(valV kvs k).isSome
 | []=>rfl
 | p::r=>by
  rw [List.any_cons]
  by_cases e:p.1=k
  · simp only [valV_pos e,decide_eq_true e,Bool.true_or,Option.isSome_some]
  · rw [valV_neg e,decide_eq_false e,Bool.false_or];exact valV_any k r
theorem valV_map(k j:κ)(y:V):∀kvs:List (κ×V),valV (kvs.map fun kv=>if kv.1=k then (kv.1,y) else kv) j=(valV kvs j).map fun x=>if j=k then y else x
 | []=>rfl
 | p::r=>by
  have ih:=valV_map k j y r
  rw [List.map_cons]
  by_cases h:p.1=k
  · rw [if_pos h]
    by_cases e:p.1=j
    · rw [valV_pos (p:=(p.1,y)) e,valV_pos e,Option.map_some,if_pos (e.symm.trans h)]
    · rw [valV_neg (p:=(p.1,y)) e,valV_neg e,ih]
  · rw [if_neg h]
    by_cases e:p.1=j
    · rw [valV_pos (p:=p) e,valV_pos e,Option.map_some,if_neg (fun z=>h (e.trans z))]
    · rw [valV_neg (p:=p) e,valV_neg e,ih]
theorem valV_snoc(k j:κ)(y:V):∀kvs:List (κ×V),valV kvs k=none→valV (kvs++[(k,y)]) j=if j=k then some y else valV kvs j
 | [],_=>by
  by_cases e:k=j
  · rw [if_pos e.symm];exact valV_pos (p:=(k,y)) e
  · rw [if_neg (fun z=>e z.symm)];exact valV_neg (p:=(k,y)) e
 | p::r,hn=>by
  rw [List.cons_append]
  have hk:¬p.1=k:=fun z=>by rw [valV_pos z]at hn;cases hn
  rw [valV_neg hk]at hn
  have ih:=valV_snoc k j y r hn
  by_cases e:p.1=j
  · rw [valV_pos e,valV_pos e,if_neg (fun z=>hk (e.trans z))]
  · rw [valV_neg e,valV_neg e,ih]
theorem valV_put(kvs:List (κ×V))(k j:κ)(y:V):valV (putK kvs k y) j=if j=k then some y else valV kvs j:=by
 unfold putK
 by_cases a:(kvs.any fun kv=>decide (kv.1=k))=true
 · rw [if_pos a,valV_map]
   rw [valV_any]at a
   by_cases e:j=k
   · obtain ⟨x,hx⟩:=Option.isSome_iff_exists.mp a
     rw [if_pos e,e,hx,Option.map_some,if_pos rfl]
   · rw [if_neg e]
     cases valV kvs j with
     | none=>rfl
     | some x=>rw [Option.map_some,if_neg e]
 · rw [if_neg a]
   refine valV_snoc k j y kvs ?_
   rw [valV_any]at a
   cases q:valV kvs k with
   | none=>rfl
   | some x=>rw [q]at a;exact (a rfl).elim
theorem length_putK(kvs:List (κ×V))(k:κ)(v:V):(putK kvs k v).length≤kvs.length+1:=by
 unfold putK
 split
 · rw [List.length_map];omega
 · rw [List.length_append,List.length_cons,List.length_nil];omega
theorem putK_new{kvs:List (κ×V)}{k:κ}(v:V)(h:valV kvs k=none):putK kvs k v=kvs++[(k,v)]:=by
 unfold putK
 rw [valV_any,h]
 exact if_neg (by decide)
theorem RelO.isSome_eq{o:Option V}{u:Option Value}(r:RelO o u):o.isSome=u.isSome:=by
 cases o with
 | none=>cases u with
  | none=>rfl
  | some _=>exact (show False from r).elim
 | some _=>cases u with
  | none=>exact (show False from r).elim
  | some _=>rfl
theorem KV.val{kvs:List (κ×V)}{vs:List (κ×Value)}(r:KV kvs vs)(k:κ):RelO (valV kvs k) (valueAt vs k):=by
 unfold KV at r
 induction r with
 | nil=>exact True.intro
 | @cons p q ps qs h t ih=>
  obtain ⟨h1,h2⟩:=h
  by_cases e:p.1=k
  · have e':q.1=k:=h1.symm.trans e
    have b:valueAt (q::qs) k=some q.2:=by simp [valueAt,List.find?_cons,e']
    rw [valV_pos e,b];exact h2
  · have e':¬q.1=k:=fun z=>e (h1.trans z)
    have b:valueAt (q::qs) k=valueAt qs k:=by simp [valueAt,List.find?_cons,e']
    rw [valV_neg e,b];exact ih
theorem KV.any{kvs:List (κ×V)}{vs:List (κ×Value)}(r:KV kvs vs)(k:κ):(kvs.any fun kv=>decide (kv.1=k))=vs.any fun kv=>decide (kv.1=k):=by
 unfold KV at r
 induction r with
 | nil=>rfl
 | cons h t ih=>rw [List.any_cons,List.any_cons,ih,h.1]
theorem KV.repl{kvs:List (κ×V)}{vs:List (κ×Value)}(r:KV kvs vs)(k:κ){y:V}{u:Value}(ry:RelV y u):
 KV (kvs.map fun kv=>if kv.1=k then (kv.1,y) else kv) (vs.map fun kv=>if kv.1=k then (kv.1,u) else kv):=by
 unfold KV at r ⊢
 induction r with
 | nil=>exact .nil
 | @cons p q ps qs h t ih=>
  rw [List.map_cons,List.map_cons]
  refine .cons ?_ ih
  obtain ⟨h1,h2⟩:=h
  by_cases e:p.1=k
  · rw [if_pos e,if_pos (h1.symm.trans e)];exact ⟨h1,ry⟩
  · rw [if_neg e,if_neg (fun z=>e (h1.trans z))];exact ⟨h1,h2⟩
theorem KV.put{kvs:List (κ×V)}{vs:List (κ×Value)}(r:KV kvs vs)(k:κ){y:V}{u:Value}(ry:RelV y u):KV (putK kvs k y) (stored vs k u):=by
 unfold putK stored
 rw [r.any k]
 by_cases e:(vs.any fun kv=>decide (kv.1=k))=true
 · rw [if_pos e,if_pos e];exact r.repl k ry
 · rw [if_neg e,if_neg e];exact Paired.snoc r ⟨rfl,ry⟩
theorem KV.drop{kvs:List (κ×V)}{vs:List (κ×Value)}(r:KV kvs vs)(k:κ):KV (dropK kvs k) (without vs k):=by
 unfold KV at r ⊢
 unfold dropK without
 induction r with
 | nil=>exact .nil
 | @cons p q ps qs h t ih=>
  obtain ⟨h1,h2⟩:=h
  rw [List.filter_cons,List.filter_cons]
  by_cases e:p.1=k
  · have a:¬decide (p.1≠k)=true:=by simp [e]
    have b:¬decide (q.1≠k)=true:=by simp [h1.symm.trans e]
    rw [if_neg a,if_neg b];exact ih
  · have e':¬q.1=k:=fun z=>e (h1.trans z)
    have a:decide (p.1≠k)=true:=by simp [e]
    have b:decide (q.1≠k)=true:=by simp [e']
    rw [if_pos a,if_pos b];exact .cons ⟨h1,h2⟩ ih
theorem KV.length{kvs:List (κ×V)}{vs:List (κ×Value)}(r:KV kvs vs):kvs.length=vs.length:=Paired.length r
theorem dropK_le(kvs:List (κ×V))(k:κ):(dropK kvs k).length≤kvs.length:=List.length_filter_le _ _
end
theorem kV_is{P:Program}{w:World}{k:Key}{u:Value}(r:RelV (kV k) u):(mixKind P w).is k u=true:=by
 cases k with
 | inl i=>obtain ⟨t,e⟩:=(show ∃t,u=Value.int i t from r);subst e;exact mixKind_int P w i t
 | inr x=>obtain ⟨t,e⟩:=(show ∃t,u=Value.str x t from r);subst e;exact mixKind_str P w x t
theorem items_are{P:Program}{w:World}:∀{ks:List Key} {us:List Value},Vals (ks.map kV) us→ItemsAre (mixKind P w) ks us
 | [],_,r=>by rw [List.map_nil]at r;cases r;exact .nil
 | k::ks,_,r=>by
  rw [List.map_cons]at r
  cases r with
  | cons h t=>exact .cons (kV_is h) (items_are t)
noncomputable abbrev KT(H:Hp):List (List Key×V)→List (List Key×Addr×Value)→Prop:=Paired fun p q=>p.1=q.1∧H q.2.1=some (.tup (p.1.map kV))∧RelV p.2 q.2.2
theorem KT.val{H:Hp}{kvs:List (List Key×V)}{xs:List (List Key×Addr×Value)}(r:KT H kvs xs)(k:List Key):RelO (valV kvs k) ((atKey xs k).map (·.2)):=by
 induction r with
 | nil=>exact True.intro
 | @cons p q ps qs h t ih=>
  obtain ⟨h1,_,h2⟩:=h
  by_cases e:p.1=k
  · have e':q.1=k:=h1.symm.trans e
    have b:atKey (q::qs) k=some q.2:=by simp [atKey,List.find?_cons,e']
    rw [valV_pos e,b];exact h2
  · have e':¬q.1=k:=fun z=>e (h1.trans z)
    have b:atKey (q::qs) k=atKey qs k:=by simp [atKey,List.find?_cons,e']
    rw [valV_neg e,b];exact ih
theorem KT.repl{H:Hp}{kvs:List (List Key×V)}{xs:List (List Key×Addr×Value)}(r:KT H kvs xs)(k:List Key){y:V}{u:Value}(ry:RelV y u):
 KT H (kvs.map fun kv=>if kv.1=k then (kv.1,y) else kv) (xs.map (putAt k u)):=by
 induction r with
 | nil=>exact .nil
 | @cons p q ps qs h t ih=>
  rw [List.map_cons,List.map_cons]
  refine .cons ?_ ih
  obtain ⟨h1,h2,h3⟩:=h
  unfold putAt
  by_cases e:p.1=k
  · rw [if_pos e,if_pos (h1.symm.trans e)];exact ⟨h1,h2,ry⟩
  · rw [if_neg e,if_neg (fun z=>e (h1.trans z))];exact ⟨h1,h2,h3⟩
theorem KT.put{H:Hp}{kvs:List (List Key×V)}{xs:List (List Key×Addr×Value)}(r:KT H kvs xs)(k:List Key){b:Addr}{y:V}{u:Value}(hb:H b=some (.tup (k.map kV)))(ry:RelV y u):
 KT H (putK kvs k y) (storedH xs k b u):=by
 have e:(kvs.any fun kv=>decide (kv.1=k))=(atKey xs k).isSome:=by
  rw [valV_any,(r.val k).isSome_eq,Option.isSome_map]
 unfold putK storedH
 rw [e]
 by_cases q:(atKey xs k).isSome=true
 · rw [if_pos q,if_pos q];exact r.repl k ry
 · rw [if_neg q,if_neg q];exact Paired.snoc r ⟨rfl,hb,ry⟩
theorem KT.keeps{H H':Hp}{kvs:List (List Key×V)}{xs:List (List Key×Addr×Value)}(r:KT H kvs xs)(ht:∀b ys,H b=some (.tup ys)→H' b=some (.tup ys)):KT H' kvs xs:=
 Paired.mapP r fun _ _ z=>⟨z.1,ht _ _ z.2.1,z.2.2⟩
section
variable {P:Program} {w:World} {H:Hp} {h:Heap} {a:Addr}
theorem rd_of{u:HO}(ok:HOk P w H h)(e:Rd H a u):ObjOk P w H h a u:=e.ok ok
theorem dk_rd{kvs:List (Key×V)}(ok:HOk P w H h)(e:Rd H a (.dK kvs)):kvs.length≤sizeLine∧(a==sysModules)=false∧∃vs,KV kvs vs∧h.DictOf (mixKind P w) a vs:=
 show ObjOk P w H h a (.dK kvs) from rd_of ok e
theorem dk_of{kvs:List (Key×V)}(ok:HOk P w H h)(e:H a=some (.dK kvs)):kvs.length≤sizeLine∧(a==sysModules)=false∧∃vs,KV kvs vs∧h.DictOf (mixKind P w) a vs:=dk_rd ok (.inl e)
theorem key_of{ks:List Key}(ok:HOk P w H h)(e:H a=some (.tup (ks.map kV))):(tupleKind (mixKind P w)).is h ks a:=by
 obtain ⟨_,its,r,o,h1,h2,n,h3⟩:=(show ObjOk P w H h a (.tup (ks.map kV)) from ok a _ e)
 exact ⟨o,its.toArray,n,h1,h2,h3,by simpa using items_are r⟩
theorem dt_rd{kvs:List (List Key×V)}(ok:HOk P w H h)(e:Rd H a (.dT kvs)):kvs.length≤sizeLine∧(a==sysModules)=false∧
 ∃xs,KT H kvs xs∧h.DictOfH (tupleKind (mixKind P w)) a xs:=by
 obtain ⟨z,y,xs,r,o,es,ep,h1,h2,h3,h4,h5⟩:=(show ObjOk P w H h a (.dT kvs) from rd_of ok e)
 refine ⟨z,y,xs,r,o,es,ep,h1,h2,h3,h4,fun x hx=>?_,h5⟩
 have all:∀{l:List (List Key×V)} {m:List (List Key×Addr×Value)},KT H l m→∀x∈m,(tupleKind (mixKind P w)).is h x.1 x.2.1:=by
  intro l m q
  induction q with
  | nil=>intro x hx;exact nomatch hx
  | @cons p q ps qs hq t ih=>
   intro x hx
   rcases List.mem_cons.mp hx with e | hx
   · subst e
     exact key_of ok (by rw [← hq.1];exact hq.2.1)
   · exact ih x hx
 exact all r x hx
theorem dt_of{kvs:List (List Key×V)}(ok:HOk P w H h)(e:H a=some (.dT kvs)):kvs.length≤sizeLine∧(a==sysModules)=false∧
 ∃xs,KT H kvs xs∧h.DictOfH (tupleKind (mixKind P w)) a xs:=dt_rd ok (.inl e)
end
noncomputable def DGet(H:Hp)(a:Addr)(y:V)(r:Option V):Prop:=
 (∃kvs k,Rd H a (.dK kvs)∧y=kV k∧r=valV kvs k)∨∃kvs k b,Rd H a (.dT kvs)∧y= .ref b∧H b=some (.tup (k.map kV))∧r=valV kvs k
noncomputable def DPut(H:Hp)(a:Addr)(y v:V)(H':Hp):Prop:=
 (∃kvs k,H a=some (.dK kvs)∧y=kV k∧kvs.length < sizeLine∧H'=upd H a (.dK (putK kvs k v)))∨
 ∃kvs k b,H a=some (.dT kvs)∧y= .ref b∧H b=some (.tup (k.map kV))∧kvs.length < sizeLine∧H'=upd H a (.dT (putK kvs k v))
theorem DGet.k{H:Hp}{a:Addr}{kvs:List (Key×V)}{k:Key}(e:H a=some (.dK kvs)):DGet H a (kV k) (valV kvs k):= .inl ⟨kvs,k,.inl e,rfl,rfl⟩
theorem DPut.k{H:Hp}{a:Addr}{kvs:List (Key×V)}{k:Key}{v:V}(e:H a=some (.dK kvs))(hl:kvs.length < sizeLine):DPut H a (kV k) v (upd H a (.dK (putK kvs k v))):= .inl ⟨kvs,k,e,rfl,hl,rfl⟩
section
variable {X:Cx} {pins:List (Addr×Obj)} {σ:St} {H:Hp} {s:Shared} {a:Addr} {y v:V} {u r:Value} {o:Option V} {A:Around} {E:Value→Shared→Prop}
theorem Inv.big(I:Inv X pins σ H s):sysModules < s.heap.objs.size:=by
 have h:mainGlobals < s.heap.objs.size:=(I.mod.glob.keeps I.bk).lt
 exact Nat.lt_trans (by decide) h
theorem d_getItem{Q:Value→Shared→Prop}(hu:A.units+1 < cLine)(I:Inv X pins σ H s)(g:DGet H a y (some v))(ry:RelV y u)(h:∀w' s',Inv X pins σ H s'→RelV v w'→Q w' s'):
 wpAny (model X.prog X.w) A (getItem (.ref a) u) Q E s:=by
 rcases g with ⟨kvs,k,e,ey,l⟩ | ⟨kvs,k,b,e,ey,eb,l⟩
 · subst ey
   obtain ⟨z,hd,vs,rel,dd⟩:=dk_rd I.hok e
   obtain ⟨w',hw,rw'⟩:=RelO.some_of (v:=v) (o:=valueAt vs k) (by rw [l];exact rel.val k)
   exact wpAny_getItem_of (kV_is ry) dd.mapOf hw (h w' _ (I.tok _) rw')
 · subst ey
   cases (show u=Value.ref b from ry)
   obtain ⟨z,hd,xs,rel,dd⟩:=dt_rd I.hok e
   obtain ⟨w',hw,rw'⟩:=RelO.some_of (v:=v) (o:=(atKey xs k).map (·.2)) (by rw [l];exact rel.val k)
   obtain ⟨p,hp,hp2⟩:=Option.map_eq_some_iff.mp hw
   refine wpAny_getItem_heap (tupleKind_room_in1 hu) (key_of I.hok eb) dd hp ?_
   rw [hp2]
   exact h w' _ (I.tok _) rw'
theorem d_in{Q:Value→Shared→Prop}(hu:A.units+1 < cLine)(I:Inv X pins σ H s)(g:DGet H a y o)(ry:RelV y u)(h:∀s',Inv X pins σ H s'→Q (.bool o.isSome) s'):
 wpAny (model X.prog X.w) A (compareOp .In u (.ref a)) Q E s:=by
 rcases g with ⟨kvs,k,e,ey,l⟩ | ⟨kvs,k,b,e,ey,eb,l⟩
 · subst ey
   obtain ⟨z,hd,vs,rel,dd⟩:=dk_rd I.hok e
   refine wpAny_in_of (kV_is ry) hd dd.mapOf ?_
   rw [← (rel.val k).isSome_eq,← l]
   exact h _ (I.tok _)
 · subst ey
   cases (show u=Value.ref b from ry)
   obtain ⟨z,hd,xs,rel,dd⟩:=dt_rd I.hok e
   refine wpAny_in_heap (tupleKind_room_in1 hu) (key_of I.hok eb) hd dd ?_
   have q:=(rel.val k).isSome_eq
   rw [Option.isSome_map]at q
   rw [← q,← l]
   exact h _ (I.tok _)
theorem d_notIn{Q:Value→Shared→Prop}(hu:A.units+1 < cLine)(I:Inv X pins σ H s)(g:DGet H a y o)(ry:RelV y u)(h:∀s',Inv X pins σ H s'→Q (.bool (!o.isSome)) s'):
 wpAny (model X.prog X.w) A (compareOp .NotIn u (.ref a)) Q E s:=by
 rcases g with ⟨kvs,k,e,ey,l⟩ | ⟨kvs,k,b,e,ey,eb,l⟩
 · subst ey
   obtain ⟨z,hd,vs,rel,dd⟩:=dk_rd I.hok e
   refine wpAny_notIn_of (kV_is ry) hd dd.mapOf ?_
   rw [← (rel.val k).isSome_eq,← l]
   exact h _ (I.tok _)
 · subst ey
   cases (show u=Value.ref b from ry)
   obtain ⟨z,hd,xs,rel,dd⟩:=dt_rd I.hok e
   refine wpAny_notIn_heap (tupleKind_room_in1 hu) (key_of I.hok eb) hd dd ?_
   have q:=(rel.val k).isSome_eq
   rw [Option.isSome_map]at q
   rw [← q,← l]
   exact h _ (I.tok _)
theorem d_write{h':Heap}{t':Nat}{ob:HO}(I:Inv X pins σ H s)(mu:Mut (H a))(hs:Heap.SameBut a s.heap h')(he:∃q,h'.get? a=some q)(new:ObjOk X.prog X.w (upd H a ob) h' a ob):
 Inv X pins σ (upd H a ob) {s with heap:=h',toks:=t'}:=
 I.write (x:=a) (e:=a) mu (.inl rfl) (fun b q hb z=>(hs.2 b hb).trans z) he new
theorem dk_new{P:Program}{w:World}{H':Hp}{h':Heap}{kvs:List (Key×V)}{vs:List (Key×Value)}(z:kvs.length≤sizeLine)(hd:(a==sysModules)=false)(rel:KV kvs vs)(dd:h'.DictOf (mixKind P w) a vs):
 ObjOk P w H' h' a (.dK kvs):=⟨z,hd,vs,rel,dd⟩
theorem d_setItem{H':Hp}{Q:Unit→Shared→Prop}(hu:A.units+1 < cLine)(I:Inv X pins σ H s)(g:DPut H a y v H')(ry:RelV y u)(rv:RelV v r)(h:∀s',Inv X pins σ H' s'→Q () s'):
 wpAny (model X.prog X.w) A (setItem (.ref a) u r) Q E s:=by
 rcases g with ⟨kvs,k,e,ey,l,eH⟩ | ⟨kvs,k,b,e,ey,eb,l,eH⟩
 · subst ey eH
   obtain ⟨z,hd,vs,rel,dd⟩:=dk_of I.hok e
   have hz:vs.length≤sizeLine:=by rw [← rel.length];exact z
   have hl:(putK kvs k v).length≤sizeLine:=by have:=length_putK kvs k v;omega
   refine wpAny_setItem_pairs (hsz:=hz) (kV_is ry) dd fun h' dd' hs=>h _ ?_
   have he:∃q,h'.get? a=some q:=let ⟨q,_,_,hq,_⟩:=dd';⟨q,hq⟩
   exact d_write I (by rw [e];exact True.intro) hs he (dk_new hl hd (rel.put k rv) dd')
 · subst ey eH
   cases (show u=Value.ref b from ry)
   obtain ⟨z,hd,xs,rel,dd⟩:=dt_of I.hok e
   have hz:xs.length≤sizeLine:=by rw [← Paired.length rel];exact z
   have hl:(putK kvs k v).length≤sizeLine:=by have:=length_putK kvs k v;omega
   refine wpAny_setItem_heap (hsz:=hz) (tupleKind_room_in1 hu) (key_of I.hok eb) dd fun h' dd' hs=>h _ ?_
   obtain ⟨q,es,ep,hq,h2,h3,h4,_,h5⟩:=dd'
   refine d_write I (by rw [e];exact True.intro) hs ⟨q,hq⟩ ⟨hl,hd,_,(rel.put k eb rv).keeps fun c ys ec=>?_,q,es,ep,hq,h2,h3,h4,h5⟩
   rw [upd_ne (ne_of ec e (fun z=>nomatch z))]
   exact ec
end
section
variable {X:Cx} {pins:List (Addr×Obj)} {σ:St} {H:Hp} {s:Shared} {a:Addr} {kvs:List (Key×V)} {k:Key} {u:Value} {A:Around} {E:Value→Shared→Prop}
theorem d_pop{v:V}{more:List Value}{Q:Value→Shared→Prop}(I:Inv X pins σ H s)(e:H a=some (.dK kvs))(ry:RelV (kV k) u)(l:valV kvs k=some v)(hm:more=[]∨∃x,more=[x])
 (h:∀w' s',Inv X pins σ (upd H a (.dK (dropK kvs k))) s'→RelV v w'→Q w' s'):wpAny (model X.prog X.w) A (call (.builtin "dict.pop") (.ref a::u::more)) Q E s:=by
 obtain ⟨z,hd,vs,rel,dd⟩:=dk_of I.hok e
 obtain ⟨w',hw,rw'⟩:=RelO.some_of (v:=v) (o:=valueAt vs k) (by rw [← l];exact rel.val k)
 have hp:(keyPart u).isSome=true:=by
  cases k with
  | inl i=>obtain ⟨t,q⟩:=(show ∃t,u=Value.int i t from ry);subst q;rfl
  | inr x=>obtain ⟨t,q⟩:=(show ∃t,u=Value.str x t from ry);subst q;rfl
 have ha:argsOk "dict.pop" ⟨.ref a::u::more,[]⟩:=by
  rcases hm with q | ⟨x,q⟩
  · subst q;exact PySem.F.args_dict_pop_2 _ _
  · subst q;exact PySem.F.args_dict_pop_3 _ _ _
 refine call_meetsIn PySem.F.slot_dict_pop dd.typeIs PySem.F.entry_dict_pop ha (meets_dict_pop_there (mixKind X.prog X.w) a (kV_is ry) more hm hp)
  ⟨vs,w',dd,by rw [← rel.length];exact z,hw,fun h' dd' hs=>h w' _ ?_ rw'⟩
 have he:∃q,h'.get? a=some q:=let ⟨q,_,_,hq,_⟩:=dd';⟨q,hq⟩
 exact d_write I (by rw [e];exact True.intro) hs he (dk_new (Nat.le_trans (dropK_le kvs k) z) hd (rel.drop k) dd')
theorem d_len{Q:Value→Shared→Prop}(I:Inv X pins σ H s)(e:Rd H a (.dK kvs))(h:∀t s',Inv X pins σ H s'→Q (.int kvs.length t) s'):wpAny (model X.prog X.w) A (call (.builtin "len") [.ref a]) Q E s:=by
 obtain ⟨z,hd,vs,rel,dd⟩:=dk_rd I.hok e
 refine call_len_dict hd dd (by rw [← rel.length];rw [sizeLine_eq]at z;omega) ?_
 rw [← rel.length]
 exact h _ _ (I.tok _)
end
noncomputable def NoSl(i:Expr):Prop:=∀ov iv,subscripted i false ov iv=operate [ov,iv] (getItem ov iv)
theorem subD_of{prog:Program}{w:World}{A:Around}{E:Value→Shared→Prop}{s:Shared}{env:Env}{value slice:Expr}{pos:Pos}{T id:String}{Q:Value→Shared→Prop}
 (hl:typeLookup (.type T) "__getitem__"=pure (some (.builtin id))) (hs:NoSl slice)
 (h:wpAny (model prog w) A (eval value env) (fun o s₁=>wpAny (model prog w) A (eval slice env) (fun i s₂=>s₂.TypeIs o T∧wpAny (model prog w) A (getItem o i) Q E s₂) E s₁) E s):
 wpAny (model prog w) A (eval (.Subscript value slice pos) env) Q E s:=by
 refine Subscript_ (wpAny_mono h (fun o s₁ h₁=>wpAny_mono h₁ (fun i s₂ h₂=>?_) fun _ _ x=>x) fun _ _ x=>x)
 obtain ⟨hT,h₂⟩:=h₂
 unfold subscriptTail
 refine wpAny_bind ?_
 rw [getitemInPython_of_ne hT.not_modules]
 refine wpAny_bind (wpAny_specialOf hT hl ?_)
 have fin:wpAny (model prog w) A (subscripted slice false o i) (fun r s₃=>wpAny (model prog w) A (letTemporaryGo value o r >>=fun _=>pure r) Q E s₃) E s₂:=by
  rw [hs o i]
  exact wpAny_operating (wpAny_mono h₂ (fun r s₃ h₃=>wpAny_bind (wpAny_letTemporaryGo (wpAny_pure h₃))) fun _ _ x=>x)
 first
  | exact wpAny_pure (wpAny_bind fin)
  | exact wpAny_bind (wpAny_pure (wpAny_bind fin))
  | exact wpAny_bind fin
theorem dict_typeIs{X:Cx}{pins:List (Addr×Obj)}{σ:St}{H:Hp}{s:Shared}{a:Addr}{y:V}{o:Option V}(I:Inv X pins σ H s)(g:DGet H a y o):s.TypeIs (.ref a) "dict":=by
 rcases g with ⟨kvs,k,e,_,_⟩ | ⟨kvs,k,b,e,_,_,_⟩
 · obtain ⟨_,_,vs,_,dd⟩:=dk_rd I.hok e
   exact dd.typeIs
 · obtain ⟨_,_,xs,_,dd⟩:=dt_rd I.hok e
   exact dd.typeIs
noncomputable def tDGet(td ty:TE):TE:=fun σ H Q=>td σ H fun x H1=>ty σ H1 fun y H2=>∃a v,x= .ref a∧DGet H2 a y (some v)∧Q v H2
noncomputable def tDIn(ty td:TE):TE:=fun σ H Q=>ty σ H fun y H1=>td σ H1 fun x H2=>∃a o,x= .ref a∧DGet H2 a y o∧Q (.bl o.isSome) H2
noncomputable def tDNotIn(ty td:TE):TE:=fun σ H Q=>ty σ H fun y H1=>td σ H1 fun x H2=>∃a o,x= .ref a∧DGet H2 a y o∧Q (.bl (!o.isSome)) H2
noncomputable def sDPut(td ty tv:TE):TS:=fun D σ H=>tv σ H fun v H1=>td σ H1 fun x H2=>ty σ H2 fun y H3=>∃a H4,x= .ref a∧DPut H3 a y v H4∧D.nx σ H4
section
variable {X:Cx} {o i e value:Expr} {pos pos' tpos:Pos} {td ty tv:TE}
theorem pe_dget(hu:X.A.units+1 < cLine)(ho:PE X o td)(hi:PE X i ty)(hs:NoSl i):PE X (.Subscript o i pos) (tDGet td ty):=by
 intro pins s σ H Q I h
 refine subD_of PySem.F.slot_dict_getitem.lookup hs (thn (ho pins s σ H _ I h) fun u s1 ⟨x,H1,I1,rx,q1⟩=>thn (hi pins s1 σ H1 _ I1 q1) fun iv s2 hq_=>?_)
 obtain ⟨y,H2,I2,ry,a,v,ex,g,q2⟩:=hq_
 subst ex
 obtain rfl:u=Value.ref a:=rx
 exact ⟨dict_typeIs I2 g,d_getItem hu I2 g ry fun w' s3 I3 rw'=>⟨v,H2,I3,rw',q2⟩⟩
theorem pc_din(hu:X.A.units+1 < cLine)(hi:PE X i ty)(ho:PE X o td):PC X .In i o (tDIn ty td):=by
 intro pins s σ H Q I h
 refine thn (hi pins s σ H _ I h) fun iv s1 ⟨y,H1,I1,ry,q1⟩=>thn (ho pins s1 σ H1 _ I1 q1) fun u s2 hq_=>?_
 obtain ⟨x,H2,I2,rx,a,ov,ex,g,q2⟩:=hq_
 subst ex
 obtain rfl:u=Value.ref a:=rx
 exact d_in hu I2 g ry fun s3 I3=>⟨.bl ov.isSome,H2,I3,rfl,q2⟩
theorem pc_dnotin(hu:X.A.units+1 < cLine)(hi:PE X i ty)(ho:PE X o td):PC X .NotIn i o (tDNotIn ty td):=by
 intro pins s σ H Q I h
 refine thn (hi pins s σ H _ I h) fun iv s1 ⟨y,H1,I1,ry,q1⟩=>thn (ho pins s1 σ H1 _ I1 q1) fun u s2 hq_=>?_
 obtain ⟨x,H2,I2,rx,a,ov,ex,g,q2⟩:=hq_
 subst ex
 obtain rfl:u=Value.ref a:=rx
 exact d_notIn hu I2 g ry fun s3 I3=>⟨.bl (!ov.isSome),H2,I3,rfl,q2⟩
theorem ps_dput(hu:X.A.units+1 < cLine)(ho:PE X o td)(hi:PE X i ty)(hv:PE X value tv)(hs:swapsWith value (some (.Subscript o i pos')) pos.line X.env=pure false):
 PS X (.Assign [.Subscript o i pos'] value pos) (sDPut td ty tv):=by
 intro pins s σ H D I h
 refine wpAny_Assign_Subscript (thn (hv pins s σ H _ I h) fun r s1 ⟨v,H1,I1,rv,q1⟩=>thn (ho pins s1 σ H1 _ I1 q1) fun u s2 ⟨x,H2,I2,rx,q2⟩=>thn (hi pins s2 σ H2 _ I2 q2) fun iv s3 hq_=>?_) hs
 obtain ⟨y,H3,I3,ry,a,H4,ex,g,q3⟩:=hq_
 subst ex
 obtain rfl:u=Value.ref a:=rx
 exact d_setItem hu I3 g ry rv fun s4 I4=>⟨σ,H4,I4,q3⟩
end
theorem dk_empty{P:Program}{w:World}{H:Hp}(h:Heap)(hb:sysModules < h.objs.size):ObjOk P w H (h.push {cls:= .type "dict",data:= .dict #[]}) h.objs.size (.dK []):=
 ⟨Nat.zero_le _,beq_eq_false_iff_ne.mpr (Ne.symm (Nat.ne_of_lt hb)),[],.nil,Heap.DictOf.new h⟩
noncomputable def tDNewK:TE:=fun _ H Q=>∀p,H p=none→Q (.ref p) (upd H p (.dK []))
section
variable {X:Cx} {pos:Pos}
theorem pe_dnewK:PE X (.Dict [] [] pos) tDNewK:=fun pins s σ H Q I h=>
 wpAny_Dict_empty ⟨.ref s.heap.objs.size,_,I.laid (a:=s.heap.objs.size) (o:= .dK []) (t':=s.toks) (fun _ _ q=>Heap.get?_push_of_some _ q) (Nat.le_refl _) (dk_empty s.heap I.big),rfl,h _ (I.hok.fresh (Nat.le_refl _))⟩
end
noncomputable def tPairs:List (TE×TE)→St→Hp→(List (V×V)→Hp→Prop)→Prop
 | [],_,H,Q=>Q [] H
 | (tk,tv)::r,σ,H,Q=>tk σ H fun x H1=>tv σ H1 fun y H2=>tPairs r σ H2 fun ps H3=>Q ((x,y)::ps) H3
noncomputable def mergeK(kvs more:List (Key×V)):List (Key×V):=more.foldl (fun acc kv=>putK acc kv.1 kv.2) kvs
noncomputable def tDisp(trs:List (TE×TE)):TE:=fun σ H Q=>∀p,H p=none→tPairs trs σ (upd H p (.dK [])) fun ps H2=>H2 p=some (.dK [])∧∃kvs:List (Key×V),ps=kvs.map (fun kv=>(kV kv.1,kv.2))∧kvs.length≤15∧Q (.ref p) (upd H2 p (.dK (mergeK [] kvs)))
structure M1(X:Cx)(o:Expr)(m:Str)(apos:Pos)(e:Expr)(cpos:Pos):Prop where
 base:attributeBase o m X.env (eval o X.env)=eval o X.env
 few:((backTo cpos (starEach [e] X.env)).all (fun x=>!x.1) && (backToKw cpos (keywordEach [] X.env)).all (fun x=>x.1.isSome)
  && decide (([e]:List Expr).length+([]:List Keyword).length+(if ([]:List Keyword).isEmpty then 0 else 1) < 30))=true
 line:(apos.endLine==cpos.line)=true
 trees:backTo cpos (starEach [e] X.env)=[(false,eval e X.env)]
noncomputable def IsD(H:Hp)(a:Addr):Prop:=(∃kvs,Rd H a (.dK kvs))∨∃kvs,Rd H a (.dT kvs)
theorem isD_at{X:Cx}{pins:List (Addr×Obj)}{σ:St}{H:Hp}{s:Shared}{a:Addr}(I:Inv X pins σ H s)(d:IsD H a):
 s.TypeIs (.ref a) "dict"∧(∀b,Value.ref a= .ref b→∃ob,s.heap.get? b=some ob∧ob.dict=none)∧(a==sysModules)=false:=by
 rcases d with ⟨kvs,e⟩ | ⟨kvs,e⟩
 · obtain ⟨_,hd,vs,_,dd⟩:=dk_rd I.hok e
   refine ⟨dd.typeIs,fun b q=>?_,hd⟩
   cases q
   obtain ⟨ob,_,_,h1,h2,_⟩:=dd
   exact ⟨ob,h1,h2.2.1⟩
 · obtain ⟨_,hd,xs,_,dd⟩:=dt_rd I.hok e
   refine ⟨dd.typeIs,fun b q=>?_,hd⟩
   cases q
   obtain ⟨ob,_,_,h1,h2,_⟩:=dd
   exact ⟨ob,h1,h2.2.1⟩
noncomputable def tDGet1(td ty:TE):TE:=fun σ H Q=>td σ H fun x H1=>∃a,x= .ref a∧IsD H1 a∧ty σ H1 fun y H2=>∃o,DGet H2 a y o∧Q (o.getD .non) H2
noncomputable def tDGet2(td ty tx:TE):TE:=fun σ H Q=>td σ H fun x H1=>∃a,x= .ref a∧IsD H1 a∧ty σ H1 fun y H2=>tx σ H2 fun z H3=>∃o,DGet H3 a y o∧Q (o.getD z) H3
noncomputable def tDPop1(td ty:TE):TE:=fun σ H Q=>td σ H fun x H1=>∃a,x= .ref a∧IsD H1 a∧ty σ H1 fun y H2=>∃kvs k v,H2 a=some (.dK kvs)∧y=kV k∧valV kvs k=some v∧Q v (upd H2 a (.dK (dropK kvs k)))
section
variable {X:Cx} {o e f:Expr} {apos cpos:Pos} {td ty tx:TE}
theorem pe_dpop1(ho:PE X o td)(he:PE X e ty)(m:M1 X o "pop" apos e cpos):PE X (.Call (.Attribute o "pop" apos) [e] [] cpos) (tDPop1 td ty):=by
 intro pins s σ H Q I h
 refine wpAny_Call_method m.base m.few m.line PySem.F.plainAttrs_dict PySem.F.slot_dict_pop PySem.F.type_dict_pop (thn (ho pins s σ H _ I h) fun u s1 hq_=>?_)
 obtain ⟨x,H1,I1,rx,a,ex,d,q1⟩:=hq_
 subst ex
 obtain rfl:u=Value.ref a:=rx
 obtain ⟨t1,t2,_⟩:=isD_at I1 d
 refine ⟨t1,t2,?_⟩
 rw [m.trees]
 refine Calls.callWith_builtin rfl (Calls.evalArgs_plain (Calls.spliced_cons (thn (he pins s1 σ H1 _ I1 q1) fun iv s2 ⟨y,H2,I2,ry,kvs,k,v,ea,ey,l,q2⟩=>Calls.spliced_nil ?_)))
 subst ey
 exact d_pop I2 ea ry l (.inl rfl) fun w' s3 I3 rw'=>⟨v,_,I3,rw',q2⟩
end
end L2
namespace L2
section
variable {X:Cx}
theorem call_lenD:CallR X (.builtin "len") (fun xs H Q=>∃a kvs,xs=[V.ref a]∧H a=some (.dK kvs)∧Q (.int kvs.length) H):=by
 intro pins s σ H xs us Q I r h
 obtain ⟨a,kvs,rfl,ha,q⟩:=h
 obtain ⟨u,rfl,ru⟩:=vals1 r
 cases ru
 exact d_len I (.inl ha) fun t s' I'=>⟨.int kvs.length,H,I',⟨t,rfl⟩,q⟩
end
section
variable {κ:Type} [DecidableEq κ]
theorem valV_not{kvs:List (κ×V)}{k:κ}(h:valV kvs k=none):¬k∈kvs.map (·.1):=by
 intro m
 obtain ⟨p,hp,e⟩:=List.mem_map.mp m
 have q:(kvs.any fun kv=>decide (kv.1=k))=true:=List.any_eq_true.mpr ⟨p,hp,decide_eq_true e⟩
 rw [valV_any,h]at q
 exact absurd q (by simp)
theorem valV_in{kvs:List (κ×V)}{k:κ}{v:V}(h:valV kvs k=some v):k∈kvs.map (·.1):=by
 have q:(kvs.any fun kv=>decide (kv.1=k))=true:=by
  rw [valV_any,h]
  all_goals rfl
 obtain ⟨p,hp,e⟩:=List.any_eq_true.mp q
 exact List.mem_map.mpr ⟨p,hp,of_decide_eq_true e⟩
end
end L2
namespace L2
structure Def(P:Program)(w:World)(K:PySem.W.Frag)(mg:Str→Option Value)(base:Heap)(CX:CXT)(k:Nat)(x:Str)(ps:List Str)(sp:Sp):Prop where
 ex:∃(f:Addr) (fd:FuncData),FnOk P w K mg base CX k f fd ps sp∧mg x=some (.ref f)∧PySem.W.keepIn K (.ref f)=true∧Binds K fd ps []
noncomputable def tCallD(sp:Sp)(E:XK)(t:TA):TE:=fun σ H Q=>t σ H fun vs H1=>sp vs H1 Q E
section
variable {X:Cx} {CX:CXT} {k j:Nat} {ps:List Str} {sp:Sp} {E:XK} {x:Str} {p pos:Pos} {e:Expr} {es:List Expr} {t:TA}
theorem pe_callD(D:Def X.prog X.w X.K X.mg X.base CX j x ps sp)(hr:Room k X.A)(hg:Gl X x)(hx:Passes CX X E)(ha:PA X (e::es) t)(hj:j≤k:=by decide)
 (hdb:(x==("__debug__":Str))=false:=by decide) (he:starEach (e::es) X.env=(false,eval e X.env)::starEach es X.env:=by rfl) (hpl:(backTo pos (starEach es X.env)).any (·.1)=false:=by rfl):
 PE X (.Call (.Name x p) (e::es) [] pos) (tCallD sp E t):=by
 obtain ⟨f,fd,F,hm,hk,hb⟩:=D.ex
 intro pins s σ H Q I h
 refine pe_call (F.mono hj) hr hg hm hk hb .nil hx ha hdb he hpl pins s σ H Q I ?_
 show t σ H fun vs H1=>sp (vs++[]) H1 Q E
 have z:(fun (vs:List V) (H1:Hp)=>sp (vs++[]) H1 Q E)=fun vs H1=>sp vs H1 Q E:=by funext vs H1;rw [List.append_nil]
 rw [z]
 exact h
end
noncomputable def Isi(K:PySem.W.Frag)(H:Hp)(x:V)(n:String)(b:Bool):Prop:=∃t,TyOf K H x t∧PySem.W.kitOne K t (.type n)=some b
section
variable {X:Cx}
theorem call_isinst:CallR X (.builtin "isinstance") (fun xs H Q=>∃x n b,xs=[x,.ty n]∧Isi X.K H x n b∧Q (.bl b) H):=by
 intro pins s σ H xs us Q I r h
 obtain ⟨x,n,b,rfl,⟨t,ty,e⟩,q⟩:=h
 obtain ⟨u,c,rfl,r1,r2⟩:=vals2 r
 cases r2
 exact isinst_ok I r1 ty e fun tk=>⟨.bl b,H,I.tok _,rfl,q⟩
end
section
variable {K:PySem.W.Frag} {H:Hp}
theorem isi_ii{i:Int}:Isi K H (.int i) "int" true:=⟨_,.int i,rfl⟩
theorem isi_ib{i:Int}:Isi K H (.int i) "bool" false:=⟨_,.int i,by with_unfolding_all rfl⟩
theorem isi_is{i:Int}:Isi K H (.int i) "str" false:=⟨_,.int i,by with_unfolding_all rfl⟩
theorem isi_bb{i:Bool}:Isi K H (.bl i) "bool" true:=⟨_,.bl i,rfl⟩
theorem isi_bi{i:Bool}:Isi K H (.bl i) "int" true:=⟨_,.bl i,by with_unfolding_all rfl⟩
theorem isi_bs{i:Bool}:Isi K H (.bl i) "str" false:=⟨_,.bl i,by with_unfolding_all rfl⟩
theorem isi_ss{i:Str}:Isi K H (.str i) "str" true:=⟨_,.str i,rfl⟩
theorem isi_si{i:Str}:Isi K H (.str i) "int" false:=⟨_,.str i,by with_unfolding_all rfl⟩
theorem isi_sb{i:Str}:Isi K H (.str i) "bool" false:=⟨_,.str i,by with_unfolding_all rfl⟩
theorem isi_ni:Isi K H .non "int" false:=⟨_,.non,by with_unfolding_all rfl⟩
theorem isi_ns:Isi K H .non "str" false:=⟨_,.non,by with_unfolding_all rfl⟩
theorem isi_lstl{a:Addr}{xs:List V}(e:H a=some (.lst xs)):Isi K H (.ref a) "list" true:=⟨_,.lst e,rfl⟩
theorem isi_lsts{a:Addr}{xs:List V}(e:H a=some (.lst xs)):Isi K H (.ref a) "str" false:=⟨_,.lst e,by with_unfolding_all rfl⟩
theorem isi_lsti{a:Addr}{xs:List V}(e:H a=some (.lst xs)):Isi K H (.ref a) "int" false:=⟨_,.lst e,by with_unfolding_all rfl⟩
theorem isi_lstt{a:Addr}{xs:List V}(e:H a=some (.lst xs)):Isi K H (.ref a) "tuple" false:=⟨_,.lst e,by with_unfolding_all rfl⟩
theorem isi_tupt{a:Addr}{xs:List V}(e:H a=some (.tup xs)):Isi K H (.ref a) "tuple" true:=⟨_,.tup e,rfl⟩
theorem isi_tups{a:Addr}{xs:List V}(e:H a=some (.tup xs)):Isi K H (.ref a) "str" false:=⟨_,.tup e,by with_unfolding_all rfl⟩
theorem isi_tupi{a:Addr}{xs:List V}(e:H a=some (.tup xs)):Isi K H (.ref a) "int" false:=⟨_,.tup e,by with_unfolding_all rfl⟩
theorem isi_tupl{a:Addr}{xs:List V}(e:H a=some (.tup xs)):Isi K H (.ref a) "list" false:=⟨_,.tup e,by with_unfolding_all rfl⟩
theorem isi_go{x:V}{n:String}{b:Bool}{R:Bool→Prop}(h:Isi K H x n b)(q:R b):∃b,Isi K H x n b∧R b:=⟨b,h,q⟩
theorem len_goL{p:Addr}{xs:List V}{R:List V→Prop}(h:SqL K H p xs)(q:R xs):∃ys,(SqL K H p ys∨SqT K H p ys)∧R ys:=⟨xs,.inl h,q⟩
theorem len_goT{p:Addr}{xs:List V}{R:List V→Prop}(h:SqT K H p xs)(q:R xs):∃ys,(SqL K H p ys∨SqT K H p ys)∧R ys:=⟨xs,.inr h,q⟩
theorem ixT_of{p:Addr}{xs:List V}{i:Int}{v:V}{Q:VK}(h:SqT K H p xs)(e:atI xs i=some v)(q:Q v H):rIxT K (.ref p) (.int i) H Q:=⟨p,xs,i,v,rfl,rfl,h,e,q⟩
theorem ixL_of{p:Addr}{xs:List V}{i:Int}{v:V}{Q:VK}(h:SqL K H p xs)(e:atI xs i=some v)(q:Q v H):rIxL K (.ref p) (.int i) H Q:=⟨p,xs,i,v,rfl,rfl,h,e,q⟩
end
theorem while_d{c:TT}{tb:TS}{D:Ends}{σ:St}{H:Hp}{m0:Nat}(Pv:Nat→St→Hp→Prop)(h0:Pv m0 σ H)
 (hs:∀m σ H,Pv m σ H→c σ H fun b H1=>if b=true then ∃N:St→Hp→Prop,(∀σ' H',N σ' H'→∃m',m' < m∧Pv m' σ' H')∧tb {D with nx:=N,ct:=N,bk:=D.nx} σ H1 else D.nx σ H1):tWhile c tb D σ H:=⟨Pv,⟨m0,h0⟩,hs⟩
theorem atI_of{α:Type}{xs:List α}{i:Int}{v:α}(h0:0≤i)(h:xs[i.toNat]?=some v):atI xs i=some v:=by
 unfold atI ixN
 have hl:i.toNat < xs.length:=(List.getElem?_eq_some_iff.mp h).1
 rw [if_pos h0,if_pos (show i < xs.length by omega)]
 exact h
theorem cxOf_K{CX:CXT}{P:Program}{w:World}{K:PySem.W.Frag}{mg:Str→Option Value}{base:Heap}{N:List Str}{qual:Str}{scope:Scope}{f:Addr}{cd:Value}{A:Around}{outer:List Env}{s:Shared}{H:Hp}{E:XK}:
 (cxOf CX P w K mg base N qual scope f cd A outer s H E).K=K:=rfl
theorem getMap{ns:List Int}{k:Nat}(h:k < ns.length):(ns.map V.int)[k]?=some (V.int (ns.getD k 0)):=by
 rw [List.getElem?_map,List.getD_eq_getElem?_getD,List.getElem?_eq_getElem h];rfl
theorem Same.tup{K:PySem.W.Frag}{H H':Hp}{a:Addr}{xs:List V}(e:Same H H')(h:SqT K H a xs):SqT K H' a xs:=by
 rcases h with (h | ⟨o,h⟩) | h
 · exact .inl (.inl (e _ _ h))
 · exact .inl (.inr ⟨o,e _ _ h⟩)
 · exact .inr h
theorem Same.new{H:Hp}{p:Addr}{o:HO}(h:H p=none):Same H (upd H p o):=fun b u e=>by
 rw [upd_ne (ne_of_none e h)];exact e
section
variable {σ:St} {H:Hp} {Q:VK} {QT:Bool→Hp→Prop} {QA:List V→Hp→Prop} {D:Ends} {K:PySem.W.Frag}
theorem rd_asg{te:TE}{g:TG}:tAsg te g D σ H=te σ H fun x H1=>g x σ H1 D.nx:=rfl
theorem rd_var{i:Nat}:tVar i σ H Q=∃v,σ[i]?=some (some v)∧Q v H:=rfl
theorem rd_c{v:V}:tC v σ H Q=Q v H:=rfl
theorem rd_op{r:R2}{ta tb:TE}:tOp r ta tb σ H Q=ta σ H fun x H1=>tb σ H1 fun y H2=>r x y H2 Q:=rfl
theorem rd_I0{g:Int→Int→V}{x y:V}:rI0 g x y H Q=∃i j,x= .int i∧y= .int j∧Q (g i j) H:=rfl
theorem rd_I{C:Int→Int→Prop}{g:Int→Int→V}{x y:V}:rI C g x y H Q=∃i j,x= .int i∧y= .int j∧C i j∧Q (g i j) H:=rfl
theorem rd_U{g:Int→V}{x:V}:rU g x H Q=∃i,x= .int i∧Q (g i) H:=rfl
theorem rd_name{i:Nat}{v:V}{N:St→Hp→Prop}:gName i v σ H N=N (σ.set i (some v)) H:=rfl
theorem rd_ifS{c:TT}{t u:TS}:tIfS c t u D σ H=c σ H fun b H1=>if b=true then t D σ H1 else u D σ H1:=rfl
theorem rd_test{t:TE}:tTest t σ H QT=t σ H fun x H'=>∃k,x= .bl k∧QT k H':=rfl
theorem rd_b{t:TE}:tB t σ H QT=t σ H fun x H1=>∃c,x= .bl c∧QT c H1:=rfl
theorem rd_ret{te:TE}:tRet te D σ H=te σ H D.rt:=rfl
theorem rd_retN:tRetN D σ H=D.rt .non H:=rfl
theorem rd_next:tNext D σ H=D.nx σ H:=rfl
theorem rd_break:tBreak D σ H=D.bk σ H:=rfl
theorem rd_cont:tCont D σ H=D.ct σ H:=rfl
theorem rd_cb{r:List V→Hp→VK→Prop}{t:TA}:tCB r t σ H Q=t σ H fun vs H1=>r vs H1 Q:=rfl
theorem rd_cons{ta:TE}{tr:TA}:tCons ta tr σ H QA=ta σ H fun x H1=>tr σ H1 fun xs H2=>QA (x::xs) H2:=rfl
theorem rd_nil:tNil σ H QA=QA [] H:=rfl
theorem rd_call{sp:Sp}{E:XK}{t:TA}:tCallD sp E t σ H Q=t σ H fun vs H1=>sp vs H1 Q E:=rfl
theorem rd_not{t:TT}:tNot t σ H QT=t σ H fun c H1=>QT (!c) H1:=rfl
theorem rd_or{t u:TT}:tOr t u σ H QT=t σ H fun c H1=>if c=true then QT true H1 else u σ H1 QT:=rfl
theorem rd_and{t u:TT}:tAnd t u σ H QT=t σ H fun c H1=>if c=true then u σ H1 QT else QT false H1:=rfl
theorem rd_andV{ta tb:TE}:tAndV ta tb σ H Q=ta σ H fun x H1=>∃c,x= .bl c∧if c=true then tb σ H1 Q else Q (.bl false) H1:=rfl
theorem rd_orV{ta tb:TE}:tOrV ta tb σ H Q=ta σ H fun x H1=>∃c,x= .bl c∧if c=true then Q (.bl true) H1 else tb σ H1 Q:=rfl
theorem rd_notV{ta:TE}:tNotV ta σ H Q=ta σ H fun x H1=>∃c,x= .bl c∧Q (.bl (!c)) H1:=rfl
theorem rd_if{t:TT}{ta tb:TE}:tIf t ta tb σ H Q=t σ H fun c H1=>if c=true then ta σ H1 Q else tb σ H1 Q:=rfl
theorem rd_un{r:V→Hp→VK→Prop}{ta:TE}:tUn r ta σ H Q=ta σ H fun x H1=>r x H1 Q:=rfl
theorem rd_eq{x y:V}:rEq x y H Q=(scal x y=true∧Q (.bl (decide (x=y))) H):=rfl
theorem rd_ne{x y:V}:rNe x y H Q=(scal x y=true∧Q (.bl (!decide (x=y))) H):=rfl
theorem rd_par{i j:Nat}{ta:TA}:tPar i j ta D σ H=ta σ H fun vs H1=>∃v w,vs=[v,w]∧D.nx ((σ.set i (some v)).set j (some w)) H1:=rfl
theorem rd_tup{t:TA}:tTup t σ H Q=t σ H fun xs H1=>xs.length≤sizeLine∧∀p,H1 p=none→Q (.ref p) (upd H1 p (.tup xs)):=rfl
theorem rd_lst{t:TA}:tLst t σ H Q=t σ H fun xs H1=>xs.length≤sizeLine∧∀p,H1 p=none→Q (.ref p) (upd H1 p (.lst xs)):=rfl
theorem rd_never:tNever D σ H=False:=rfl
theorem rd_drop{te:TE}:tDrop te D σ H=te σ H fun _ H1=>D.nx σ H1:=rfl
theorem rd_gcons{t:TG}{u:TGs}{vs:List V}{N:St→Hp→Prop}:gCons t u vs σ H N=∃v r,vs=v::r∧t v σ H fun σ' H'=>u r σ' H' N:=rfl
theorem rd_gnil{vs:List V}{N:St→Hp→Prop}:gNil vs σ H N=(vs=[]∧N σ H):=rfl
theorem rd_gsub{to ti:TE}{t:TSet}{v:V}{N:St→Hp→Prop}:gSub to ti t v σ H N=to σ H fun o H1=>ti σ H1 fun i H2=>t o i v H2 fun H3=>N σ H3:=rfl
theorem rd_chain{r r':R2}{ta tb tc:TE}:tChain r r' ta tb tc σ H Q=ta σ H fun x H1=>tb σ H1 fun y H2=>r x y H2 fun z H3=>∃k,z= .bl k∧
 (if k=true then tc σ H3 fun w' H4=>r' y w' H4 Q else Q (.bl false) H3):=rfl
theorem rd_rng1{ta:TA}{R:It→Hp→Prop}:iRng1 ta σ H R=ta σ H fun vs H1=>∃j:Int,vs=[.int j]∧-(2 ^ 62)≤j∧j < 2 ^ 62∧R (Itr 0 j.toNat) H1:=rfl
theorem rd_rng2{ta:TA}{R:It→Hp→Prop}:iRng2 ta σ H R=ta σ H fun vs H1=>∃i j:Int,vs=[.int i,.int j]∧(-(2 ^ 62)≤i∧i < 2 ^ 62∧-(2 ^ 62)≤j∧j < 2 ^ 62)∧R (Itr i (j - i).toNat) H1:=rfl
theorem rd_ilist{tl:TE}{R:It→Hp→Prop}:iList K tl σ H R=tl σ H fun x H1=>∃a,x= .ref a∧(∃xs,SqL K H1 a xs)∧R (Itl K a) H1:=rfl
theorem rd_itup{tl:TE}{R:It→Hp→Prop}:iTup K tl σ H R=tl σ H fun x H1=>∃a,x= .ref a∧(∃xs,SqT K H1 a xs)∧R (Itt K a) H1:=rfl
noncomputable def ForTail(g:TG)(tb:TS)(D:Ends)(σ:St):It→Hp→Prop:=fun J H1=>∃W:Nat→Nat→St→Hp→Prop,(∃m,W 0 m σ H1)∧∀i m σ H,W i m σ H→
 (J.stop i H∧D.nx σ H)∨(J.go i H∧∃N:St→Hp→Prop,(∀σ' H',N σ' H'→∃m',m' < m∧W (i+1) m' σ' H')∧∀x H',J.yld i H x H'→g x σ H' fun σ2 H2=>tb {D with nx:=N,ct:=N,bk:=D.nx} σ2 H2)
theorem rd_for'{wi:TI}{g:TG}{tb:TS}:tFor wi g tb D σ H=wi σ H (ForTail g tb D σ):=rfl
theorem forR_by{lo:Int}{n:Nat}{g:TG}{tb:TS}(Pv:Nat→St→Hp→Prop)(h0:Pv 0 σ H)
 (hs:∀i σ H,i < n→Pv i σ H→g (.int (lo+i)) σ H fun σ2 H2=>tb {D with nx:=Pv (i+1),ct:=Pv (i+1),bk:=D.nx} σ2 H2) (hd:∀σ H,Pv n σ H→D.nx σ H):ForTail g tb D σ (Itr lo n) H:=for_range Pv h0 hs hd
theorem forL_by{a:Addr}{xs:List V}{g:TG}{tb:TS}(Pv:Nat→St→Hp→Prop)(h0:Pv 0 σ H)(hl:∀i σ H,i≤xs.length→Pv i σ H→SqL K H a xs)
 (hs:∀i x σ H,xs[i]?=some x→Pv i σ H→g x σ H fun σ2 H2=>tb {D with nx:=Pv (i+1),ct:=Pv (i+1),bk:=D.nx} σ2 H2) (hd:∀σ H,Pv xs.length σ H→D.nx σ H):ForTail g tb D σ (Itl K a) H:=for_list Pv h0 hl hs hd
theorem seq_go{t u:TS}(h:∀rest:St→Hp→Prop,rest=u D→t {D with nx:=rest} σ H):tSeq t u D σ H:=h _ rfl
theorem leaf_go{rest r:St→Hp→Prop}(h:rest=r)(q:r σ H):rest σ H:=by rw [h];exact q
theorem cell_go{a:Addr}{ns:List Int}{k:Int}{R:List Int→Prop}(h:SqL K H a (ns.map V.int))(h0:0≤k)(hl:ns.length≤63)(q:R ns):∃x:List Int,SqL K H a (x.map V.int)∧0≤k∧x.length≤63∧R x:=⟨ns,h,h0,hl,q⟩
theorem cdiv_of{i j:Int}(h1:0 < j)(h2:j < 1073741824):CDiv i j:=⟨h1,h2⟩
theorem cpow_of{i j:Int}(h1:0≤j)(h2:j≤1000000)(h3:i.natAbs < 2 ^ 64):CPow i j:=⟨h1,h2,h3⟩
theorem cmul_l{i j:Int}(h1:-(2 ^ 64) < i)(h2:i < 2 ^ 64):CMul i j:= .inl ⟨h1,h2⟩
theorem cmul_r{i j:Int}(h1:-(2 ^ 64) < j)(h2:j < 2 ^ 64):CMul i j:= .inr ⟨h1,h2⟩
end
end L2
namespace L2
section
variable {P:Program} {w:World} {H:Hp} {h:Heap} {a:Addr} {o:HO}
theorem ObjOk.there(x:ObjOk P w H h a o):∃ob,h.get? a=some ob:=by
 cases o with
 | lst xs=>obtain ⟨_,_,_,_,e⟩:=x;exact ⟨_,e⟩
 | tup xs=>obtain ⟨_,_,_,_,e,_⟩:=x;exact ⟨_,e⟩
 | dK kvs=>obtain ⟨_,_,_,_,_,_,_,e,_⟩:=x;exact ⟨_,e⟩
 | dT kvs=>obtain ⟨_,_,_,_,_,_,_,e,_⟩:=x;exact ⟨_,e⟩
 | set S n=>obtain ⟨_,_,_,_,e,_⟩:=x;exact ⟨_,e⟩
 | ins C dx fs=>obtain ⟨_,_,_,e,_⟩:=x;exact ⟨_,e⟩
 | own y=>exact x
 | xd fs=>obtain ⟨_,⟨_,_,_,e,_⟩,_⟩:=x;exact ⟨_,e⟩
 | rng lo hi=>obtain ⟨_,_,_,e⟩:=x;exact ⟨_,e⟩
 | frz ob u=>exact ⟨_,x.1⟩
 | tbl ps=>exact ⟨_,x⟩
 | met f y=>exact ⟨_,x⟩
 | ext φ=>exact x.2.1
theorem HOk.there(x:HOk P w H h)(e:H a=some o):∃ob,h.get? a=some ob:=(x a o e).there
end
noncomputable def Spares(fs:List Addr)(H':Hp)(g h B:Heap):Prop:=∀b o,h.get? b=some o→b∉fs→(H' b≠none∨∃u,g.get? b=some u)→B.get? b=some o
section
variable {P:Program} {w:World}
theorem stay_of{fs:List Addr}{H0 H':Hp}{g h h3 B:Heap}(u:Un fs [] H0 H' g h)(ok:HOk P w H' h)
 (hfr:∀b∈fs,∃o,g.get? b=some o∧∀vs,o.data≠ .fields vs) (hf0:∀b∈fs,H0 b=none) (hB:Spares fs H' g h B) (st:B.StaysIn h3) (up:h.UpToSlots h3):
 Un fs [] H0 H' g h3∧HOk P w H' h3∧Spares fs H' g h3 B:=by
 have fr':∀b∈fs,H' b=none:=fun b hb=>by
  obtain ⟨o,ho,_⟩:=hfr b hb
  exact u.free b o ho (hf0 b hb) (by simp)
 have tr:∀b o,H' b=some o→b∉fs:=fun b o e hb=>by rw [fr' b hb]at e;cases e
 have kp:∀b ob,h.get? b=some ob→b∉fs→(H' b≠none∨∃u,g.get? b=some u)→h3.get? b=some ob:=fun b ob e n c=>st b ob (hB b ob e n c)
 have sl:∀b o,g.get? b=some o→H0 b=none→b∈fs→b∉([]:List Addr)→∃sl,h3.get? b=some {o with slots:=sl}:=fun b o e n hb hx=>by
  obtain ⟨sl,e1⟩:=u.slot b o e n hb hx
  obtain ⟨o',e',d⟩:=hfr b hb
  rw [e]at e';cases e'
  obtain ⟨sl2,e2⟩:=up b _ e1 d
  exact ⟨sl2,e2⟩
 refine ⟨⟨fun b o e n hb hx=>kp b o (u.keep b o e n hb hx) hb (.inr ⟨o,e⟩),sl,u.free,fun b o e hx=>?_,u.tups,u.frzs,u.tbls⟩,fun a o e=>?_,fun b o e hb c=>?_⟩
 · by_cases hb:b∈fs
   · obtain ⟨s1,e1⟩:=sl b o e (hf0 b hb) hb hx
     exact ⟨_,e1⟩
   · obtain ⟨o',e1⟩:=u.there b o e hx
     exact ⟨o',kp b o' e1 hb (.inr ⟨o,e⟩)⟩
 · refine (ok a o e).stay (fun b v hc q=>kp b v q ?_ (.inl ?_)) (fun _ q=>q) fun _ _ q=>q
   · rcases hc with rfl | hc
     · exact tr _ _ e
     · exact tr _ _ hc
   · rcases hc with rfl | hc
     · rw [e];simp
     · rw [hc];simp
 · have z:∃o1,h.get? b=some o1:=by
    rcases c with c | ⟨u0,e0⟩
    · cases q:H' b with
      | none=>exact absurd q c
      | some v=>exact ok.there q
    · exact u.there b u0 e0 (by simp)
   obtain ⟨o1,e1⟩:=z
   have e2:=kp b o1 e1 hb c
   rw [e]at e2;cases e2
   exact hB b o e1 hb c
end
section
variable {X:Cx} {pins:List (Addr×Obj)} {σ:St} {H1 H2:Hp} {s1:Shared} {h2 h3 B:Heap}
theorem Inv.frm(I:Inv X pins σ H1 s1):∀b∈frs X.stack,∃o,s1.heap.get? b=some o∧∀vs,o.data≠ .fields vs:=fun b hb=>(I.stack.mem hb).2
theorem leave_of(I:Inv X pins σ H1 s1)(hex:X.ex=[])(u:Un (frs X.stack) [] H1 H2 s1.heap h2)(ok:HOk X.prog X.w H2 h2)(hB:Spares (frs X.stack) H2 s1.heap h2 B)(st:B.StaysIn h3)(up:h2.UpToSlots h3):
 Un X.fs [] X.H₀ H2 X.s₀.heap h3∧HOk X.prog X.w H2 h3∧Spares X.fs H2 X.s₀.heap h3 B:=by
 obtain ⟨U,ok3,hB3⟩:=stay_of u ok I.frm I.stkFree hB st up
 have bs:=I.base
 rw [hex]at bs
 have nl:∀b o,X.s₀.heap.get? b=some o→b≠X.env.locals:=fun b o e=>Nat.ne_of_lt (Nat.lt_of_lt_of_le (Heap.lt_size e) I.ok.above)
 have ns:∀b o,X.s₀.heap.get? b=some o→b∉X.fs→b∉frs X.stack:=fun b o e n hb=>(List.mem_cons.mp (I.stkSub b hb)).elim (nl b o e) n
 have sub:∀b∈X.fs,b∈frs X.stack:=fun b hb=>by
  rcases I.ok.stk with e | ⟨e,hf⟩
  · rw [e];exact hb
  · rw [e];unfold frs;rw [List.filterMap_cons,hf];exact List.mem_cons_of_mem _ hb
 have nt:∀b,H2 b≠none→b∉frs X.stack:=fun b c hb=>by
  obtain ⟨o,ho,_⟩:=I.frm b hb
  exact c (U.free b o ho (I.stkFree b hb) (by simp))
 refine ⟨⟨fun b o e n hb hx=>?_,fun b o e n hb hx=>?_,fun b o e n hx=>?_,fun b o e hx=>?_,fun b xs e=>U.tups b xs (bs.tups b xs e),fun b o v e=>U.frzs b o v (bs.frzs b o v e),fun b ps e=>?_⟩,ok3,fun b o e hb c=>?_⟩
 · exact U.keep b o (bs.keep b o e n hb hx) (bs.free b o e n hx) (ns b o e hb) hx
 · obtain ⟨sl,e1⟩:=bs.slot b o e n hb hx
   obtain ⟨sl2,e2⟩:=U.slot b _ e1 (bs.free b o e n hx) (sub b hb) hx
   exact ⟨sl2,e2⟩
 · obtain ⟨o',e1⟩:=bs.there b o e hx
   exact U.free b o' e1 (bs.free b o e n hx) hx
 · obtain ⟨o',e1⟩:=bs.there b o e hx
   exact U.there b o' e1 hx
 · obtain ⟨m1,e1⟩:=bs.tbls b ps e
   obtain ⟨m2,e2⟩:=U.tbls b _ e1
   exact ⟨m1++m2,by rw [e2,Array.append_assoc]⟩
 · rcases c with c | ⟨v,e0⟩
   · exact hB3 b o e (nt b c) (.inl c)
   · obtain ⟨o',e1⟩:=bs.there b v e0 (by simp)
     exact hB3 b o e (ns b v e0 hb) (.inr ⟨o',e1⟩)
end
end L2
namespace L2
structure ExcC(K:PySem.W.Frag)(C:Addr):Prop where
 at_:∀h:Heap,K.In h→∃(nm q:Str) (N:Addr) (bs bm:List Value) (hdct:Bool) (sn:List Str) (sub:List Value) (ab:Bool) (col:Option Bool) (dd:Option Addr) (k0 k1 k2 k3 k5:Option Value) (mN:Str→Option Value),
  h.get? C=some (excClassObj nm q C N bs bm hdct sn sub ab col dd k0 k1 k2 k3 k5 "ValueError.__new__")∧h.Ns N mN∧mN "__init__"=none∧
  OwnTail h [.type "ValueError",.type "Exception",.type "BaseException",.type "object"] bm
noncomputable def tRaise(C:Addr)(EE:St→XK)(t:TA):TS:=fun _ σ H=>t σ H fun vs H1=>vs.length≤sizeLine∧∀x,H1 x=none→EE σ (.ref C) (some x) H1
noncomputable def PassesS(CX:CXT)(X:Cx)(EE:St→XK):Prop:=∀(pins:List (Addr×Obj)) (σ:St) (H:Hp) (s:Shared) (e:Value) (s':Shared),Inv X pins σ H s→CX X.stack H s (EE σ) e s'→X.xe e s'
noncomputable def tCallE(sp:Sp)(EE:St→XK)(t:TA):TE:=fun σ H Q=>t σ H fun vs H1=>sp vs H1 Q (EE σ)
section
variable {X:Cx} {CX:CXT} {k j:Nat} {ps:List Str} {sp:Sp} {EE:St→XK} {x:Str} {p pos:Pos} {e:Expr} {es:List Expr} {t:TA}
theorem pe_callE(D:Def X.prog X.w X.K X.mg X.base CX j x ps sp)(hr:Room k X.A)(hg:Gl X x)(hx:PassesS CX X EE)(ha:PA X (e::es) t)(hj:j≤k:=by decide)
 (hdb:(x==("__debug__":Str))=false:=by decide) (he:starEach (e::es) X.env=(false,eval e X.env)::starEach es X.env:=by rfl) (hpl:(backTo pos (starEach es X.env)).any (·.1)=false:=by rfl):
 PE X (.Call (.Name x p) (e::es) [] pos) (tCallE sp EE t):=by
 obtain ⟨f,fd,F,hm,hk,hb⟩:=D.ex
 intro pins s σ H Q I h
 refine wpAny_Call_Name_kw (ld_glob I hg hm ?_ hdb)
 refine PySem.W.callWith_K (h₀:=X.base) I.ok.mod.kin hk (thn (ha pos pins s σ H _ I h) fun us s1 ⟨vs,H1,I1,r,q⟩=>⟨I1.kIn,?_⟩) he hpl
 have hl:us.length=ps.length:=by rw [← r.length];exact F.len _ _ _ _ q
 have hb':BindsTo s1 fd ⟨us,[]⟩ (ps.zip us):=by
  have z:=hb s1 us I1.kIn (by rw [List.append_nil];exact hl)
  rw [List.append_nil]at z
  exact z
 refine wpAny_call (codeAny_mono (F.run X.A X.stack s1 H1 ⟨us,[]⟩ us vs Q (EE σ) (hr.mono hj) I1.env0 hb' r q) fun rs s' hq=>?_)
 cases rs with
 | error ev=>exact hx pins σ H1 s1 ev s' I1 hq
 | ok fl=>
  cases fl with
  | ret u=>exact I1.after hq
  | next=>exact False.elim hq
  | brk=>exact False.elim hq
  | cont=>exact False.elim hq
end
structure Air(X:Cx)(pins:List (Addr×Obj))(σ:St)(H:Hp)(x:Addr)(cls:Value)(s:Shared):Prop where
 ex:∃(H0:Hp) (s0:Shared) (a0:Value) (B:Heap),Inv X pins σ H0 s0∧s.os=s0.os∧AllBare s.gens∧Un (frs X.stack) [] H0 H s0.heap s.heap∧HOk X.prog X.w H s.heap∧
  Heap.FlyingW B X.stack x cls a0 s.heap∧Spares (frs X.stack) H s0.heap s.heap B∧H x=none∧s0.heap.get? x=none
section
variable {X:Cx} {pins:List (Addr×Obj)} {σ:St} {H:Hp} {x:Addr} {cls:Value} {s:Shared}
theorem Air.inv(Z:Air X pins σ H x cls s):Inv X pins σ H s:=by
 obtain ⟨H0,s0,a0,B,I,os,bare,u,ok,fl,hB,hx,hn⟩:=Z.ex
 exact I.call' os u ok bare fun b hb=>absurd hb (by simp)
theorem Air.obj(Z:Air X pins σ H x cls s):∃ob vs,s.heap.get? x=some ob∧ob.cls=cls∧ob.data= .fields vs:=by
 obtain ⟨H0,s0,a0,B,I,os,bare,u,ok,fl,hB,hx,hn⟩:=Z.ex
 obtain ⟨oe,vs,h1,h2,h3,_⟩:=fl.first
 exact ⟨oe,vs,h1,h2,h3⟩
end
noncomputable abbrev Cx.sui(X:Cx)(x:Addr):Cx:={X with A:=X.A.mark (some (.ref x)),calm:=false,xe:=fun _ _=>False}
section
variable {X:Cx} {pins:List (Addr×Obj)} {σ:St} {H:Hp} {x:Addr} {cls:Value} {s:Shared}
theorem Cx.Ok.sui(ok:X.Ok)(x:Addr):(X.sui x).Ok:=
 ⟨ok.mod,ok.kind,ok.glob,ok.blt,ok.above,ok.inj,ok.has,ok.cab,fun z=>(by cases z),ok.frames,ok.stk,ok.exf,ok.bs,ok.bsz,ok.noex,ok.exfs,ok.funs,ok.frf⟩
theorem Inv.sui(I:Inv X pins σ H s)(x:Addr):Inv (X.sui x) pins σ H s:=⟨I.ok.sui x,I.os,I.bare,I.base,I.loc,I.cell,I.free,I.freeC,I.pin,I.hok,I.len⟩
theorem Inv.unsui(I0:X.Ok)(I:Inv (X.sui x) pins σ H s):Inv X pins σ H s:=⟨I0,I.os,I.bare,I.base,I.loc,I.cell,I.free,I.freeC,I.pin,I.hok,I.len⟩
theorem SP.unsui(I0:X.Ok){D:Ends}{f:Flow}{s':Shared}(h:SP (X.sui x) pins D f s'):SP X pins D f s':=by
 cases f with
 | next=>obtain ⟨σ',H',I,q⟩:=h;exact ⟨σ',H',I.unsui I0,q⟩
 | brk=>obtain ⟨σ',H',I,q⟩:=h;exact ⟨σ',H',I.unsui I0,q⟩
 | cont=>obtain ⟨σ',H',I,q⟩:=h;exact ⟨σ',H',I.unsui I0,q⟩
 | ret u=>obtain ⟨v,σ',H',I,r,q⟩:=h;exact ⟨v,σ',H',I.unsui I0,r,q⟩
end
noncomputable abbrev TH:=Value→Addr→TS
noncomputable def hNil:TH:=fun _ _ _ _ _=>False
section
variable {X:Cx} {C:Str} {c:Value} {np pos:Pos} {b₀:Stmt} {suite:List Stmt} {rest:List ExceptHandler} {ts:TS} {tr:TH}
theorem clause_test{pins:List (Addr×Obj)}{s:Shared}{σ:St}{H:Hp}{x:Addr}{cls:Value}{b:Bool}{R:Result→Shared→Prop}(Z:Air X pins σ H x cls s)(hv:∀(Q:Value→Shared→Prop) (E:Value→Shared→Prop),Q c s→wpAny (model X.prog X.w) (X.A.mark (some (.ref x))) (eval (.Name C np) X.env) Q E s)
 (e:PySem.W.exmOne X.K cls c=some b) (h:R (.ok (if b then .brk else .next)) s):
 codeAny (model X.prog X.w) (X.A.mark (some (.ref x))) (.handlers (.ref x) [.ExceptHandler (some (.Name C np)) none [] pos] X.env) R s:=by
 refine codeAny_handlers_test (hv _ _ ?_)
 obtain ⟨ob,vs,h1,h2,_⟩:=Z.obj
 have LT:PySem.W.Looks (model X.prog X.w) s.heap (typeOf (.ref x)) cls:=h2▸(PySem.W.Looks.ld h1).andThen .now
 exact (PySem.W.exm_one Z.inv.kIn LT e).here h
end
noncomputable def excO(x:Addr)(cls:Value):HO:= .ext fun h=>∃ob vs,h.get? x=some ob∧ob.cls=cls∧ob.data= .fields vs
section
variable {X:Cx} {pins:List (Addr×Obj)} {σ:St} {H:Hp} {x:Addr} {cls:Value} {s:Shared}
theorem name_goes{i:Nat}{n:Str}{M:Model}{A:Around}{E:Value→Shared→Prop}{pos:Pos}{Q:Unit→Shared→Prop}(I:Inv X pins σ H s)(hN:X.N.Nodup)(hi:X.N[i]?=some n)(hl:X.env.kindOf n=some .local)
 (h:∀s',Inv X pins (σ.set i none) H s'→Q () s'):wpAny M A (do bindName X.env n .none;unbindBehindTheSuite X.env n pos) Q E s:=by
 obtain ⟨m,hn,hm⟩:=id I.loc
 refine wpAny_nameGoes_keeps hl hn (by rw [I.ok.kind];rfl) fun h' v hn' hs=>h _ ?_
 obtain ⟨oL,_,_,hoL,_⟩:=id hn
 have nL:∀b o,X.s₀.heap.get? b=some o→b≠X.env.locals:=fun b o e=>Nat.ne_of_lt (Nat.lt_of_lt_of_le (Heap.lt_size e) I.ok.above)
 refine ⟨I.ok,I.os,I.bare,⟨fun b o e n hb hx=>(hs.2 b (nL b o e)).trans (I.base.keep b o e n hb hx),fun b o e n hb hx=>?_,I.base.free,fun b o e hx=>?_,I.base.tups,I.base.frzs,I.base.tbls⟩,⟨_,hn',fun j y v' e1 e2 e3=>?_⟩,fun y c e=>?_,I.free,I.freeC,fun p hp=>?_,fun b o e=>?_,by simpa using I.len⟩
 · obtain ⟨sl,e1⟩:=I.base.slot b o e n hb hx
   exact ⟨sl,(hs.2 b (nL b o e)).trans e1⟩
 · obtain ⟨o',e1⟩:=I.base.there b o e hx
   exact ⟨o',(hs.2 b (nL b o e)).trans e1⟩
 · have hj:j≠i:=by
    rintro rfl
    by_cases hlt:j < σ.length
    · rw [List.getElem?_set_self hlt]at e2;cases e2
    · rw [List.getElem?_eq_none (by rw [List.length_set];omega)]at e2;cases e2
   rw [List.getElem?_set_ne (Ne.symm hj)]at e2
   obtain ⟨u',r',q⟩:=hm j y v' e1 e2 e3
   refine ⟨u',r',?_⟩
   rcases q with ⟨k,e⟩ | ⟨k,c,e,z⟩
   · have ny:y≠n:=fun z=>hj (nodup_ix hN e1 (z▸hi))
     exact .inl ⟨k,by simp [ny,e]⟩
   · exact .inr ⟨k,c,e,z.sameBut hs (I.cne y c e)⟩
 · obtain ⟨w',z⟩:=I.cell y c e
   exact ⟨w',z.sameBut hs (I.cne y c e)⟩
 · obtain ⟨e,n1,ne,nf,d⟩:=I.pin p hp
   exact ⟨(hs.2 p.1 ne).trans e,n1,ne,nf,d⟩
 · refine (I.hok b o e).stay (fun c w' hc q=>(hs.2 c ?_).trans q) (fun _ q=>q) fun _ _ q=>q
   rintro rfl
   rcases hc with z | hc
   · rw [← z,I.free]at e;cases e
   · rw [I.free]at hc;cases hc
end
noncomputable def endsAs(i:Nat)(D:Ends):Ends:={nx:=fun σ H=>D.nx (σ.set i none) H,rt:=D.rt,bk:=fun σ H=>D.bk (σ.set i none) H,ct:=fun σ H=>D.ct (σ.set i none) H}
noncomputable abbrev Cx.tryX(X:Cx)(pn:List (Addr×Obj))(xe:Value→Shared→Prop):Cx:={X with pn:=pn,xe:=xe}
section
variable {X:Cx} {body:List Stmt} {h₀:ExceptHandler} {hs:List ExceptHandler} {pos:Pos} {tb:(St→XK)→TS} {th:TH} {pins:List (Addr×Obj)} {σ:St} {H:Hp} {s:Shared} {pn:List (Addr×Obj)} {xe:Value→Shared→Prop}
theorem Inv.tryIn(I:Inv X pins σ H s)(xe:Value→Shared→Prop):Inv (X.tryX (X.pn++pins) xe) [] σ H s:=
 ⟨⟨I.ok.mod,I.ok.kind,I.ok.glob,I.ok.blt,I.ok.above,I.ok.inj,I.ok.has,I.ok.cab,I.ok.hd,I.ok.frames,I.ok.stk,I.ok.exf,I.ok.bs,I.ok.bsz,I.ok.noex,I.ok.exfs,I.ok.funs,I.ok.frf⟩,I.os,I.bare,I.base,I.loc,I.cell,I.free,I.freeC,fun p hp=>I.pin p (by simpa using hp),I.hok,I.len⟩
theorem Inv.tryOut{pl:List (Addr×Obj)}(I0:X.Ok)(I:Inv (X.tryX (X.pn++pins) xe) pl σ H s):Inv X pins σ H s:=
 ⟨I0,I.os,I.bare,I.base,I.loc,I.cell,I.free,I.freeC,fun p hp=>I.pin p (List.mem_append_left _ hp),I.hok,I.len⟩
theorem SP.tryOut{pl:List (Addr×Obj)}(I0:X.Ok){D:Ends}{f:Flow}{s':Shared}(h:SP (X.tryX (X.pn++pins) xe) pl D f s'):SP X pins D f s':=by
 cases f with
 | next=>obtain ⟨σ',H',I,q⟩:=h;exact ⟨σ',H',I.tryOut I0,q⟩
 | brk=>obtain ⟨σ',H',I,q⟩:=h;exact ⟨σ',H',I.tryOut I0,q⟩
 | cont=>obtain ⟨σ',H',I,q⟩:=h;exact ⟨σ',H',I.tryOut I0,q⟩
 | ret u=>obtain ⟨v,σ',H',I,r,q⟩:=h;exact ⟨v,σ',H',I.tryOut I0,r,q⟩
end
end L2
namespace L2
open PySem.W
theorem ans_yes{K:Frag}{y c t:Value}{G:Heap→Prop}(LT:∀(M:Model) (h:Heap),K.In h→G h→Looks M h (typeOf y) t)(e:kitOne K t c=some true):Answers (fun s=>K.In s.heap∧G s.heap) y c true:=by
 intro dep tk prog w A R s hs
 obtain ⟨h0,g,d,tt,os⟩:=s
 obtain ⟨⟨kin,gp⟩,hq⟩:=hs
 have lk0:=LT (model prog w) h0 kin gp
 (unfold Builtin.«isinstance.nested»;refine wpAny_bind (lk0.at ?_));unfold kitOne at e
 by_cases z:(t==c)=true
 · rw [if_pos z]at e ⊢
   first
    | exact wpAny_bind (wpAny_rule (hq tt))
    | exact wpAny_bind (wpAny_rule (wpAny_pure (hq tt)))
    | ((repeat lk);exact hq tt)
 · rw [if_neg z]at e ⊢
   obtain ⟨i1,i2,i3⟩:=kit_cls (M:=model prog w) kin e
   have li:Looks (model prog w) h0 (isInstance y c) true:=lk0.andThen i3
   (refine wpAny_bind (i1.at ?_);rw [if_pos (by decide)]);k_delta "plainIsInstance"
   refine wpAny_bind (wpAny_bind (i2.at ?_));(simp only [Bool.not_true,Bool.false_eq_true,if_false])
   refine wpAny_bind (li.at ?_)
   first
    | exact wpAny_pure (wpAny_pure (hq tt))
    | (simp only [if_true];first | exact wpAny_pure (wpAny_pure (hq tt)) | exact wpAny_pure (hq tt) | exact wpAny_bind (wpAny_pure (wpAny_pure (hq tt))))
noncomputable def rIsiE(K:Frag):List V→Hp→VK→Prop:=fun xs H Q=>∃p cls n,xs=[.ref p,.ty n]∧H p=some (excO p cls)∧kitOne K cls (.type n)=some true∧Q (.bl true) H
noncomputable def strKeysB(es:Array DictEntry):Bool:=es.toList.all fun e=>match e.key with
 | .str _ _=>true
 | _=>false
theorem strKeys_of{es:Array DictEntry}(h:strKeysB es=true):StrKeys es:=fun e he=>by
 have z:=List.all_eq_true.mp h e (by simpa using he)
 cases k:e.key with
 | str n t=>exact ⟨n,t,rfl⟩
 | _=>rw [k]at z;cases z
theorem ns_of{K:Frag}{h:Heap}{N:Addr}{oc:Value}{od:Option Addr}{es:Array DictEntry}{ep:Nat}{sl:Array (Option Value)}(X:K.In h)(l:K.lookup N=some ⟨oc,od,.dict es ep,sl⟩)(k:strKeysB es=true):h.Ns N (nsFind es):=
 ⟨_,es,ep,X _ _ l,rfl,strKeys_of k,fun _=>rfl⟩
theorem excC_of{K:Frag}{C N A:Addr}{nm q:Str}{bs:List Value}{hdct:Bool}{sn:List Str}{sub:List Value}{ab:Bool}{col:Option Bool}{dd:Option Addr}{k0 k1 k2 k3 k5:Option Value}{oc c0 oc2:Value}{od dA od2:Option Addr}{es es2:Array DictEntry}{ep ep2:Nat}{sl slA sl2:Array (Option Value)}{cdA:ClassData}
 (lC:K.lookup C=some (excClassObj nm q C N bs [.ref A,.type "ValueError",.type "Exception",.type "BaseException",.type "object"] hdct sn sub ab col dd k0 k1 k2 k3 k5 "ValueError.__new__"))
 (lN:K.lookup N=some ⟨oc,od,.dict es ep,sl⟩) (sN:strKeysB es=true) (iN:nsFind es "__init__"=none) (lA:K.lookup A=some ⟨c0,dA,.cls cdA,slA⟩) (lNA:K.lookup cdA.ns=some ⟨oc2,od2,.dict es2 ep2,sl2⟩) (sNA:strKeysB es2=true) (iNA:nsFind es2 "__init__"=none):ExcC K C:=
 ⟨fun h X=>⟨nm,q,N,bs,_,hdct,sn,sub,ab,col,dd,k0,k1,k2,k3,k5,nsFind es,X _ _ lC,ns_of X lN sN,iN,.own (X _ _ lA) (ns_of X lNA sNA) iNA .base⟩⟩
theorem exm_ref{K:Frag}{C:Addr}{cls:Value}{b:Bool}{cd:ClassData}(s1:subIn K (.ref C) (.type "BaseException")=some true)(c1:clsIn K C=some cd)(t1:typeIn K (.ref C)=some (.type "type"))(s2:subIn K cls (.ref C)=some b):exmOne K cls (.ref C)=some b:=by
 unfold exmOne kitCls
 dsimp only
 rw [s1,c1,t1]
 exact s2
section
variable {σ:St} {H:Hp} {Q:VK} {D:Ends} {K:Frag}
theorem rd_raise{C:Addr}{EE:St→XK}{t:TA}:tRaise C EE t D σ H=t σ H fun vs H1=>vs.length≤sizeLine∧∀x,H1 x=none→EE σ (.ref C) (some x) H1:=rfl
theorem rd_callE{sp:Sp}{EE:St→XK}{t:TA}:tCallE sp EE t σ H Q=t σ H fun vs H1=>sp vs H1 Q (EE σ):=rfl
theorem rd_hnil{cls:Value}{x:Addr}:hNil cls x D σ H=False:=rfl
theorem rd_ends{i:Nat}:endsAs i D={nx:=fun σ H=>D.nx (σ.set i none) H,rt:=D.rt,bk:=fun σ H=>D.bk (σ.set i none) H,ct:=fun σ H=>D.ct (σ.set i none) H}:=rfl
theorem rd_isiE{xs:List V}:rIsiE K xs H Q=∃p cls n,xs=[.ref p,.ty n]∧H p=some (excO p cls)∧kitOne K cls (.type n)=some true∧Q (.bl true) H:=rfl
end
end L2
namespace L2
theorem compLoop_any{prog:Program}{w:World}{A:Around}{R:Result→Shared→Prop}{s:Shared}{elt target iter:Expr}{ifs:List Expr}{scope:Scope}{pos:Pos}{it acc:Value}{env:Env}(I:Nat→Shared→Prop)
 (turn:∀n s,I n s→wpAny (model prog w) A (pyNext it) (fun r s₁=>match r with
  | none=>R (.ok .next) s₁
  | some v=>wpAny (model prog w) A (letOwnedTupleGo target it v) (fun _ s₁=>wpAny (model prog w) A (assign target env v) (fun _ s₂=>
   wpAny (model prog w) A (forIn ifs true fun c r=>if r=true then do let ok ← isTrue c env (eval c env);pure (ForInStep.yield ok) else pure (ForInStep.yield r)) (fun ok s₃=>
    if ok=true then wpAny (model prog w) A (eval elt env) (fun x s₄=>
     wpAny (model prog w) A (call (.builtin "list.append") [acc,x]) (fun _ s₅=>∃m,m < n∧I m s₅) (notedBy (model prog w) A env fun e s'=>R (.error e) s') s₄) (notedBy (model prog w) A env fun e s'=>R (.error e) s') s₃
    else ∃m,m < n∧I m s₃) (notedBy (model prog w) A env fun e s'=>R (.error e) s') s₂) (notedBy (model prog w) A env fun e s'=>R (.error e) s') s₁) (notedBy (model prog w) A env fun e s'=>R (.error e) s') s₁) (notedBy (model prog w) A env fun e s'=>R (.error e) s') s)
 (n:Nat) (h:I n s):
 codeAny (model prog w) A (.compLoop (.ListComp elt [⟨target,iter,ifs,0⟩] scope pos) 0 it acc env) R s:=by
 refine codeAny_loop rfl I (fun n s hI=>?_) n h
 show wpAny _ A ((compTurn (.ListComp elt [⟨target,iter,ifs,0⟩] scope pos) 0 it acc env).onRaise (fun x=>do noteFrame x env;theTreesLotGoes x)) _ _ s
 refine wpAny_noted ?_
 rw [compTurn_list]
 refine wpAny_bind (wpAny_standAt (wpAny_bind (wpAny_mono (turn n s hI) (fun r s₁ h₁=>?_) fun _ _ h'=>h')))
 cases r with
 | none=>exact wpAny_pure h₁
 | some v=>
  refine wpAny_bind (wpAny_mono h₁ (fun _ s₁ h₁=>?_) fun _ _ h'=>h')
  refine wpAny_bind (wpAny_mono h₁ (fun _ s₂ h₂=>wpAny_bind (wpAny_mono h₂ (fun ok s₃ h₃=>?_) fun _ _ h'=>h')) fun _ _ h'=>h')
  cases ok with
  | false=>exact wpAny_pure ⟨rfl,h₃⟩
  | true=>
   exact wpAny_bind (wpAny_bind (wpAny_mono h₃ (fun x s₄ h₄=>wpAny_bind (wpAny_mono h₄ (fun _ s₅ h₅=>wpAny_pure (wpAny_pure ⟨rfl,h₅⟩)) fun _ _ h'=>h')) fun _ _ h'=>h'))
noncomputable def clo(env:Env):List (Str×NameKind)→List (Str×Addr)→List (Str×Addr)
 | [],cs=>cs
 | (n,k)::r,cs=>clo env r (if (k== .free)=true then (match env.cells.lookup n with | some c=>(n,c)::cs | none=>cs) else cs)
theorem clo_loop{env:Env}:∀(names:List (Str×NameKind)) (cs:List (Str×Addr)),(∀y∈names,y.2= .free→∃c,env.cells.lookup y.1=some c)→
 (forIn (m:=Sem) names cs fun (x:Str×NameKind) (r:List (Str×Addr))=>match x with | (name,kind)=>if (kind== .free)=true then do let c ← cellOf env name;pure (ForInStep.yield ((name,c)::r)) else pure (ForInStep.yield r))=pure (clo env names cs)
 | [],cs,_=>rfl
 | (n,k)::r,cs,h=>by
  rw [List.forIn_cons]
  have ih:=fun cs=>clo_loop r cs fun y hy=>h y (List.mem_cons_of_mem _ hy)
  by_cases hk:(k==NameKind.free)=true
  · obtain ⟨c,hc⟩:=h (n,k) List.mem_cons_self (by simpa using hk)
    have e:cellOf env n=pure c:=by unfold cellOf;rw [show env.cells.lookup n=some c from hc]
    simp only [hk,if_true,e,clo]
    rw [show env.cells.lookup n=some c from hc]
    exact ih _
  · simp only [hk,clo]
    exact ih _
theorem clo_closure{scope:Scope}{env:Env}(h:∀y∈scope.names,y.2= .free→∃c,env.cells.lookup y.1=some c):closureFor scope env=pure (clo env scope.names []):=by
 unfold closureFor
 show (forIn (m:=Sem) scope.names ([]:List (Str×Addr)) _ >>=fun r=>pure r)=_
 rw [clo_loop scope.names [] h]
 rfl
theorem clo_cells{env:Env}{x:Str}{c:Addr}:∀(names:List (Str×NameKind)) (cs:List (Str×Addr)),(clo env names cs).lookup x=some c→env.cells.lookup x=some c∨cs.lookup x=some c
 | [],cs,h=> .inr h
 | (n,k)::r,cs,h=>by
  unfold clo at h
  rcases clo_cells r _ h with q | q
  · exact .inl q
  · split at q
    · split at q
      · rename_i c' hc
        rw [List.lookup_cons]at q
        cases hx:x==n with
        | true=>
         rw [hx]at q
         have e:x=n:=by simpa using hx
         subst e
         simp only [Option.some.injEq]at q
         subst q
         exact .inl hc
        | false=>rw [hx]at q;exact .inr q
      · exact .inr q
    · exact .inr q
theorem clo_has{env:Env}{x:Str}{c:Addr}(hc:env.cells.lookup x=some c):∀(names:List (Str×NameKind)) (cs:List (Str×Addr)),(cs.lookup x=some c∨(cs.lookup x=none∧(x,NameKind.free)∈names))→(clo env names cs).lookup x=some c
 | [],cs,h=>by
  rcases h with h | ⟨_,h⟩
  · exact h
  · cases h
 | (n,k)::r,cs,h=>by
  unfold clo
  refine clo_has hc r _ ?_
  by_cases hx:x=n
  · subst hx
    by_cases hk:(k==NameKind.free)=true
    · rw [if_pos hk,hc]
      exact .inl (by simp [List.lookup_cons])
    · rw [if_neg hk]
      rcases h with h | ⟨h1,h2⟩
      · exact .inl h
      · refine .inr ⟨h1,?_⟩
        rcases List.mem_cons.mp h2 with e | e
        · cases e;exact absurd rfl hk
        · exact e
  · have hb:(x==n)=false:=by simpa using hx
    have key:∀cs':List (Str×Addr),cs'.lookup x=cs.lookup x→(cs'.lookup x=some c∨(cs'.lookup x=none∧(x,NameKind.free)∈r)):=fun cs' e=>by
     rw [e]
     rcases h with h | ⟨h1,h2⟩
     · exact .inl h
     · refine .inr ⟨h1,?_⟩
       rcases List.mem_cons.mp h2 with e | e
       · cases e;exact absurd rfl hx
       · exact e
    refine key _ ?_
    split
    · split
      · simp [List.lookup_cons,hb]
      · rfl
    · rfl
theorem relabel_kind{env:Env}{k':NameKind}:∀{names:List (Str×NameKind)} {x:Str},(∀y∈names,y.2≠ .cell)→
 (names.map fun (n,k)=>if (k==NameKind.free && env.scope.kind== .function && env.kindOf n==some .cell) then (n,NameKind.cell) else (n,k)).lookup x=some k'→(k'= .cell∨k'= .free)→(x,NameKind.free)∈names
 | [],_,_,h,_=>by simp at h
 | (n,k)::r,x,hc,h,hk=>by
  have ih:=@relabel_kind env k' r x (fun y hy=>hc y (List.mem_cons_of_mem _ hy))
  have h':List.lookup x ((if (k==NameKind.free && env.scope.kind== .function && env.kindOf n==some .cell)=true then (n,NameKind.cell) else (n,k))::(r.map fun (n,k)=>if (k==NameKind.free && env.scope.kind== .function && env.kindOf n==some .cell) then (n,NameKind.cell) else (n,k)))=some k':=h
  by_cases hx:x=n
  · subst hx
    by_cases q:(k==NameKind.free && env.scope.kind== .function && env.kindOf x==some .cell)=true
    · have:k= .free:=by simp only [Bool.and_eq_true,beq_iff_eq]at q;exact q.1.1
      subst this
      exact List.mem_cons_self
    · rw [if_neg q,List.lookup_cons]at h'
      simp only [beq_self_eq_true]at h'
      have e:k=k':=Option.some.inj h'
      rcases hk with z | z
      · exact absurd (e.trans z) (hc (x,k) List.mem_cons_self)
      · rw [e.trans z];exact List.mem_cons_self
  · have hb:(x==n)=false:=by simpa using hx
    refine List.mem_cons_of_mem _ (ih ?_ hk)
    split at h'
    · rw [List.lookup_cons,hb]at h';exact h'
    · rw [List.lookup_cons,hb]at h';exact h'
theorem lookup_relabel_free{env:Env}:∀{names:List (Str×NameKind)} {x:Str},names.lookup x=some .free→
 (names.map fun (n,k)=>if (k==NameKind.free && env.scope.kind== .function && env.kindOf n==some .cell) then (n,NameKind.cell) else (n,k)).lookup x=some .cell∨
 (names.map fun (n,k)=>if (k==NameKind.free && env.scope.kind== .function && env.kindOf n==some .cell) then (n,NameKind.cell) else (n,k)).lookup x=some .free
 | [],_,h=>by simp at h
 | (n,k)::r,x,h=>by
  have ih:=@lookup_relabel_free env r x
  show List.lookup x ((if (k==NameKind.free && env.scope.kind== .function && env.kindOf n==some .cell)=true then (n,NameKind.cell) else (n,k))::_)=_∨List.lookup x ((if (k==NameKind.free && env.scope.kind== .function && env.kindOf n==some .cell)=true then (n,NameKind.cell) else (n,k))::_)=_
  cases hx:x==n with
  | true=>
   simp only [List.lookup_cons,hx]at h
   cases h
   split
   · left;simp [List.lookup_cons,hx]
   · right;simp [List.lookup_cons,hx]
  | false=>
   simp only [List.lookup_cons,hx]at h
   split
   · simp only [List.lookup_cons,hx];exact ih h
   · simp only [List.lookup_cons,hx];exact ih h
structure Blk where
 s:Shared
 H:Hp
 C:Addr
 fp:List Addr
noncomputable abbrev Cx.blk(X:Cx)(scope:Scope)(N':List Str)(b:Blk):Cx:=
 {X with N:=N',s₀:=b.s,H₀:=b.H,env:=compEnvC scope (clo X.env scope.names []) b.C X.env,outer:=X.stack,ex:=b.fp,fn:=fun _=>false,pn:=[],xe:=fun _ _=>False}
noncomputable def around(N:List Str)(fs:List Nat):List Str:=fs.map fun j=>N.getD j ""
noncomputable def compOkB(N:List Str)(esc scope:Scope)(xs:List Str)(fs:List Nat):Bool:=
 decide (xs++around N fs).Nodup && (match scope.kind with | .function=>true | _=>false) && xs.all (fun x=>decide (scope.names.lookup x=some .local)) &&
 scope.names.all (fun y=>decide (y.2≠ .cell) && (!decide (y.2= .local) || decide (scope.names.lookup y.1=some .local)) && (!decide (y.2= .free) || decide (esc.names.lookup y.1=some .cell) || decide (esc.names.lookup y.1=some .free))) &&
 fs.all fun j=>decide (j < N.length) && decide (scope.names.lookup (N.getD j "")=some .free)
structure CompOk(N:List Str)(esc scope:Scope)(xs:List Str)(fs:List Nat):Prop where
 nd:(xs++around N fs).Nodup
 kind:scope.kind= .function
 own:∀x∈xs,scope.names.lookup x=some .local
 cell:∀y∈scope.names,y.2≠ .cell
 names:∀y∈scope.names,y.2= .local→scope.names.lookup y.1=some .local
 free:∀y∈scope.names,y.2= .free→esc.names.lookup y.1=some .cell∨esc.names.lookup y.1=some .free
 fs:∀j∈fs,j < N.length∧scope.names.lookup (N.getD j "")=some .free
theorem compOk_of{N:List Str}{esc scope:Scope}{xs:List Str}{fs:List Nat}(h:compOkB N esc scope xs fs=true):CompOk N esc scope xs fs:=by
 unfold compOkB at h
 simp only [Bool.and_eq_true,decide_eq_true_eq,List.all_eq_true]at h
 obtain ⟨⟨⟨⟨h1,h2⟩,h3⟩,h4⟩,h5⟩:=h
 refine ⟨h1,?_,h3,fun y hy=>(h4 y hy).1.1,fun y hy e=>?_,fun y hy e=>?_,h5⟩
 · split at h2
   · assumption
   · cases h2
 · have:=(h4 y hy).1.2
   simpa [e] using this
 · have:=(h4 y hy).2
   simpa [e] using this
section
variable {X:Cx} {pins:List (Addr×Obj)} {σ:St} {H:Hp} {s:Shared} {scope:Scope} {xs:List Str} {fs:List Nat} {fp:List Addr} {C:Addr}
theorem blk_ok(I:Inv X pins σ H s)(O:CompOk X.N X.env.scope scope xs fs)(hf:∀b∈fp,FpOk X pins H b)(hC:s.heap.objs.size≤C)(hfp:∀b∈fp,b < s.heap.objs.size):(X.blk scope (xs++around X.N fs) ⟨s,H,C,fp⟩).Ok:=by
 have hcl:∀x c,(clo X.env scope.names []).lookup x=some c→X.env.cells.lookup x=some c:=fun x c e=>by
  rcases clo_cells _ _ e with q | q
  · exact q
  · cases q
 have hsz:∀b o,X.base.get? b=some o→b < X.s₀.heap.objs.size:=fun b o e=>Nat.lt_of_lt_of_le (Heap.lt_size e) I.ok.bsz
 refine ⟨I.ok.mod,O.kind,I.ok.glob,I.ok.blt,hC,fun x y c h1 h2=>I.ok.inj x y c (hcl x c h1) (hcl y c h2),fun x hx=>?_,fun x c z=>(by cases z),I.ok.hd,I.ok.frames,.inl rfl,fun b hb=>⟨Nat.ne_of_lt (Nat.lt_of_lt_of_le (hfp b hb) hC),fun x c e=>(hf b hb).2.2.2.2.1 x c (hcl x c e)⟩,I.bs,Nat.le_trans I.ok.bsz I.sz,fun b o e hb=>?_,fun b hb hs=>?_,I.stack,I.stkFree⟩
 · have hm:(x,NameKind.free)∈scope.names:=by
    rcases hx with hx | hx
    · exact relabel_kind (env:=X.env) O.cell (show (scope.names.map _).lookup x=some NameKind.cell from hx) (.inl rfl)
    · exact relabel_kind (env:=X.env) O.cell (show (scope.names.map _).lookup x=some NameKind.free from hx) (.inr rfl)
   obtain ⟨c,hc⟩:=I.ok.has x (O.free _ hm rfl)
   exact ⟨c,clo_has hc _ _ (.inr ⟨rfl,hm⟩)⟩
 · obtain ⟨_,_,_,h4,_⟩:=hf b hb
   rcases h4 with h4 | h4
   · exact I.ok.noex b o e h4
   · exact absurd (Nat.lt_of_lt_of_le (hsz b o e) h4) (Nat.lt_irrefl _)
 · obtain ⟨_,h2,h3,_⟩:=hf b hb
   exact (List.mem_cons.mp (I.stkSub b hs)).elim h2 h3
theorem blk_in{h1:Heap}{t:Nat}{D:Addr}{m:Str→Option Value}(I:Inv X pins σ H s)(O:CompOk X.N X.env.scope scope xs fs)(hf:∀b∈fp,FpOk X pins H b)(hD:s.heap.objs.size≤D)(hC:s.heap.objs.size≤C)(hfp:∀b∈fp,b < s.heap.objs.size)(hDC:D≠C)
 (k:∀b u,s.heap.get? b=some u→h1.get? b=some u) (hDo:h1.get? D=some {cls:= .type "list",data:= .seq #[] 0}) (hn:h1.Ns C m):
 Inv (X.blk scope (xs++around X.N fs) ⟨s,H,C,fp⟩) [] (xs.map (fun _=>none)++fs.map fun j=>σ.getD j none) (upd H D (.lst [])) {s with heap:=h1,toks:=t}:=by
 have hcl:∀x c,(clo X.env scope.names []).lookup x=some c→X.env.cells.lookup x=some c:=fun x c e=>by
  rcases clo_cells _ _ e with q | q
  · exact q
  · cases q
 have ok:=blk_ok (C:=C) I O hf hC hfp
 have hnD:H D=none:=I.hok.fresh hD
 refine ⟨ok,rfl,I.bare,Un.laid k hD hnD,⟨m,hn,fun i x v e1 e2 e3=>?_⟩,fun x c e=>?_,?_,fun x c e=>?_,fun p hp=>absurd (show p∈([]:List (Addr×Obj)) from hp) (by simp),I.hok.laid k hD ⟨Nat.zero_le _,[],0,.nil,hDo⟩,by simp [around]⟩
 · by_cases hi:i < xs.length
   · rw [List.getElem?_append_left (by simpa using hi),List.getElem?_map]at e2
     cases q:xs[i]? with
     | none=>rw [q]at e2;cases e2
     | some a=>rw [q]at e2;cases e2
   · have hi:xs.length≤i:=Nat.le_of_not_lt hi
     rw [List.getElem?_append_right (by simpa using hi)]at e1 e2
     unfold around at e1
     rw [List.length_map]at e2
     rw [List.getElem?_map]at e1 e2
     cases q:fs[i - xs.length]? with
     | none=>rw [q]at e2;cases e2
     | some j=>
      rw [q]at e1 e2
      simp only [Option.map_some,Option.some.injEq]at e1 e2
      obtain ⟨hj,hl⟩:=O.fs j (List.mem_of_getElem? q)
      obtain ⟨m0,_,hl0⟩:=I.loc
      have e1':X.N[j]?=some x:=by rw [← e1,List.getD_eq_getElem?_getD,List.getElem?_eq_getElem hj];rfl
      have e2':σ[j]?=some (some v):=by
       rw [List.getD_eq_getElem?_getD]at e2
       cases z:σ[j]? with
       | none=>rw [z]at e2;cases e2
       | some y=>rw [z]at e2;simp only [Option.getD_some]at e2;rw [e2]
      rw [e1]at hl
      have hm:(x,NameKind.free)∈scope.names:=PySem.mem_of_lookup hl
      have hk:=O.free _ hm rfl
      obtain ⟨u,r,l⟩:=hl0 j x v e1' e2' (hk.elim (fun z=> .inr (.inl z)) fun z=> .inr (.inr z))
      refine ⟨u,r,?_⟩
      rcases l with ⟨z,_⟩ | ⟨_,c,hc,cell⟩
      · have z':X.env.scope.names.lookup x=some .local:=z
        rcases hk with hk | hk <;> (rw [z']at hk;cases hk)
      · refine .inr ⟨?_,c,clo_has hc _ _ (.inr ⟨rfl,hm⟩),?_⟩
        · exact lookup_relabel_free (env:=X.env) hl
        · obtain ⟨o,ho,hd⟩:=cell
          exact ⟨o,k _ _ ho,hd⟩
 · obtain ⟨v,o,ho,hd⟩:=I.cell x c (hcl x c e)
   exact ⟨v,o,k _ _ ho,hd⟩
 · show upd H D (.lst []) C=none
   rw [upd_ne (Ne.symm hDC)];exact I.hok.fresh hC
 · obtain ⟨v,q⟩:=I.cell x c (hcl x c e)
   rw [upd_ne (Nat.ne_of_lt (Nat.lt_of_lt_of_le q.lt hD))]
   exact I.freeC x c (hcl x c e)
theorem blk_out{N':List Str}{σ':St}{H':Hp}{s':Shared}{h2:Heap}{pl:List (Addr×Obj)}(I:Inv X pins σ H s)(hf:∀b∈fp,FpOk X pins H b)(hC:s.heap.objs.size≤C)(J:Inv (X.blk scope N' ⟨s,H,C,fp⟩) pl σ' H' s')(sb:Heap.SameBut C s'.heap h2):
 Inv X pins σ H' {s' with heap:=h2}:=by
 have u:=J.base
 have ne:∀b o,s.heap.get? b=some o→b≠C:=fun b o e=>Nat.ne_of_lt (Nat.lt_of_lt_of_le (Heap.lt_size e) hC)
 refine I.call' (ch:=fp) J.os ⟨fun b o e n h1 h2=>(sb.2 b (ne b o e)).trans (u.keep b o e n h1 h2),fun b o e n h1 h2=>?_,u.free,fun b o e hx=>?_,u.tups,u.frzs,u.tbls⟩ (fun a o e=>?_) J.bare fun b hb=>?_
 · obtain ⟨sl,q⟩:=u.slot b o e n h1 h2
   exact ⟨sl,(sb.2 b (ne b o e)).trans q⟩
 · obtain ⟨o',q⟩:=u.there b o e hx
   exact ⟨o',(sb.2 b (ne b o e)).trans q⟩
 · have fr:H' C=none:=J.free
   refine (J.hok a o e).stay (fun b v hc q=>(sb.2 b ?_).trans q) (fun _ q=>q) fun _ _ q=>q
   rcases hc with rfl | hc
   · exact ne_of_none e fr
   · exact ne_of_none hc fr
 · obtain ⟨_,h2,h3,h4,h5,h6⟩:=hf b hb
   exact ⟨h4,h2,h5,h6⟩
end
end L2
namespace L2
noncomputable def Kept(σ σ':St):Prop:=∀(i:Nat) (v:V),σ[i]?=some (some v)→σ'[i]?=some (some v)
noncomputable def PTs(X:Cx)(ifs:List Expr)(t:TT):Prop:=
 ∀(pins:List (Addr×Obj)) (s:Shared) (σ:St) (H:Hp) (Q:Bool→Hp→Prop),Inv X pins σ H s→t σ H Q→
   wpAny (model X.prog X.w) X.A (forIn ifs true fun c r=>if r=true then do let ok ← isTrue c X.env (eval c X.env);pure (ForInStep.yield ok) else pure (ForInStep.yield r)) (TP X pins σ Q) X.xe s
noncomputable def tYes:TT:=fun _ H Q=>Q true H
theorem pts_nil{X:Cx}:PTs X [] tYes:=fun _ _ _ H _ I h=>wpAny_tests_nil ⟨H,I,h⟩
noncomputable def CompTail(σ0:St)(g:Blk→TG)(tt:Blk→TT)(te:Blk→TE)(Q:VK)(J:It)(H1:Hp):Prop:=∀(b:Blk) (D:Addr),H1 D=none→∃W:Nat→Nat→List V→Hp→Prop,(∃m,W 0 m [] (upd H1 D (.lst [])))∧∀i m ys H2,W i m ys H2→H2 D=some (.lst ys)∧
 ((J.stop i H2∧Q (.ref D) H2)∨(J.go i H2∧∀x H3,J.yld i H2 x H3→g b x σ0 H3 fun σ6 H6=>Kept σ0 σ6∧tt b σ6 H6 fun ok H7=>
   if ok=true then te b σ6 H7 fun y H8=>H8 D=some (.lst ys)∧ys.length < sizeLine∧∃m',m' < m∧W (i+1) m' (ys++[y]) (upd H8 D (.lst (ys++[y])))
   else ∃m',m' < m∧W (i+1) m' ys H7))
noncomputable def tComp(wi:TI)(n:Nat)(fs:List Nat)(g:Blk→TG)(tt:Blk→TT)(te:Blk→TE):TE:=fun σ H Q=>wi σ H (CompTail (List.replicate n none++fs.map fun j=>σ.getD j none) g tt te Q)
section
variable {X:Cx} {pins:List (Addr×Obj)} {σ:St} {scope:Scope} {xs:List Str} {fs:List Nat} {elt tg iter:Expr} {ifs:List Expr} {pos:Pos} {wi:TI} {g:Blk→TG} {tt:Blk→TT} {te:Blk→TE}
theorem turned_of{H:Hp}{s:Shared}{C:Addr}{h2:Heap}(I:Inv X pins σ H s)(F:FpOk X pins H C)(sb:Heap.SameBut C s.heap h2):Inv X pins σ H {s with heap:=h2}:=
 I.turned (t':=s.toks) (fun b o hb e=>(sb.2 b hb).trans e) F.1 F.2.1 F.2.2.2.1 F.2.2.2.2.1 F.2.2.2.2.2
theorem comp_run{Q:VK}{itv:Value}{s2:Shared}{E:Value→Shared→Prop}{RR:Value→Addr→Result→Shared→Prop}(hc:X.calm=true)(O:CompOk X.N X.env.scope scope xs fs)
 (hg:∀b,PG (X.blk scope (xs++around X.N fs) b) tg (g b)) (ht:∀b,PTs (X.blk scope (xs++around X.N fs) b) ifs (tt b)) (he:∀b,PE (X.blk scope (xs++around X.N fs) b) elt (te b))
 (h:PIE X pins σ tg (CompTail (List.replicate xs.length none++fs.map fun j=>σ.getD j none) g tt te Q) itv s2)
 (hR:∀D C s' m H',s'.heap.Ns C m→Inv X pins σ H' s'→Q (.ref D) H'→FpOk X pins H' C→RR (.ref D) C (.ok .next) s'):
 wpAny (model X.prog X.w) X.A (newList []) (fun acc s₃=>wpAny (model X.prog X.w) X.A (newFunctionEnv scope X.env.globals (clo X.env scope.names []) [] X.env.qual none .none (some X.env)) (fun cenv s₄=>
  codeAny (model X.prog X.w) X.A (.compStart (.ListComp elt [⟨tg,iter,ifs,0⟩] scope pos) 0 itv acc {cenv with scope:=relabel scope X.env}) (RR acc cenv.locals) s₄) E s₃) E s2:=by
 obtain ⟨it,fp,tn,J,H2,rfl,I2,T,st2,f2,rd⟩:=h
 have hfp:∀b∈fp,b < s2.heap.objs.size:=fun b hb=>by
  obtain ⟨o,e,_⟩:=T.obj _ _ st2 b hb
  exact Heap.lt_size e
 refine wpAny_newObj_type (wpAny_newFunctionEnv O.cell (by intro y hy;simp at hy) (fun h₁ hns₁ hsb₁=>?_) O.kind)
 dsimp only at hns₁ hsb₁ ⊢
 generalize hH2:s2.heap.push {cls:= .type "list",dict:=none,data:= .seq ([]:List Value).toArray}=HH at hns₁ hsb₁ ⊢
 have hC:HH.objs.size=s2.heap.objs.size+1:=by rw [← hH2,Heap.size_push]
 have hDC:s2.heap.objs.size≠HH.objs.size:=by rw [hC];exact Nat.ne_of_lt (Nat.lt_succ_self _)
 have hCle:s2.heap.objs.size≤HH.objs.size:=by rw [hC];exact Nat.le_succ _
 have old:∀b o,s2.heap.get? b=some o→h₁.get? b=some o:=fun b o e=>hsb₁.extBut b o (by rw [hC];exact Nat.ne_of_lt (Nat.lt_succ_of_lt (Heap.lt_size e))) (Heap.get?_push_of_some _ (hH2▸Heap.get?_push_of_some _ e))
 have hacc:h₁.get? s2.heap.objs.size=some {cls:= .type "list",data:= .seq #[] 0}:=hsb₁.extBut _ _ hDC (Heap.get?_push_of_some _ (hH2▸Heap.get?_push_size _ rfl))
 obtain ⟨W,⟨m0,w0⟩,turn⟩:=rd ⟨s2,H2,HH.objs.size,fp⟩ s2.heap.objs.size I2.fresh
 have I3:=blk_in (t:=s2.toks+([]:List (Str×Value)).length) I2 O f2 (Nat.le_refl _) hCle hfp hDC old hacc hns₁
 rw [show xs.map (fun _=>(none:Option V))=List.replicate xs.length none from List.map_const' ..]at I3
 generalize hX:X.blk scope (xs++around X.N fs) ⟨s2,H2,HH.objs.size,fp⟩=X' at I3
 have stat:∀{H':Hp},(∀b∈fp,H' b=none)→∀b∈fp,FpOk X' [] H' b:=fun hn b hb=>by
  subst hX
  refine ⟨hn b hb,?_,?_,.inl hb,fun x c e=>?_,fun p hp=>absurd hp (by simp)⟩
  · exact (I3.ok.exf b hb).1
  · exact I3.ok.exfs b hb
  · exact (I3.ok.exf b hb).2 x c e
 have fr3:∀b∈fp,upd H2 s2.heap.objs.size (.lst []) b=none:=fun b hb=>by
  rw [upd_ne (Nat.ne_of_lt (hfp b hb))];exact (f2 b hb).1
 have ccell:∀y c,X.env.cells.lookup y=some c→c≠HH.objs.size:=fun y c e=>by
  obtain ⟨v,q⟩:=I2.cell y c e
  exact Nat.ne_of_lt (Nat.lt_of_lt_of_le q.lt hCle)
 have cloc:HH.objs.size≠X.env.locals:=(Nat.ne_of_lt (Nat.lt_of_lt_of_le I2.lt hCle)).symm
 have eP:X'.prog=X.prog:=by rw [← hX]
 have ew:X'.w=X.w:=by rw [← hX]
 have eK:X'.K=X.K:=by rw [← hX]
 have eA:X'.A=X.A:=by rw [← hX]
 have ec:X'.calm=true:=by rw [← hX];exact hc
 have ex:X'.xe=fun _ _=>False:=by rw [← hX]
 have een:X'.env=compEnvC scope (clo X.env scope.names []) HH.objs.size X.env:=by rw [← hX]
 have hg':=hg ⟨s2,H2,HH.objs.size,fp⟩
 have ht':=ht ⟨s2,H2,HH.objs.size,fp⟩
 have he':=he ⟨s2,H2,HH.objs.size,fp⟩
 rw [hX]at hg' ht' he'
 have st1:tn 0 h₁:=T.keep _ _ _ st2 fun b hb o e=>old b o e
 have loop:∀s₃:Shared,s₃={s2 with heap:=h₁,toks:=s2.toks+([]:List (Str×Value)).length}→
  codeAny (model X.prog X.w) X.A (.compLoop (.ListComp elt [⟨tg,iter,ifs,0⟩] scope pos) 0 (.ref it) (.ref s2.heap.objs.size) (compEnvC scope (clo X.env scope.names []) HH.objs.size X.env))
   (RR (.ref s2.heap.objs.size) HH.objs.size) s₃:=by
  rintro s₃ rfl
  refine compLoop_any (fun n s'=>∃i ys H',Inv X' [] (List.replicate xs.length none++fs.map fun j=>σ.getD j none) H' s'∧tn i s'.heap∧(∀b∈fp,H' b=none)∧W i n ys H') ?_ m0 ⟨0,[],_,I3,st1,fr3,w0⟩
  rintro n s4 ⟨i,ys,H4,I4,st4,fr4,w4⟩
  obtain ⟨hD4,tn4⟩:=turn i n ys H4 w4
  rcases tn4 with ⟨stop,qn⟩ | ⟨go,step⟩
  · have td:=T.done X' eP ew eK ec i [] s4 _ H4 (notedBy (model X.prog X.w) X.A (compEnvC scope (clo X.env scope.names []) HH.objs.size X.env) fun e s'=>RR (.ref s2.heap.objs.size) HH.objs.size (.error e) s') I4 (stat fr4) st4 stop
    rw [eA]at td
    refine thn td fun r s5 ⟨hr,I5⟩=>?_
    subst hr
    obtain ⟨m5,hn5,_⟩:=I5.loc
    rw [een]at hn5
    have fr5:H4 HH.objs.size=none:=by have:=I5.free;rw [een]at this;exact this
    rw [← hX]at I5
    exact hR _ _ _ m5 H4 hn5 (blk_out I2 f2 hCle I5 (Heap.SameBut.refl ..)) qn (I2.fpOk hCle fr5)
  · have ti:=T.item X' eP ew eK ec i [] s4 _ H4 (notedBy (model X.prog X.w) X.A (compEnvC scope (clo X.env scope.names []) HH.objs.size X.env) fun e s'=>RR (.ref s2.heap.objs.size) HH.objs.size (.error e) s') I4 (stat fr4) st4 go
    rw [eA]at ti
    refine thn ti fun r s5 ⟨u,hr,h5⟩=>?_
    subst hr
    refine thn h5 fun _ s6 hq_=>?_
    obtain ⟨x,H6,I6,r6,y6,st6,fr6⟩:=hq_
    have I6':=I6.pinned (stat fr6) (T.obj _ _ st6)
    have g1:=hg' _ s6 _ H6 x u _ I6' r6 (step x H6 y6)
    rw [eP,ew,eA,een,ex]at g1
    refine wpAny_mono g1 (fun _ s7 hq_=>?_) fun _ _ z=>z.elim
    obtain ⟨σ7,H7,I7,kp7,q7⟩:=hq_
    have t1:=ht' _ s7 σ7 H7 _ I7 q7
    rw [eP,ew,eA,een,ex]at t1
    have back:∀{H9:Hp} {s9:Shared},Inv X' ([]++pinsAt fp s6.heap) σ7 H9 s9→Inv X' [] (List.replicate xs.length none++fs.map fun j=>σ.getD j none) H9 s9∧tn (i+1) s9.heap∧∀b∈fp,H9 b=none:=fun {H9 s9} I9=>by
     refine ⟨I9.unpinned.weak ?_ kp7,T.keep _ _ _ st6 fun b hb o e=>(I9.pin (b,o) (List.mem_append_right _ (List.mem_append_right _ (mem_pinsAt hb e)))).1,fun b hb=>?_⟩
     · rw [I9.len,I4.len]
     · obtain ⟨o,e,d⟩:=T.obj _ _ st6 b hb
       exact (I9.pin (b,o) (List.mem_append_right _ (List.mem_append_right _ (mem_pinsAt hb e)))).2.1
    refine wpAny_mono t1 (fun ok s8 ⟨H8,I8,q8⟩=>?_) fun _ _ z=>z.elim
    cases ok with
    | false=>
     rw [if_neg Bool.false_ne_true]at q8 ⊢
     obtain ⟨m',hm,w8⟩:=q8
     obtain ⟨b1,b2,b3⟩:=back I8
     exact ⟨m',hm,i+1,ys,H8,b1,b2,b3,w8⟩
    | true=>
     rw [if_pos rfl]at q8 ⊢
     have e1:=he' _ s8 σ7 H8 _ I8 q8
     rw [eP,ew,eA,een,ex]at e1
     refine wpAny_mono e1 (fun uy s9 hq_=>?_) fun _ _ z=>z.elim
     obtain ⟨y,H9,I9,r9,hD9,hz,m',hm,w9⟩:=hq_
     have a1:=mt_append (X:=X') (pins:=[]++pinsAt fp s6.heap) (s:=s9) (σ:=σ7) (H:=H9) (x:= .ref s2.heap.objs.size) (xs:=[y]) (v:= .ref s2.heap.objs.size) (us:=[uy]) (Q:=fun _ H'=>H'=upd H9 s2.heap.objs.size (.lst (ys++[y]))) I9 rfl (.cons r9 .nil) ⟨_,ys,y,rfl,rfl,hD9,hz,rfl⟩
     rw [eP,ew,eA,ex]at a1
     refine wpAny_mono a1 (fun _ s10 hq_=>?_) fun _ _ z=>z.elim
     obtain ⟨_,H10,I10,_,e10⟩:=hq_
     subst e10
     obtain ⟨b1,b2,b3⟩:=back I10
     exact ⟨m',hm,i+1,_,_,b1,b2,b3,w9⟩
 exact codeAny_compStart_list (loop _ rfl) (T.self _ 0 _ _ _ st1 (loop _ rfl))
theorem pe_compG(hc:X.calm=true)(hok:compOkB X.N X.env.scope scope xs fs=true)(hi:PI X tg iter wi)
 (hg:∀b,PG (X.blk scope (xs++around X.N fs) b) tg (g b)) (ht:∀b,PTs (X.blk scope (xs++around X.N fs) b) ifs (tt b)) (he:∀b,PE (X.blk scope (xs++around X.N fs) b) elt (te b))
 (hs:∀x,foldedSetIterable iter X.env x=pure x:=by intro _;rfl):
 PE X (.ListComp elt [⟨tg,iter,ifs,0⟩] scope pos) (tComp wi xs.length fs g tt te):=by
 intro pins s σ H Q I h
 have O:=compOk_of hok
 rw [eval_ListComp]
 refine wpAny_comprehension_free (use:=none) rfl hs (clo_closure fun y hy hf=>I.ok.has _ (O.free y hy hf)) O.kind O.names (thn (hi pins s σ H _ I h) fun v s1 h1=>thn h1 fun itv s2 h2=>?_)
 exact comp_run (RR:=fun acc C=>compPost (model X.prog X.w) X.A X.xe none (EP X pins σ Q) acc C) hc O hg ht he h2 fun D C s' m H' hn I' q F=>⟨m,hn,fun h2 sb=>⟨.ref D,H',turned_of I' F sb,rfl,q⟩⟩
theorem ps_comp{y:Str}{py:Pos}{i:Nat}(hN:X.N.Nodup)(hy:X.N[i]?=some y)(hyl:X.env.kindOf y=some .local)(hc:X.calm=true)(hok:compOkB X.N X.env.scope scope xs fs=true)(hi:PI X tg iter wi)
 (hg:∀b,PG (X.blk scope (xs++around X.N fs) b) tg (g b)) (ht:∀b,PTs (X.blk scope (xs++around X.N fs) b) ifs (tt b)) (he:∀b,PE (X.blk scope (xs++around X.N fs) b) elt (te b)) {spos:Pos}
 (hsw:swapsWith (.ListComp elt [⟨tg,iter,ifs,0⟩] scope pos) (some (.Name y py)) spos.line X.env=pure true:=by rfl)
 (hs:∀x,foldedSetIterable iter X.env x=pure x:=by intro _;rfl):
 PS X (.Assign [.Name y py] (.ListComp elt [⟨tg,iter,ifs,0⟩] scope pos) spos) (tAsg (tComp wi xs.length fs g tt te) (gName i)):=by
 intro pins s σ H D I h
 have O:=compOk_of hok
 rw [exec_Assign_Name_used _ _ _ _ hsw]
 refine wpAny_bind (wpAny_standAt (wpAny_bind ?_))
 show wpAny _ X.A (do let _ ← comprehension (.ListComp elt [⟨tg,iter,ifs,0⟩] scope pos) scope X.env _ (newList []) false (eval iter X.env) (some (assign (.Name y py) X.env))) _ _ s
 refine wpAny_bind (wpAny_mono (wpAny_comprehension_free (use:=some (assign (.Name y py) X.env)) (Q:=fun _ s'=>SP X pins D .next s') rfl hs (clo_closure fun y hy hf=>I.ok.has _ (O.free y hy hf)) O.kind O.names
  (thn (hi pins s σ H _ I h) fun v s1 h1=>thn h1 fun itv s2 h2=>?_)) (fun _ s' hq=>wpAny_pure (wpAny_pure hq)) fun _ _ e=>e)
 refine comp_run (RR:=fun acc C=>compPost (model X.prog X.w) X.A X.xe (some (assign (.Name y py) X.env)) (fun _ s'=>SP X pins D .next s') acc C) hc O hg ht he h2 fun D' C s' m H' hn I0 q0 F=>?_
 show wpAny _ X.A (assign (.Name y py) X.env (.ref D')) _ _ _
 refine wpAny_assign_Name (store_ok2 I0 hN hy (.inl hyl) (v:= .ref D') rfl (fun s3 I3 hsb=>?_) (.inr hyl))
 obtain ⟨a,sb3,ha⟩:=hsb
 have haC:C≠a:=by
  rcases ha with rfl | ha
  · exact F.2.1
  · exact (F.2.2.2.2.1 y a ha).symm
 exact ⟨m,hn.sameBut sb3 haC,fun h4 sb4=>⟨_,H',turned_of I3 F sb4,q0⟩⟩
end
end L2
namespace L2
noncomputable def Its(z:Str):It:=⟨fun i _=>i < z.cps.size,fun i H x H'=>H'=H∧∃c,z.cps[i]?=some c∧x= .str ⟨#[c]⟩,fun i _=>z.cps.size≤i⟩
noncomputable def iStr(tl:TE):TI:=fun σ H R=>tl σ H fun x H1=>∃z,x= .str z∧R (Its z) H1
section
variable {P:Program} {w:World} {K:PySem.W.Frag} {tg:Expr}
theorem turn_str(ty:String)(hty:ty="str_ascii_iterator"∨ty="str_iterator")(z:Str)(t:Tok)(it:Addr):Turn P w K tg (Its z) [it] it (fun i h=>i≤z.cps.size∧h.IsStrIter it ty z t i) where
 mem:=by simp
 obj:=fun i h st b hb=>by
  have e:b=it:=by simpa using hb
  subst e
  obtain ⟨o,e,c,d⟩:=st.2
  exact ⟨o,e,fun v z=>by rw [d]at z;cases z⟩
 keep:=fun i h h' st k=>⟨st.1,by obtain ⟨o,e,r⟩:=st.2;exact ⟨o,k it (by simp) o e,r⟩⟩
 item:=by
  intro X hP hw hK hc i pins s σ H E I hf st hg
  subst hP hw hK
  obtain ⟨f0,f1,f2,f3,f4,f5⟩:=hf it (by simp)
  have W:Walks X.prog X.w X.A it [it] [it] z.cps.size (SignAt z) (fun i h=>h.IsStrIter it ty z t i):=by
   rcases hty with rfl | rfl
   · exact Walks.strAscii (I.ok.hd hc) it z t
   · exact Walks.strWide (I.ok.hd hc) it z t
  refine W.item i s _ _ hg st.2 fun v h' tk hv st' kk=>?_
  obtain ⟨c,u,hcc,rfl⟩:=hv
  have I1:Inv X pins σ H {s with heap:=h',toks:=tk}:=I.turned (fun b o hb e=>kk b o (by simpa using hb) e) f0 f1 f3 f4 f5
  obtain ⟨o,e,cc,d⟩:=id st'
  refine ⟨_,rfl,go_of (s:={s with heap:=h',toks:=tk}) (n:=ty) e cc d (by rcases hty with rfl | rfl <;> decide) ⟨.str ⟨#[c]⟩,H,I1,⟨u,rfl⟩,⟨rfl,c,hcc,rfl⟩,⟨hg,st'⟩,fun b hb=>(hf b hb).1⟩⟩
 done:=by
   intro X hP hw hK hc i pins s σ H E I hf st hg
   subst hP hw hK
   obtain ⟨f0,f1,f2,f3,f4,f5⟩:=hf it (by simp)
   have W:Walks X.prog X.w X.A it [it] [it] z.cps.size (SignAt z) (fun i h=>h.IsStrIter it ty z t i):=by
    rcases hty with rfl | rfl
    · exact Walks.strAscii (I.ok.hd hc) it z t
    · exact Walks.strWide (I.ok.hd hc) it z t
   have hi:i=z.cps.size:=Nat.le_antisymm st.1 hg
   subst hi
   exact W.done s _ _ st.2 fun h' tk kk=>⟨rfl,I.turned (fun b o hb e=>kk b o (by simpa using hb) e) f0 f1 f3 f4 f5⟩
 self:=fun _ _ _ _ _ st h=>by
  rcases hty with rfl | rfl
  · exact wpAny_pyIter_striter_ascii st.2 h
  · exact wpAny_pyIter_striter_wide st.2 h
end
section
variable {X:Cx} {tg:Expr}
theorem pi_str{l:Expr}{tl:TE}(hl:PE X l tl):PI X tg l (iStr tl):=by
 intro pins s σ H R I h
 refine thn (hl pins s σ H _ I h) fun v s1 hq_=>?_
 obtain ⟨x,H1,I1,r1,q1⟩:=hq_
 obtain ⟨z,e,q⟩:=q1
 subst e
 obtain ⟨t,rfl⟩:=r1
 have fin:∀ty,(ty="str_ascii_iterator"∨ty="str_iterator")→PIE X pins σ tg R (.ref s1.heap.objs.size) {s1 with heap:=s1.heap.push {cls:= .type ty,data:= .fields #[.str z t,.int 0 0]}}:=fun ty hty=>by
  refine ⟨s1.heap.objs.size,[s1.heap.objs.size],_,_,H1,rfl,I1.kept (t':=s1.toks) fun b o e=>Heap.get?_push_of_some _ e,turn_str ty hty z t _,⟨Nat.zero_le _,_,Heap.get?_push_size _ rfl,rfl,rfl⟩,fun b hb=>?_,q⟩
  have e:b=s1.heap.objs.size:=by simpa using hb
  subst e
  exact I1.fpOk (Nat.le_refl _) I1.fresh
 cases ha:z.cps.all (· < 128)
 · exact wpAny_pyIter_wide ha (fin _ (.inr rfl))
 · exact wpAny_pyIter_ascii ha (fin _ (.inl rfl))
noncomputable def rSlS:V→Option Int→Option Int→Hp→VK→Prop:=fun x lo hi H Q=>∃z,x= .str z∧z.length≤sizeLine∧Q (.str (Txt.slice z lo hi)) H
theorem sl_str:SlR X rSlS:=by
 intro pins s σ H x v vl vu lo hi sl Q I rx hs pl pu h
 obtain ⟨z,rfl,hz,q⟩:=h
 obtain ⟨t,rfl⟩:=rx
 obtain ⟨o,ho,hc,hd⟩:=hs
 refine ⟨"str",_,F.slot_str_getitem.lookup,typeIs_str _ _ _,?_⟩
 have fin:∀(l u:Option (Int×Tok)),s.heap.IsSlice sl l u none→l.map (·.1)=lo→u.map (·.1)=hi→wpAny (model X.prog X.w) X.A (getItem (.str z t) (.ref sl)) (EP X pins σ Q) X.xe s:=fun l u hsl hl hu=>by
  subst hl hu
  exact wpAny_getItem_str_slice (l:=l) (u:=u) (st:=none) hsl rfl (post_val_or_str ⟨Nat.le_trans (Txt.slice_le z _ _) hz,fun t' k=>⟨.str _,H,I.tok k,⟨t',rfl⟩,q⟩⟩)
 cases pl <;> cases pu
 · exact fin none none ⟨o,ho,hc,hd⟩ rfl rfl
 · exact fin none (some (_,_)) ⟨o,ho,hc,hd⟩ rfl rfl
 · exact fin (some (_,_)) none ⟨o,ho,hc,hd⟩ rfl rfl
 · exact fin (some (_,_)) (some (_,_)) ⟨o,ho,hc,hd⟩ rfl rfl
theorem strsAre_of:∀{ys:List Str} {us:List Value},Vals (ys.map V.str) us→StrsAre us ys
 | [],_,r=>by rw [List.map_nil]at r;cases r;exact .nil
 | y::ys,us,r=>by
  rw [List.map_cons]at r
  cases r with
  | cons r1 r2=>
   obtain ⟨t,e⟩:=r1
   subst e
   exact .cons y t (strsAre_of r2)
noncomputable def rJoin(K:PySem.W.Frag):V→List V→Hp→VK→Prop:=fun x vs H Q=>∃z p ys,x= .str z∧vs=[.ref p]∧SqL K H p (ys.map V.str)∧(ys.map (·.length)).sum+ys.length * z.length≤16777216∧Q (.str (Txt.join z ys)) H
theorem mt_join:MtR X "str.join" (rJoin X.K):=by
 intro pins s σ H x vs v us Q I rx rv h
 obtain ⟨z,p,ys,rfl,rfl,hp,hw,q⟩:=h
 obtain ⟨t,rfl⟩:=rx
 obtain ⟨u,rfl,ru⟩:=rv.one
 cases ru
 obtain ⟨its,r,pl,hz⟩:=I.list hp
 exact join_list pl.isList (by simpa using strsAre_of r) hw fun t' k=>⟨.str _,H,I.tok k,⟨t',rfl⟩,q⟩
noncomputable def rFind:V→List V→Hp→VK→Prop:=fun x vs H Q=>∃z y,x= .str z∧vs=[.str y]∧Q (.int (Txt.find z y)) H
noncomputable def rSplit:V→List V→Hp→VK→Prop:=fun x vs H Q=>∃z y,x= .str z∧vs=[.str y]∧(y.length==0)=false∧z.length+2≤sizeLine∧∀p,H p=none→Q (.ref p) (upd H p (.lst ((Txt.split z y).map V.str)))
noncomputable def rMulS:R2:=fun x y H Q=>∃z n,x= .str z∧y= .int n∧MulOk z n∧Q (.str (Txt.mul z n)) H
noncomputable def rAll(K:PySem.W.Frag):List V→Hp→VK→Prop:=fun xs H Q=>∃(p:Addr) (bs:List Bool),xs=[.ref p]∧SqL K H p (bs.map V.bl)∧Q (.bl (bs.all id)) H
theorem call_all(hc:X.calm=true):CallR X (.builtin "all") (rAll X.K):=by
 intro pins s σ H xs us Q I r h
 obtain ⟨p,bs,rfl,hp,q⟩:=h
 obtain ⟨u,rfl,ru⟩:=vals1 r
 cases ru
 obtain ⟨its,r,pl,hz⟩:=I.list hp
 have hlt:p < s.heap.objs.size:=by obtain ⟨o,n,e,_⟩:=pl;exact Heap.lt_size e
 refine call_all_walk (wpAny_pyIter_list pl.isList ⟨s.heap.objs.size,_,_,_,_,_,fun i=>bs.getD i true,rfl,Walks.list (show X.A.in1.handled=none from I.ok.hd hc) s.heap.objs.size p (Nat.ne_of_lt hlt) its.toArray,⟨⟨_,Heap.get?_push_size _ rfl,rfl,rfl⟩,pl.isList.push _⟩,?_,fun h' tk kk=>?_⟩)
 · intro i v s' Q' E' hP hQ'
   have hP:its.toArray[i]?=some v:=hP
   have hlen:=r.length
   rw [List.length_map]at hlen
   have hi:i < bs.length:=by
    have:=(Array.getElem?_eq_some_iff.mp hP).1
    rw [List.size_toArray]at this
    omega
   obtain ⟨u,hu,ru⟩:=r.get (i:=i) (x:=V.bl (bs[i])) (by simp [hi])
   have e:u=v:=by
    have:its[i]?=some v:=by simpa using hP
    rw [hu]at this;exact Option.some.inj this
   subst e
   cases ru
   dsimp only at hQ'
   rw [List.getD_eq_getElem?_getD,List.getElem?_eq_getElem hi]at hQ'
   exact wpAny_pure hQ'
 · refine ⟨.bl _,H,I.kept (t':=tk) fun b o e=>kk b o ?_ (Heap.get?_push_of_some _ e),rfl,?_⟩
   · simpa using Nat.ne_of_lt (Heap.lt_size e)
   · have hlen:=r.length
     rw [List.length_map]at hlen
     have:((List.range its.toArray.size).all fun i=>bs.getD i true)=bs.all id:=by
      rw [List.size_toArray,← hlen]
      rw [Bool.eq_iff_iff,List.all_eq_true,List.all_eq_true]
      constructor
      · intro h x hx
        obtain ⟨i,hi,rfl⟩:=List.mem_iff_getElem.mp hx
        have:=h i (by simpa using hi)
        simpa [List.getD_eq_getElem?_getD,List.getElem?_eq_getElem hi] using this
      · intro h i hi
        have hi:i < bs.length:=by simpa using hi
        rw [List.getD_eq_getElem?_getD,List.getElem?_eq_getElem hi]
        exact h _ (List.getElem_mem hi)
     rw [this];exact q
end
noncomputable abbrev TJ:=Str→St→Hp→(Str→Hp→Prop)→Prop
noncomputable def PJ(X:Cx)(es:List Expr)(t:TJ):Prop:=
 ∀(acc:Str) (pins:List (Addr×Obj)) (s:Shared) (σ:St) (H:Hp) (Q:Str→Hp→Prop),Inv X pins σ H s→t acc σ H Q→
   Joins (model X.prog X.w) X.A X.xe (evalEach es X.env) acc (fun out s'=>∃H',Inv X pins σ H' s'∧Q out H') s
noncomputable def jNil:TJ:=fun acc _ H Q=>Q acc H
noncomputable def jCons(te:TE)(tr:TJ):TJ:=fun acc σ H Q=>te σ H fun x H1=>∃y,x= .str y∧(acc++y).length≤sizeLine∧tr (acc++y) σ H1 Q
noncomputable def tFstr(t:TJ):TE:=fun σ H Q=>t Str.empty σ H fun out H1=>out.length≤sizeLine∧Q (.str out) H1
noncomputable def tFmt(te:TE):TE:=fun σ H Q=>te σ H fun x H1=>(∃z,x= .str z∧z.length≤sizeLine∧Q (.str z) H1)∨∃i,x= .int i∧i.natAbs.log2 < 1920∧Q (.str (toString i)) H1
noncomputable def tFmtR(te:TE):TE:=fun σ H Q=>te σ H fun x H1=>∃z,x= .str z∧(PySem.reprText z).length≤sizeLine∧Q (.str (PySem.reprText z)) H1
section
variable {X:Cx} {e v₁ v₂:Expr} {es:List Expr} {te:TE} {tr t:TJ} {pos:Pos}
theorem pj_nil:PJ X [] jNil:=fun _ _ _ _ H _ I h=>⟨H,I,h⟩
theorem pj_cons(he:PE X e te)(hr:PJ X es tr):PJ X (e::es) (jCons te tr):=by
 intro acc pins s σ H Q I h
 refine thn (he pins s σ H _ I h) fun v s1 hq_=>?_
 obtain ⟨x,H1,I1,r1,y,ex,hz,q⟩:=hq_
 subst ex
 obtain ⟨t,rfl⟩:=r1
 exact ⟨y,t,rfl,hz,hr _ pins s1 σ H1 Q I1 q⟩
theorem Joins.mono{M:Model}{A:Around}{E:Value→Shared→Prop}{Q Q':Str→Shared→Prop}(h:∀o s,Q o s→Q' o s):∀{parts:List (Sem Value)} {acc:Str} {s:Shared},Joins M A E parts acc Q s→Joins M A E parts acc Q' s
 | [],_,_,q=>h _ _ q
 | _::_,_,_,q=>wpAny_mono q (fun v s1 ⟨y,t,e,hz,r⟩=>⟨y,t,e,hz,Joins.mono h r⟩) fun _ _ x=>x
theorem pe_fstr(h:PJ X (v₁::v₂::es) t):PE X (.JoinedStr (v₁::v₂::es) pos) (tFstr t):=by
 intro pins s σ H Q I hq
 refine wpAny_JoinedStr (Joins.mono (fun o s1 hq_=>?_) (h Str.empty pins s σ H _ I hq))
 obtain ⟨H1,I1,hz,q⟩:=hq_
 exact ⟨hz,.str o,H1,I1.tok _,⟨_,rfl⟩,q⟩
theorem pe_fmt(h:PE X e te):PE X (.FormattedValue e (-1) none pos) (tFmt te):=by
 intro pins s σ H Q I hq
 refine wpAny_FormattedValue_plain (thn (h pins s σ H _ I hq) fun v s1 hq_=>?_)
 obtain ⟨x,H1,I1,r1,q⟩:=hq_
 rcases q with ⟨z,rfl,hz,q⟩ | ⟨i,rfl,hz,q⟩
 · obtain ⟨t,rfl⟩:=r1
   exact wpAny_formatField_str ⟨.str z,H1,I1,⟨_,rfl⟩,q⟩ ⟨.str z,H1,I1.tok _,⟨_,rfl⟩,q⟩ hz
 · obtain ⟨t,rfl⟩:=r1
   exact wpAny_formatField_int hz ⟨.str _,H1,I1.tok _,⟨_,rfl⟩,q⟩
theorem pe_fmtR(h:PE X e te):PE X (.FormattedValue e 114 none pos) (tFmtR te):=by
 intro pins s σ H Q I hq
 refine wpAny_FormattedValue_repr (thn (h pins s σ H _ I hq) fun v s1 hq_=>?_)
 obtain ⟨x,H1,I1,r1,z,ex,hz,q⟩:=hq_
 subst ex
 obtain ⟨t,rfl⟩:=r1
 refine wpAny_pyReprObj_gives (typeIs_str _ _ _) F.slot_str_repr F.entry_str_repr (F.args_str_repr_1 _) (gives_str_repr z t) ?_ rfl hz
 exact wpAny_formatField_str ⟨.str _,H1,I1.tok _,⟨_,rfl⟩,q⟩ ⟨.str _,H1,(I1.tok _),⟨_,rfl⟩,q⟩ hz
end
end L2
namespace L2
noncomputable abbrev tComp1(wi:TI)(fs:List Nat)(te:Blk→TE):TE:=tComp wi 1 fs (fun _=>gName 0) (fun _=>tYes) te
section
variable {X:Cx} {scope:Scope} {x:Str} {px:Pos} {fs:List Nat} {elt iter:Expr} {pos:Pos} {wi:TI} {te:Blk→TE}
theorem pg_own(hok:compOkB X.N X.env.scope scope [x] fs=true)(b:Blk):PG (X.blk scope ([x]++around X.N fs) b) (.Name x px) (gName 0):=
 pg_name (compOk_of hok).nd rfl (.inl (lookup_relabel_local ((compOk_of hok).own x (by simp)))) (.inr (lookup_relabel_local ((compOk_of hok).own x (by simp))))
theorem pe_comp1(x:Str)(fs:List Nat)(hc:X.calm=true)(hok:compOkB X.N X.env.scope scope [x] fs=true)(hi:PI X (.Name x px) iter wi)(he:∀b,PE (X.blk scope ([x]++around X.N fs) b) elt (te b))
 (hs:∀x,foldedSetIterable iter X.env x=pure x:=by intro _;rfl):PE X (.ListComp elt [⟨.Name x px,iter,[],0⟩] scope pos) (tComp1 wi fs te):=
 pe_compG (xs:=[x]) (g:=fun _=>gName 0) (tt:=fun _=>tYes) hc hok hi (pg_own hok) (fun _=>pts_nil) he hs
theorem ps_comp1{y:Str}{py:Pos}{i:Nat}{spos:Pos}(x:Str)(fs:List Nat)(hN:X.N.Nodup)(hy:X.N[i]?=some y)(hyl:X.env.kindOf y=some .local)(hc:X.calm=true)(hok:compOkB X.N X.env.scope scope [x] fs=true)(hi:PI X (.Name x px) iter wi)(he:∀b,PE (X.blk scope ([x]++around X.N fs) b) elt (te b))
 (hsw:swapsWith (.ListComp elt [⟨.Name x px,iter,[],0⟩] scope pos) (some (.Name y py)) spos.line X.env=pure true:=by rfl)
 (hs:∀x,foldedSetIterable iter X.env x=pure x:=by intro _;rfl):PS X (.Assign [.Name y py] (.ListComp elt [⟨.Name x px,iter,[],0⟩] scope pos) spos) (tAsg (tComp1 wi fs te) (gName i)):=
 ps_comp (xs:=[x]) (g:=fun _=>gName 0) (tt:=fun _=>tYes) hN hy hyl hc hok hi (pg_own hok) (fun _=>pts_nil) he hsw hs
end
theorem kept0{x:Option V}{r:St}:Kept (none::r) (x::r):=fun i v e=>by
 cases i with
 | zero=>cases e
 | succ i=>exact e
section
variable {K:PySem.W.Frag} {tail:St} {te:Blk→TE} {Q:VK} {H1:Hp}
noncomputable def CompNext(D:Addr)(n i:Nat)(ys:List V)(Pv:Nat→List V→Hp→Prop):VK:=fun y H4=>H4 D=some (.lst ys)∧ys.length < sizeLine∧∃m',m' < n - i∧(m'=n - (i+1)∧i+1≤n∧Pv (i+1) (ys++[y]) (upd H4 D (.lst (ys++[y]))))
theorem compNext{D:Addr}{n i:Nat}{ys:List V}{Pv:Nat→List V→Hp→Prop}{y:V}{H4:Hp}(h1:H4 D=some (.lst ys))(h2:ys.length < sizeLine)(h3:i < n)(h4:Pv (i+1) (ys++[y]) (upd H4 D (.lst (ys++[y])))):CompNext D n i ys Pv y H4:=
 ⟨h1,h2,n - (i+1),by omega,rfl,h3,h4⟩
theorem comp_by{J:It}(n:Nat)
 (h:∀(b:Blk) (D:Addr),H1 D=none→∃Pv:Nat→List V→Hp→Prop,Pv 0 [] (upd H1 D (.lst []))∧(∀i ys H,Pv i ys H→H D=some (.lst ys))∧(∀ys H,Pv n ys H→J.stop n H∧Q (.ref D) H)∧
  ∀i ys H,i < n→Pv i ys H→J.go i H∧∀x H3,J.yld i H x H3→te b (some x::tail) H3 (CompNext D n i ys Pv)):CompTail (none::tail) (fun _=>gName 0) (fun _=>tYes) te Q J H1:=by
 intro b D hD
 obtain ⟨Pv,p0,p1,p2,p3⟩:=h b D hD
 refine ⟨fun i m ys H=>m=n - i∧i≤n∧Pv i ys H,⟨n,rfl,Nat.zero_le _,p0⟩,?_⟩
 rintro i m ys H ⟨rfl,hi,p⟩
 refine ⟨p1 i ys H p,?_⟩
 by_cases hlt:i < n
 · obtain ⟨go,st⟩:=p3 i ys H hlt p
   refine .inr ⟨go,fun x H3 y=>⟨kept0,?_⟩⟩
   exact st x H3 y
 · have e:i=n:=by omega
   subst e
   exact .inl (p2 ys H p)
theorem same_new{D:Addr}{o:HO}(h:H1 D=none):Same H1 (upd H1 D o):=fun b u e=>by rw [upd_ne (ne_of_none e h)];exact e
theorem compS_pure{z:Str}(f:Nat→V)(hz:z.cps.size≤sizeLine)(he:∀b c H Q',c∈z.cps.toList→Same H1 H→Q' (f c) H→te b (some (.str ⟨#[c]⟩)::tail) H Q')
 (q:∀D,H1 D=none→Q (.ref D) (upd H1 D (.lst (z.cps.toList.map f)))):CompTail (none::tail) (fun _=>gName 0) (fun _=>tYes) te Q (Its z) H1:=by
 refine comp_by z.cps.size (fun b D hD=>⟨fun i ys H=>i≤z.cps.size∧ys=(z.cps.toList.take i).map f∧H=upd H1 D (.lst ys),⟨Nat.zero_le _,rfl,rfl⟩,?_,?_,?_⟩)
 · rintro i ys H ⟨hi,rfl,rfl⟩
   exact upd_same
 · rintro ys H ⟨_,rfl,rfl⟩
   refine ⟨Nat.le_refl _,?_⟩
   have e:z.cps.toList.take z.cps.size=z.cps.toList:=List.take_of_length_le (by simp)
   rw [e];exact q D hD
 · rintro i ys H hi ⟨_,rfl,rfl⟩
   refine ⟨hi,fun x H3 ⟨e3,c,hc,ex⟩=>?_⟩
   subst e3 ex
   have hc':z.cps.toList[i]?=some c:=by simpa using hc
   refine he b c _ _ (List.mem_of_getElem? hc') (same_new hD) (compNext upd_same (by rw [List.length_map,List.length_take,Array.length_toList];omega) hi ⟨hi,?_,?_⟩)
   · rw [List.take_add_one,hc'];simp
   · funext a;by_cases ha:a=D <;> simp [upd,ha]
theorem compL_pure{a:Addr}{xs:List V}(f:V→V)(hS:SqL K H1 a xs)(hz:xs.length≤sizeLine)(he:∀b x H Q',x∈xs→Same H1 H→Q' (f x) H→te b (some x::tail) H Q')
 (q:∀D,H1 D=none→Q (.ref D) (upd H1 D (.lst (xs.map f)))):CompTail (none::tail) (fun _=>gName 0) (fun _=>tYes) te Q (Itl K a) H1:=by
 refine comp_by xs.length (fun b D hD=>⟨fun i ys H=>i≤xs.length∧ys=(xs.take i).map f∧H=upd H1 D (.lst ys),⟨Nat.zero_le _,rfl,rfl⟩,?_,?_,?_⟩)
 · rintro i ys H ⟨hi,rfl,rfl⟩
   exact upd_same
 · rintro ys H ⟨_,rfl,rfl⟩
   refine ⟨⟨xs,(same_new hD).seq hS,Nat.le_refl _⟩,?_⟩
   rw [List.take_length];exact q D hD
 · rintro i ys H hi ⟨_,rfl,rfl⟩
   refine ⟨⟨xs,xs[i],(same_new hD).seq hS,by simp [hi]⟩,fun x H3 ⟨e3,ex⟩=>?_⟩
   subst e3
   have hc':=ex xs ((same_new hD).seq hS)
   refine he b x _ _ (List.mem_of_getElem? hc') (same_new hD) (compNext upd_same (by rw [List.length_map,List.length_take];omega) hi ⟨hi,?_,?_⟩)
   · rw [List.take_add_one,hc'];simp
   · funext a;by_cases ha:a=D <;> simp [upd,ha]
theorem compR_pure{lo:Int}{n:Nat}(f:Int→V)(hz:n≤sizeLine)(he:∀b (i:Nat) H Q',i < n→Same H1 H→Q' (f (lo+i)) H→te b (some (.int (lo+i))::tail) H Q')
 (q:∀D,H1 D=none→Q (.ref D) (upd H1 D (.lst ((List.range n).map fun (i:Nat)=>f (lo+(i:Int)))))):CompTail (none::tail) (fun _=>gName 0) (fun _=>tYes) te Q (Itr lo n) H1:=by
 refine comp_by n (fun b D hD=>⟨fun i ys H=>i≤n∧ys=(List.range i).map (fun (i:Nat)=>f (lo+(i:Int)))∧H=upd H1 D (.lst ys),⟨Nat.zero_le _,rfl,rfl⟩,?_,?_,?_⟩)
 · rintro i ys H ⟨hi,rfl,rfl⟩
   exact upd_same
 · rintro ys H ⟨_,rfl,rfl⟩
   exact ⟨Nat.le_refl _,q D hD⟩
 · rintro i ys H hi ⟨_,rfl,rfl⟩
   refine ⟨hi,fun x H3 ⟨e3,ex⟩=>?_⟩
   subst e3 ex
   refine he b i _ _ hi (same_new hD) (compNext upd_same (by rw [List.length_map,List.length_range];omega) hi ⟨hi,?_,?_⟩)
   · rw [List.range_succ];simp
   · funext a;by_cases ha:a=D <;> simp [upd,ha]
end
section
variable {σ:St} {H:Hp} {Q:VK} {D:Ends} {K:PySem.W.Frag}
theorem rd_comp{wi:TI}{fs:List Nat}{te:Blk→TE}:tComp1 wi fs te σ H Q=wi σ H (CompTail (none::fs.map fun j=>σ.getD j none) (fun _=>gName 0) (fun _=>tYes) te Q):=rfl
theorem rd_istr{tl:TE}{R:It→Hp→Prop}:iStr tl σ H R=tl σ H fun x H1=>∃z,x= .str z∧R (Its z) H1:=rfl
theorem rd_sl{r:V→Option Int→Option Int→Hp→VK→Prop}{te:TE}{tl th:TO}:tSl r te tl th σ H Q=te σ H fun x H1=>tl σ H1 fun l H2=>th σ H2 fun u H3=>r x l u H3 Q:=rfl
theorem rd_noPart{QO:Option Int→Hp→Prop}:tNoPart σ H QO=QO none H:=rfl
theorem rd_part{t:TE}{QO:Option Int→Hp→Prop}:tPart t σ H QO=t σ H fun x H1=>∃i,x= .int i∧QO (some i) H1:=rfl
theorem rd_slS{x:V}{lo hi:Option Int}:rSlS x lo hi H Q=∃z,x= .str z∧z.length≤sizeLine∧Q (.str (Txt.slice z lo hi)) H:=rfl
theorem rd_slL{x:V}{lo hi:Option Int}:rSlL K x lo hi H Q=∃a xs,x= .ref a∧SqL K H a xs∧∀p,H p=none→Q (.ref p) (upd H p (.lst (cutV xs lo hi))):=rfl
theorem rd_bm{T:String}{r:V→List V→Hp→VK→Prop}{to:TE}{t:TA}:tBM K T r to t σ H Q=to σ H fun x H1=>tyV K T x H1∧t σ H1 fun xs H2=>r x xs H2 Q:=rfl
theorem rd_bm0{T:String}{r:V→List V→Hp→VK→Prop}{to:TE}:tBM0 K T r to σ H Q=to σ H fun x H1=>tyV K T x H1∧r x [] H1 Q:=rfl
theorem tyV_str{z:Str}:tyV K "str" (.str z) H=True:=eq_true rfl
theorem rd_join{x:V}{vs:List V}:rJoin K x vs H Q=∃z p ys,x= .str z∧vs=[.ref p]∧SqL K H p (ys.map V.str)∧(ys.map (·.length)).sum+ys.length * z.length≤16777216∧Q (.str (Txt.join z ys)) H:=rfl
theorem rd_find{x:V}{vs:List V}:rFind x vs H Q=∃z y,x= .str z∧vs=[.str y]∧Q (.int (Txt.find z y)) H:=rfl
theorem rd_split{x:V}{vs:List V}:rSplit x vs H Q=∃z y,x= .str z∧vs=[.str y]∧(y.length==0)=false∧z.length+2≤sizeLine∧∀p,H p=none→Q (.ref p) (upd H p (.lst ((Txt.split z y).map V.str))):=rfl
theorem rd_all{xs:List V}:rAll K xs H Q=∃(p:Addr) (bs:List Bool),xs=[.ref p]∧SqL K H p (bs.map V.bl)∧Q (.bl (bs.all id)) H:=rfl
theorem rd_mulS{x y:V}:rMulS x y H Q=∃z n,x= .str z∧y= .int n∧MulOk z n∧Q (.str (Txt.mul z n)) H:=rfl
theorem rd_jnil{acc:Str}{QS:Str→Hp→Prop}:jNil acc σ H QS=QS acc H:=rfl
theorem rd_jcons{te:TE}{tr:TJ}{acc:Str}{QS:Str→Hp→Prop}:jCons te tr acc σ H QS=te σ H fun x H1=>∃y,x= .str y∧(acc++y).length≤sizeLine∧tr (acc++y) σ H1 QS:=rfl
theorem rd_fstr{t:TJ}:tFstr t σ H Q=t Str.empty σ H fun out H1=>out.length≤sizeLine∧Q (.str out) H1:=rfl
theorem rd_fmtR{te:TE}:tFmtR te σ H Q=te σ H fun x H1=>∃z,x= .str z∧(PySem.reprText z).length≤sizeLine∧Q (.str (PySem.reprText z)) H1:=rfl
theorem rd_fmt{te:TE}:tFmt te σ H Q=te σ H fun x H1=>(∃z,x= .str z∧z.length≤sizeLine∧Q (.str z) H1)∨∃i,x= .int i∧i.natAbs.log2 < 1920∧Q (.str (toString i)) H1:=rfl
theorem rd_dnewK:tDNewK σ H Q=∀p,H p=none→Q (.ref p) (upd H p (.dK [])):=rfl
theorem ixS_of{z:Str}{i:Int}{c:Nat}(hz:z.length≤sizeLine)(e:atI z.cps.toList i=some c)(q:Q (.str ⟨#[c]⟩) H):rIxS (.str z) (.int i) H Q:=⟨z,i,c,rfl,rfl,hz,e,q⟩
theorem blk_K{X:Cx}{scope:Scope}{N':List Str}{b:Blk}:(X.blk scope N' b).K=X.K:=rfl
end
section
variable {X:Cx} {x:Str} {pos:Pos}
theorem pe_gint{i:Int}(hg:Gl X x)(hm:∃t,X.mg x=some (.int i t))(hd:(x==("__debug__":Str))=false:=by decide):PE X (.Name x pos) (tC (.int i)):=by
 obtain ⟨t,hm⟩:=hm
 exact pe_glob hg hm ⟨t,rfl⟩ hd
theorem pe_gstr{z:Str}(hg:Gl X x)(hm:∃t,X.mg x=some (.str z t))(hd:(x==("__debug__":Str))=false:=by decide):PE X (.Name x pos) (tC (.str z)):=by
 obtain ⟨t,hm⟩:=hm
 exact pe_glob hg hm ⟨t,rfl⟩ hd
end
theorem TyOf.same{K:PySem.W.Frag}{H H':Hp}{x:V}{t:Value}(s:Same H H')(h:TyOf K H x t):TyOf K H' x t:=by
 cases h with
 | non=>exact .non
 | bl x=>exact .bl x
 | int i=>exact .int i
 | str x=>exact .str x
 | flt x=>exact .flt x
 | lst e=>exact .lst (s _ _ e)
 | frz e=>exact .frz (s _ _ e)
 | tup e=>exact .tup (s _ _ e)
 | dK e=>exact .dK (s _ _ e)
 | dT e=>exact .dT (s _ _ e)
 | ins e cl ha hn htk hm=>exact .ins (s _ _ e) cl ha hn htk hm
theorem Isi.same{K:PySem.W.Frag}{H H':Hp}{x:V}{n:String}{b:Bool}(s:Same H H')(h:Isi K H x n b):Isi K H' x n b:=let ⟨t,ty,e⟩:=h;⟨t,ty.same s,e⟩
theorem line_val:sizeLine=16777216:=by decide
theorem len_app{a b:Str}:(a++b).length=a.length+b.length:=strLen_append a b
theorem len_one{c:Nat}:(⟨#[c]⟩:Str).length=1:=rfl
theorem str_len{z:Str}:z.cps.toList.length=z.length:=by simp [Str.length]
theorem app_list{a b:Str}:(a++b).cps.toList=a.cps.toList++b.cps.toList:=by
 show (a.cps++b.cps).toList=_
 simp
theorem atI_in{α:Type}{xs:List α}{i:Int}(h0:0≤i)(h1:i < xs.length):∃v,atI xs i=some v∧v∈xs:=by
 refine ⟨xs[i.toNat],?_,List.getElem_mem (by omega)⟩
 exact atI_of h0 (by rw [List.getElem?_eq_getElem (by omega)])
theorem script_go{K:PySem.W.Frag}{H:Hp}{a:Addr}{ns:List Int}{R:List Int→Prop}(h:SqL K H a (ns.map V.int))(hl:ns.length≤63)(q:R ns):∃x:List Int,SqL K H a (x.map V.int)∧x.length≤63∧R x:=⟨ns,h,hl,q⟩
noncomputable def hasS(z y:Str):Bool:=!(Builtin.Str.occurrences z y 0 z.length 1).isEmpty
theorem hasS_one{z:Str}{c:Nat}:hasS z ⟨#[c]⟩=decide (c∈z.cps.toList):=StrLaws.found_one z c
noncomputable def rInS:R2:=fun x y H Q=>∃i j,x= .str i∧y= .str j∧Q (.bl (hasS j i)) H
noncomputable def rNotInS:R2:=fun x y H Q=>∃i j,x= .str i∧y= .str j∧Q (.bl (!hasS j i)) H
theorem op_inS{X:Cx}:OpR X (compareOp .In) rInS:=op_in_str
theorem rd_inS{x y:V}{H:Hp}{Q:VK}:rInS x y H Q=∃i j,x= .str i∧y= .str j∧Q (.bl (hasS j i)) H:=rfl
theorem rd_notinS{x y:V}{H:Hp}{Q:VK}:rNotInS x y H Q=∃i j,x= .str i∧y= .str j∧Q (.bl (!hasS j i)) H:=rfl
theorem at_0{α:Type}{c:α}{r:List α}:atI (c::r) 0=some c:=atI_of (by decide) rfl
end L2
namespace L2
noncomputable def flatEq(xs ys:List V):Bool:=match xs,ys with
 | [],[]=>true
 | x::xs,y::ys=>eqV x y && flatEq xs ys
 | _,_=>false
theorem flatEq_len:∀{xs ys:List V},xs.length≠ys.length→flatEq xs ys=false
 | [],[],h=>absurd rfl h
 | [],_::_,_=>rfl
 | _::_,[],_=>rfl
 | x::xs,y::ys,h=>by
  unfold flatEq
  rw [flatEq_len (fun e=>h (by simp [e])),Bool.and_false]
theorem flatEq_all:∀{xs ys:List V},xs.length=ys.length→flatEq xs ys=(List.range xs.length).all fun i=>eqV (xs.getD i .non) (ys.getD i .non)
 | [],[],_=>rfl
 | [],_::_,h=>by cases h
 | _::_,[],h=>by cases h
 | x::xs,y::ys,h=>by
  unfold flatEq
  rw [flatEq_all (by simpa using h),List.length_cons,List.range_succ_eq_map,List.all_cons,List.all_map]
  rfl
theorem eqV_str{x y:Str}:eqV (.str x) (.str y)=decide (x=y):=rfl
noncomputable def EqQ(K:PySem.W.Frag)(H:Hp)(x y:V)(r:Bool):Prop:=∃a b xs ys,x= .ref a∧y= .ref b∧((SqL K H a xs∧SqL K H b ys)∨(SqT K H a xs∧SqT K H b ys))∧xs.all flatV=true∧ys.all flatV=true∧r=flatEq xs ys
section
variable {X:Cx} {pins:List (Addr×Obj)} {σ:St} {H:Hp} {s:Shared}
theorem flat_items{xs ys:List V}{us ws:List Value}{A:Around}(rx:Vals xs us)(ry:Vals ys ws)(fx:xs.all flatV=true)(fy:ys.all flatV=true):
 ∀j (h1:j < us.toArray.size) (h2:j < ws.toArray.size),SeqAt.EqAt A s us.toArray[j] ws.toArray[j] (eqV (xs.getD j .non) (ys.getD j .non)):=by
 intro j h1 h2
 have lx:=rx.length
 have ly:=ry.length
 rw [List.size_toArray]at h1 h2
 have hx:j < xs.length:=by omega
 have hy:j < ys.length:=by omega
 obtain ⟨u,hu,ru⟩:=rx.get (i:=j) (x:=xs[j]) (by simp [hx])
 obtain ⟨w,hw,rw'⟩:=ry.get (i:=j) (x:=ys[j]) (by simp [hy])
 have eu:us.toArray[j]=u:=by
  have:=List.getElem?_eq_getElem h1
  rw [this]at hu
  simpa using hu
 have ew:ws.toArray[j]=w:=by
  have:=List.getElem?_eq_getElem h2
  rw [this]at hw
  simpa using hw
 rw [eu,ew,List.getD_eq_getElem?_getD,List.getD_eq_getElem?_getD,List.getElem?_eq_getElem hx,List.getElem?_eq_getElem hy]
 exact eqAt_V ru rw' (List.all_eq_true.mp fx _ (List.getElem_mem hx)) (List.all_eq_true.mp fy _ (List.getElem_mem hy))
theorem eqQ_ne{x y:V}{u v:Value}{r:Bool}{A:Around}(I:Inv X pins σ H s)(rx:RelV x u)(ry:RelV y v)(h:EqQ X.K H x y r)(hu:A.units < cLine):SeqAt.RcNeAt A s u v (!r):=by
 obtain ⟨a,b,xs,ys,rfl,rfl,hq,fx,fy,rfl⟩:=h
 cases rx
 cases ry
 rcases hq with ⟨h1,h2⟩ | ⟨h1,h2⟩
 · obtain ⟨us,r1,p1,z1⟩:=I.list h1
   obtain ⟨ws,r2,p2,z2⟩:=I.list h2
   have lx:=r1.length
   have ly:=r2.length
   by_cases hl:xs.length=ys.length
   · rw [flatEq_all hl]
     have:=SeqAt.RcNeAt.lists p1.isList p2.isList (by simp;omega) hu (flat_items r1 r2 fx fy)
     rw [List.size_toArray,← lx]at this
     exact this
   · rw [flatEq_len hl]
     exact SeqAt.RcNeAt.lists_lengths p1.isList p2.isList (by simp;omega) hu
 · obtain ⟨us,r1,p1,z1⟩:=I.tuple h1
   obtain ⟨ws,r2,p2,z2⟩:=I.tuple h2
   have lx:=r1.length
   have ly:=r2.length
   have:=SeqAt.RcNeAt.tuples (show s.heap.IsTuple a us.toArray from p1) (show s.heap.IsTuple b ws.toArray from p2) hu (flat_items r1 r2 fx fy)
   rw [List.size_toArray,List.size_toArray,← lx,← ly]at this
   by_cases hl:xs.length=ys.length
   · rw [flatEq_all hl]
     rw [hl,Nat.min_self,beq_self_eq_true,Bool.and_true]at this
     rw [hl];exact this
   · rw [flatEq_len hl]
     rw [beq_eq_false_iff_ne.mpr hl,Bool.and_false]at this
     exact this
noncomputable def rEqQ(K:PySem.W.Frag):R2:=fun x y H Q=>∃r,EqQ K H x y r∧Q (.bl r) H
noncomputable def rNeQ(K:PySem.W.Frag):R2:=fun x y H Q=>∃r,EqQ K H x y r∧Q (.bl (!r)) H
theorem op_neQ{k:Nat}(hr:Room k X.A):OpR X (compareOp .NotEq) (rNeQ X.K):=by
 intro pins s σ H x y v u Q I rx ry h
 obtain ⟨r,e,q⟩:=h
 exact eqQ_ne I rx ry e (Nat.lt_of_le_of_lt (by omega) hr.un) X.prog X.w X.xe _ ⟨.bl (!r),H,I,rfl,q⟩
end
section
variable {K:PySem.W.Frag} {H:Hp} {Q:VK} {x y:V}
theorem rd_eqQ:rEqQ K x y H Q=∃r,EqQ K H x y r∧Q (.bl r) H:=rfl
theorem rd_neQ:rNeQ K x y H Q=∃r,EqQ K H x y r∧Q (.bl (!r)) H:=rfl
theorem all_strs{xs:List Str}:(xs.map V.str).all flatV=true:=by
 rw [List.all_map]
 exact List.all_eq_true.mpr fun _ _=>rfl
end
end L2
namespace L2
structure TryB where
 pn:List (Addr×Obj)
 xe:Value→Shared→Prop
 EE:St→XK
noncomputable def tTryV(tb:TryB→TS)(th:TH):TS:=fun D σ H=>∀(pn:List (Addr×Obj)) (xe:Value→Shared→Prop),tb ⟨pn,xe,fun σ' cls ox H'=>∃x,ox=some x∧th cls x D σ' H'⟩ D σ H
noncomputable def hClsV(K:PySem.W.Frag)(c:Value)(ts:Addr→TS)(tr:TH):TH:=fun cls x D σ H=>∃b,PySem.W.exmOne K cls c=some b∧if b=true then ts x D σ H else tr cls x D σ H
noncomputable def hAsV(K:PySem.W.Frag)(c:Value)(i:Nat)(ts:Addr→TS)(tr:TH):TH:=fun cls x D σ H=>∃b,PySem.W.exmOne K cls c=some b∧if b=true then ts x (endsAs i D) (σ.set i (some (.ref x))) (upd H x (excO x cls)) else tr cls x D σ H
section
variable {σ:St} {H:Hp} {D:Ends} {K:PySem.W.Frag}
theorem rd_tryV{tb:TryB→TS}{th:TH}:tTryV tb th D σ H=∀(pn:List (Addr×Obj)) (xe:Value→Shared→Prop),tb ⟨pn,xe,fun σ' cls ox H'=>∃x,ox=some x∧th cls x D σ' H'⟩ D σ H:=rfl
theorem rd_hclsV{c cls:Value}{x:Addr}{ts:Addr→TS}{tr:TH}:hClsV K c ts tr cls x D σ H=∃b,PySem.W.exmOne K cls c=some b∧if b=true then ts x D σ H else tr cls x D σ H:=rfl
theorem rd_hasV{c cls:Value}{i:Nat}{x:Addr}{ts:Addr→TS}{tr:TH}:hAsV K c i ts tr cls x D σ H=∃b,PySem.W.exmOne K cls c=some b∧if b=true then ts x (endsAs i D) (σ.set i (some (.ref x))) (upd H x (excO x cls)) else tr cls x D σ H:=rfl
theorem tryX_K{X:Cx}{pn:List (Addr×Obj)}{xe:Value→Shared→Prop}:(X.tryX pn xe).K=X.K:=rfl
theorem sui_K{X:Cx}{x:Addr}:(X.sui x).K=X.K:=rfl
end
end L2
namespace L2
structure DefM(P:Program)(w:World)(K:PySem.W.Frag)(mg:Str→Option Value)(base:Heap)(CX:CXT)(k:Nat)(C:Addr)(m:Str)(ps:List Str)(sp:Sp):Prop where
 ex:∃(f:Addr) (fd:FuncData),FnOk P w K mg base CX k f fd ps sp∧Meth K C m f∧Binds K fd ps []
structure DefI(P:Program)(w:World)(K:PySem.W.Frag)(mg:Str→Option Value)(base:Heap)(CX:CXT)(k:Nat)(x:Str)(C:Addr)(ps:List Str)(sp:Sp):Prop where
 ex:∃(f:Addr) (fd:FuncData),FnOk P w K mg base CX k f fd ps sp∧Mk K C f∧mg x=some (.ref C)∧Binds K fd ps []
noncomputable def tMethE(C:Addr)(m:Str)(sp:Sp)(EE:St→XK)(ta:TE)(t:TA):TE:=fun σ H Q=>ta σ H fun x H1=>∃a dx fs,x= .ref a∧H1 a=some (.ins C dx fs)∧fs.lookup m=none∧t σ H1 fun vs H2=>sp (x::vs) H2 Q (EE σ)
noncomputable def tMakeE(C:Addr)(sp:Sp)(EE:St→XK)(t:TA):TE:=fun σ H Q=>t σ H fun vs H1=>∀x dx,H1 x=none→H1 dx=none→dx≠x→sp (.ref x::vs) (upd (upd H1 dx (.own x)) x (.ins C dx [])) (fun v H2=>v= .non∧Q (.ref x) H2) (EE σ)
section
variable {X:Cx} {CX:CXT} {k j:Nat} {f C:Addr} {fd:FuncData} {ps:List Str} {sp:Sp} {EE:St→XK} {E:XK} {x m:Str} {p pos apos:Pos} {e o:Expr} {es:List Expr} {ta:TE} {t:TA}
theorem passS(h:Passes CX X E):PassesS CX X fun _=>E:=fun pins σ H s e s' I hc=>h pins σ H s e s' I hc
theorem run_fnS{pins:List (Addr×Obj)}{σ:St}{H:Hp}{s:Shared}{Q:VK}{us:List Value}{vs:List V}(F:FnOk X.prog X.w X.K X.mg X.base CX k f fd ps sp)(hr:Room k X.A)(hb:Binds X.K fd ps [])(hx:PassesS CX X EE)
 (I:Inv X pins σ H s) (r:Vals vs us) (h:sp vs H Q (EE σ)):wpAny (model X.prog X.w) X.A (call (.ref f) us) (EP X pins σ Q) X.xe s:=by
 have hl:us.length=ps.length:=by rw [← r.length];exact F.len _ _ _ _ h
 have hb':=hb s us I.kIn (by simpa using hl)
 rw [List.append_nil]at hb'
 refine wpAny_call (codeAny_mono (F.run X.A X.stack s H ⟨us,[]⟩ us vs Q (EE σ) hr I.env0 hb' r h) fun r s' hq=>?_)
 cases r with
 | error e=>exact hx pins σ H s e s' I hq
 | ok fl=>
  cases fl with
  | ret u=>exact I.after hq
  | next=>exact False.elim hq
  | brk=>exact False.elim hq
  | cont=>exact False.elim hq
theorem pe_methS{pl:Sem Bool}(D:DefM X.prog X.w X.K X.mg X.base CX j C m ps sp)(c:Cls X.K C)(hr:Room k X.A)(hx:PassesS CX X EE)(he:PE X o ta)(ha:PA X (e::es) t)(hj:j≤k:=by decide)
 (hst:starEach (e::es) X.env=(false,eval e X.env)::starEach es X.env:=by rfl) (hpl:(backTo pos (starEach es X.env)).any (·.1)=false:=by rfl)
 (ht:eval (.Call (.Attribute o m apos) (e::es) [] pos) X.env=(do
  let ov ← eval o X.env
  standAt apos.atName
  let (f,first) ← holding [ov] (getMethod ov m pl)
  callWith pos f first (backTo pos (starEach (e::es) X.env)) (backToKw pos (keywordEach [] X.env))):=by rfl):
 PE X (.Call (.Attribute o m apos) (e::es) [] pos) (tMethE C m sp EE ta t):=by
 obtain ⟨f,fd,F,hm,hb⟩:=D.ex
 intro pins s σ H Q I h
 refine PySem.W.methodCall_KW (pl:=pl) (thn (he pins s σ H _ I h) fun u s1 hq_=>?_) ht
 obtain ⟨x,H1,I1,rx,a,dx,fs,ex,ea,l,q⟩:=hq_
 subst ex
 obtain rfl:u=Value.ref a:=rx
 refine getmeth_ok I1 ea c hm l ?_
 refine PySem.W.callWith_K (first:=[.ref a]) (h₀:=X.base) I.ok.mod.kin hm.kp (thn (ha pos pins s1 σ H1 _ I1 q) fun us s2 ⟨vs,H2,I2,r,q2⟩=>⟨I2.kIn,?_⟩) hst hpl
 exact run_fnS (us:= .ref a::us) (vs:= .ref a::vs) (F.mono hj) hr hb hx I2 (.cons rfl r) q2
theorem pe_methS0{pl:Sem Bool}(D:DefM X.prog X.w X.K X.mg X.base CX j C m ps sp)(c:Cls X.K C)(hr:Room k X.A)(hx:PassesS CX X EE)(he:PE X o ta)(hj:j≤k:=by decide)
 (ht:eval (.Call (.Attribute o m apos) [] [] pos) X.env=(do
  let ov ← eval o X.env
  standAt apos.atName
  let (f,first) ← holding [ov] (getMethod ov m pl)
  callWith pos f first (backTo pos (starEach [] X.env)) (backToKw pos (keywordEach [] X.env))):=by rfl):
 PE X (.Call (.Attribute o m apos) [] [] pos) (tMethE C m sp EE ta tNil):=by
 obtain ⟨f,fd,F,hm,hb⟩:=D.ex
 intro pins s σ H Q I h
 refine PySem.W.methodCall_KW (pl:=pl) (thn (he pins s σ H _ I h) fun u s1 hq_=>?_) ht
 obtain ⟨x,H1,I1,rx,a,dx,fs,ex,ea,l,q⟩:=hq_
 subst ex
 obtain rfl:u=Value.ref a:=rx
 refine getmeth_ok I1 ea c hm l ?_
 exact PySem.W.callWith_K0 (first:=[.ref a]) I1.kIn hm.kp (run_fnS (us:=[.ref a]) (vs:=[.ref a]) (F.mono hj) hr hb hx I1 (.cons rfl .nil) q)
theorem pe_makeS(D:DefI X.prog X.w X.K X.mg X.base CX j x C ps sp)(hr:Room k X.A)(hg:Gl X x)(hx:PassesS CX X EE)(ha:PA X (e::es) t)(hj:j+1≤k:=by decide)(hdb:(x==("__debug__":Str))=false:=by decide)
 (he:starEach (e::es) X.env=(false,eval e X.env)::starEach es X.env:=by rfl) (hpl:(backTo pos (starEach es X.env)).any (·.1)=false:=by rfl):
 PE X (.Call (.Name x p) (e::es) [] pos) (tMakeE C sp EE t):=by
 obtain ⟨f,fd,F,M,hm,hb⟩:=D.ex
 intro pins s0 σ H0 Q I0 h
 refine wpAny_Call_Name_kw (ld_glob I0 hg hm ?_ hdb)
 refine PySem.W.callWith_K (h₀:=X.base) I0.ok.mod.kin M.kp (thn (ha pos pins s0 σ H0 _ I0 h) fun us s ⟨vs,H,I,r,q⟩=>⟨I.kIn,?_⟩) he hpl
 have hq:=q (s.heap.objs.size+1) s.heap.objs.size (I.hok.fresh (Nat.le_succ _)) (I.hok.fresh (Nat.le_refl _)) (Nat.ne_of_lt (Nat.lt_succ_self _))
 have I2:=Inv.made (C:=C) I
 have r2:Vals (V.ref (s.heap.objs.size+1)::vs) (Value.ref (s.heap.objs.size+1)::us):= .cons rfl r
 have hl:(Value.ref (s.heap.objs.size+1)::us).length=ps.length:=by
  rw [← r2.length];exact F.len _ _ _ _ hq
 have hb':=fun s' (h':X.K.In s'.heap)=>hb s' (Value.ref (s.heap.objs.size+1)::us) h' (by simpa using hl)
 have hr':Room (j+1) X.A:=hr.mono hj
 refine wpAny_call (make_map (f:=f) I.kIn M.makes M.init (beq_iff_eq.mp M.fn) (codeAny_mono (F.run _ X.stack _ _ ⟨Value.ref (s.heap.objs.size+1)::us,[]⟩ (Value.ref (s.heap.objs.size+1)::us) _ _ (EE σ) (hr'.make C us [])
  (I2.env0.make C us []) (by have:=hb' _ I2.kIn;rw [List.append_nil]at this;exact this) r2 hq) fun r s' hq'=>?_))
 cases r with
 | error e=>exact hx pins σ _ _ e s' I2 hq'
 | ok fl=>
  cases fl with
  | ret u=>
   obtain ⟨v,H',I3,rv,ev,q3⟩:=I2.after hq'
   subst ev
   exact ⟨rv,⟨V.ref (s.heap.objs.size+1),H',I3,rfl,q3⟩⟩
  | next=>exact False.elim hq'
  | brk=>exact False.elim hq'
  | cont=>exact False.elim hq'
end
section
variable {σ:St} {H:Hp} {Q:VK} {D:Ends} {K:PySem.W.Frag}
theorem rd_methE{C:Addr}{m:Str}{sp:Sp}{EE:St→XK}{ta:TE}{t:TA}:tMethE C m sp EE ta t σ H Q=ta σ H fun x H1=>∃a dx fs,x= .ref a∧H1 a=some (.ins C dx fs)∧fs.lookup m=none∧t σ H1 fun vs H2=>sp (x::vs) H2 Q (EE σ):=rfl
theorem rd_makeE{C:Addr}{sp:Sp}{EE:St→XK}{t:TA}:tMakeE C sp EE t σ H Q=t σ H fun vs H1=>∀x dx,H1 x=none→H1 dx=none→dx≠x→sp (.ref x::vs) (upd (upd H1 dx (.own x)) x (.ins C dx [])) (fun v H2=>v= .non∧Q (.ref x) H2) (EE σ):=rfl
theorem rd_fld{ta:TE}{f:Str}:tFld K ta f σ H Q=ta σ H fun x H1=>∃a C dx fs v,x= .ref a∧H1 a=some (.ins C dx fs)∧Cls K C∧NoAttr K C f∧fs.lookup f=some v∧Q v H1:=rfl
theorem rd_sfld{ta tv:TE}{f:Str}:sFld K ta tv f D σ H=tv σ H fun y H1=>ta σ H1 fun x H2=>∃a C dx fs,x= .ref a∧H2 a=some (.ins C dx fs)∧Cls K C∧NoAttr K C f∧fs.length < 1000∧D.nx σ (upd H2 a (.ins C dx (putF f y fs))):=rfl
theorem rd_din{ty td:TE}:tDIn ty td σ H Q=ty σ H fun y H1=>td σ H1 fun x H2=>∃a o,x= .ref a∧DGet H2 a y o∧Q (.bl o.isSome) H2:=rfl
theorem rd_dnotin{ty td:TE}:tDNotIn ty td σ H Q=ty σ H fun y H1=>td σ H1 fun x H2=>∃a o,x= .ref a∧DGet H2 a y o∧Q (.bl (!o.isSome)) H2:=rfl
theorem rd_dget{td ty:TE}:tDGet td ty σ H Q=td σ H fun x H1=>ty σ H1 fun y H2=>∃a v,x= .ref a∧DGet H2 a y (some v)∧Q v H2:=rfl
theorem rd_dput{td ty tv:TE}:sDPut td ty tv D σ H=tv σ H fun v H1=>td σ H1 fun x H2=>ty σ H2 fun y H3=>∃a H4,x= .ref a∧DPut H3 a y v H4∧D.nx σ H4:=rfl
theorem rd_gtup{n:Nat}{t:TGs}{v:V}{N:St→Hp→Prop}:gTup K n t v σ H N=∃a xs,v= .ref a∧SqT K H a xs∧xs.length=n∧t xs σ H N:=rfl
end
theorem len_empty:Str.empty.length=0:=rfl
theorem le_app{a b:Str}{n:Nat}(h1:a.length≤n / 2)(h2:b.length≤n / 2):(a++b).length≤n:=by
 rw [len_app];omega
end L2
namespace L2
open Sem (wp)
section
variable {Pg:Program} {w:World} {A:Around} {E:Value→Shared→Prop} {h:Heap} {g:Array GenState} {d:Drawn} {t:Nat} {os:OsState}
variable {nm q:Str} {C N:Addr} {bs bm bmB:List Value} {hd:Bool} {sn:List Str} {su:List Value} {ab:Bool} {co:Option Bool} {dd:Option Addr} {k0 k1 k2 k3 k5:Option Value} {B nw ni:String}
noncomputable abbrev bareExc(h:Heap)(C:Addr):Obj:={cls:= .ref C,data:= .fields #[.ref h.objs.size,.none,.none,.none,.bool false,.none]}
noncomputable abbrev twoMore(h:Heap)(C:Addr)(rest:List Value):Heap:=(h.push {cls:= .type "tuple",data:= .seq rest.toArray}).push (bareExc h C)
theorem keep2{rest:List Value}:∀b o,h.get? b=some o→(twoMore h C rest).get? b=some o:=fun _ _ e=>Heap.get?_push_of_some _ (Heap.get?_push_of_some _ e)
theorem tcall_initT(F:ExcBaseFacts B nw ni bmB)(T:OwnTail h bmB bm){mN:Str→Option Value}{rest:List Value}{fI:Addr}{oI:Obj}{Q:Fin→Shared→Prop}
 (kC:h.get? C=some (excClassObj nm q C N bs bm hd sn su ab co dd k0 k1 k2 k3 k5 nw)) (hn:h.Ns N mN) (hi:mN "__init__"=some (.ref fI)) (hf:h.get? fI=some oI) (hfc:oI.cls= .type "function")
 (hq:∀h' e,Heap.MadeExcOf h h' e (.ref C) rest→wpAny (model Pg w) A (call (.ref fI) (.ref e::rest)) (fun r s'=>r= .none∧Q (.done (.ret (.ref e))) s') E ⟨h',g,d,t,os⟩) (hz:rest.length≤sizeLine):
 wpAny (model Pg w) A (Builtin.«type.__call__» ⟨.ref C::rest,[]⟩) Q E ⟨h,g,d,t,os⟩:=by
 repeat (first | with_reducible refine wpAny_loadPart_at kC ?_ | with_reducible refine wpAny_madeBy_exc kC ?_ | wp_step)
 refine codeAny_call_builtin_code (Code.quiet_builtin _ F.quiet) (wpAny_check_new_subT F T kC (codeAny_exc_new_subT F T kC ?_ hz))
 show wpAny _ _ _ _ _ _
 have c1:(twoMore h C rest).get? C=some (excClassObj nm q C N bs bm hd sn su ab co dd k0 k1 k2 k3 k5 nw):=keep2 _ _ kC
 have c2:(twoMore h C rest).get? fI=some oI:=keep2 _ _ hf
 have c3:(twoMore h C rest).Ns N mN:=by obtain ⟨o,es,ep,e,r⟩:=hn;exact ⟨o,es,ep,keep2 _ _ e,r⟩
 have c4:(twoMore h C rest).get? (h.objs.size+1)=some (bareExc h C):=by heap_get
 have c5:(Value.ref C::bm).contains (.ref C)=true:=by simp
 have T1:=T.keeps (keep2 (h:=h) (C:=C) (rest:=rest))
 unfold isInstance
 repeat (first | with_reducible refine wpAny_loadPart_at c4 ?_ | (with_reducible refine wpAny_isSubtype_exc c1 ?_;rw [c5]) | wp_step)
 show wpAny _ _ (typeLookup (.ref C) _) _ _ _;refine wpAny_typeLookup_tail c1 c3 T1 F.mroIs F.init.lookup ?_
 rw [hi]
 refine wpAny_holding (wpAny_bind ?_);unfold bindSpecial
 refine wpAny_bind (wpAny_typeOf (T:="function") ⟨_,c2,hfc⟩ ?_)
 rw [if_pos (by decide)]
 have made:Heap.MadeExcOf h (twoMore h C rest) (h.objs.size+1) (.ref C) rest:=⟨keep2,Heap.get?_none_of_le (Nat.le_succ _),h.objs.size,c4,Heap.get?_none_of_le (Nat.le_refl _),Heap.get?_push_of_some _ (Heap.get?_push_at rfl rfl)⟩
 refine wpAny_pure (wpAny_bind (wpAny_mono (hq _ _ made) (fun r s' hr=>?_) fun _ _ x=>x))
 obtain ⟨rfl,hQ⟩:=hr
 wp_walk
 exact hQ
theorem call_initT(F:ExcBaseFacts B nw ni bmB)(T:OwnTail h bmB bm){mN:Str→Option Value}{rest:List Value}{fI:Addr}{oI:Obj}{Q:Value→Shared→Prop}
 (kC:h.get? C=some (excClassObj nm q C N bs bm hd sn su ab co dd k0 k1 k2 k3 k5 nw)) (hn:h.Ns N mN) (hi:mN "__init__"=some (.ref fI)) (hf:h.get? fI=some oI) (hfc:oI.cls= .type "function")
 (hq:∀h' e,Heap.MadeExcOf h h' e (.ref C) rest→wpAny (model Pg w) (A.under (.builtin "type.__call__" ⟨.ref C::rest,[]⟩)) (call (.ref fI) (.ref e::rest)) (fun r s'=>r= .none∧Q (.ref e) s') E ⟨h',g,d,t,os⟩) (hz:rest.length≤sizeLine):
 wpAny (model Pg w) A (call (.ref C) rest) Q E ⟨h,g,d,t,os⟩:=by
 have f1:=tc_lookup
 have f2:=tc_bind (.ref C)
 have f3:(⟨h,g,d,t,os⟩:Shared).TypeIs (.ref C) "type":=⟨_,kC,rfl⟩
 refine wpAny_call (codeAny_of_tree ?_);show wpAny _ _ (callAny (.ref C) _) _ _ _
 repeat (any_goals (first | assumption | with_reducible refine wpAny_loadPart_at kC ?_ | wp_step))
 refine ⟨rfl,codeAny_call_builtin_at (Code.quiet_builtin _ (by decide+kernel)) entry_typeCall (wpAny_check_type_call_sub kC (tcall_initT F T kC hn hi hf hfc (fun h' e hm=>?_) hz))⟩
 exact hq h' e hm
end
section
open PySem.W PySem.Builtin PySem.Builtin.ObjectAttr
variable {Pg:Program} {w:World} {A:Around} {R:Result→Shared→Prop} {s:Shared} {K:Frag} {x C B:Addr} {ox:Obj} {od:Option Obj} {cd:ClassData} {f:Str} {tk:Tok} {v:Value}
noncomputable abbrev veTail:List Value:=[.type "ValueError",.type "Exception",.type "BaseException",.type "object"]
theorem osa_exc(X:K.In s.heap)(I:PySem.W.InstAt s.heap x ox C od)(hc:clsIn K C=some cd)(hm0:cd.mro= .ref C:: .ref B::veTail)(ha:findIn K (.ref C) f=some none)
 (h:∀b,wpAny (model Pg w) A.in1 (storeInOwnDict (.ref x) (.ref C) (.str f tk) f v b) (fun fin s'=>match fin with | .done r=>R (.ok r) s' | .again c'=>c'.quiet=true∧codeAny (model Pg w) A c' R s') (fun e s'=>R (.error e) s') s):
 codeAny (model Pg w) A (.call (.builtin "object.__setattr__") ⟨[.ref x,.str f tk,v],[]⟩) R s:=by
 have F1:=PySem.F.store_object
 have sub:Looks (model Pg w) s.heap (isInstance (.ref x) (.type "object")) true:=I.type.andThen (looks_mroIn X (by unfold mroIn;rw [hc,Option.bind_some,hm0];rfl))
 have lm:Looks (model Pg w) s.heap (mroOf (.ref C)) cd.mro:=(looks_clsIn X hc).andThen .now
 refine codeAny_call_builtin F1.slot.plain F1.entry (@check_slot (model Pg w) _ _ s "object.__setattr__" "object" "__setattr__" (.ref x) [.str f tk,v] [] _ F1.kind F1.split sub (F1.args _ _ _) ?_)
 rw [osa_eq,refuse_eq]
 refine wpAny_bind (wpAny_bind (I.type.here (wpAny_bind (lm.here ?_))))
 rw [hm0,refuseLoop_ref,refuseLoop_ref,PySem.F.store_ValueError.passes]
 exact wpAny_pure (wpAny_bind (I.type.here (wpAny_bind ((looks_findIn X ha).here (wpAny_bind (wpAny_pure (h _)))))))
theorem set_exc0{Q:Unit→Shared→Prop}{E:Value→Shared→Prop}{vs:Array Value}{sl:Array (Option Value)}(X:K.In s.heap)(hx:s.heap.get? x=some ⟨.ref C,none,.fields vs,sl⟩)(hs:findIn K (.ref C) "__setattr__"=some (some (.builtin "object.__setattr__")))
 (hc:clsIn K C=some cd) (hm0:cd.mro= .ref C:: .ref B::veTail) (hd:cd.hasDict=true) (ha:findIn K (.ref C) f=some none)
 (h:∀h',h'.get? x=some ⟨.ref C,some s.heap.objs.size,.fields vs,sl⟩→h'.Ns1 s.heap.objs.size (fun y=>if y=f then some v else none)→(∀b o,b≠x→s.heap.get? b=some o→h'.get? b=some o)→Q () {s with heap:=h',toks:=s.toks+2}):
 wpAny (model Pg w) A (setAttr (.ref x) f v) Q E s:=by
 have J:PySem.W.InstAt s.heap x ⟨.ref C,none,.fields vs,sl⟩ C none:=⟨hx,rfl,rfl,trivial⟩
 refine set_plain X J hs (osa_exc (s:={s with toks:=s.toks+1}) X J hc hm0 ha fun b=>?_)
 refine wpAny_bind (wpAny_pure (wpAny_bind (wpAny_bind (wpAny_loadPart hx (wpAny_bind (Looks.here (s:={s with toks:=s.toks+1}) (looks_clsIn X hc) ?_))))))
 rw [hd]
 have k1:(s.heap.push {cls:= .type "dict",data:= .dict #[]}).get? x=some ⟨.ref C,none,.fields vs,sl⟩:=Heap.get?_push_of_some _ hx
 have nx:x≠s.heap.objs.size:=Nat.ne_of_lt (Heap.lt_size hx)
 refine wpAny_bind (wpAny_alloc' (wpAny_bind (wpAny_update' k1 (wpAny_pure ?_))))
 have k2:((s.heap.push {cls:= .type "dict",data:= .dict #[]}).update x fun o=>{cls:=o.cls,dict:=some s.heap.objs.size,data:=o.data,slots:=o.slots}).get? s.heap.objs.size=some {cls:= .type "dict",data:= .dict #[]}:=
  (Heap.get?_update_ne _ _ _ _ nx.symm).trans (Heap.get?_push_at rfl rfl)
 have k3:((s.heap.push {cls:= .type "dict",data:= .dict #[]}).update x fun o=>{cls:=o.cls,dict:=some s.heap.objs.size,data:=o.data,slots:=o.slots}).Ns s.heap.objs.size (fun _=>none):=
  ⟨_,#[],_,k2,rfl,fun e he=>absurd he (by simp),fun _=>rfl⟩
 show wpAny _ _ (storeInDict s.heap.objs.size (.str f s.toks) f v) _ _ _
 unfold storeInDict newKeyGuard;refine wpAny_bind (wpAny_pure (wpAny_bind (wpAny_nsSet1 (Heap.Ns1.of_empty k3) fun h' hn2 sb=>?_)))
 obtain ⟨oD,esD,epD,uo,ud,uc⟩:=hn2.count (Within.cons f v Within.nil)
 refine wpAny_bind (wpAny_lookBehind uo (by rw [ud];exact pastItsLine_dict (Nat.le_trans uc (by rw [List.length_cons,List.length_nil,sizeLine_eq];omega))) ?_)
 refine wpAny_pure (h h' ?_ ?_ fun b o nb e=>?_)
 · refine (sb.2 x nx).trans (Heap.get?_update_self _ k1 rfl)
 · obtain ⟨o',es,ep,e1,e2,e3,eu,e4⟩:=hn2
   exact ⟨o',es,ep,e1,e2,e3,eu,fun y=>by rw [e4 y]⟩
 · exact (sb.2 b (Nat.ne_of_lt (Heap.lt_size e))).trans ((Heap.get?_update_ne _ _ _ _ nb).trans (Heap.get?_push_of_some _ e))
theorem set_exc1{Q:Unit→Shared→Prop}{E:Value→Shared→Prop}{vs:Array Value}{sl:Array (Option Value)}{dx:Addr}{mA:Str→Option Value}{ns:List Str}(X:K.In s.heap)(hx:s.heap.get? x=some ⟨.ref C,some dx,.fields vs,sl⟩)(hn:s.heap.Ns1 dx mA)(hw:Within mA ns)(hz:ns.length≤sizeLine)
 (hs:findIn K (.ref C) "__setattr__"=some (some (.builtin "object.__setattr__"))) (hc:clsIn K C=some cd) (hm0:cd.mro= .ref C:: .ref B::veTail) (hd:cd.hasDict=true) (ha:findIn K (.ref C) f=some none)
 (h:∀h',h'.Ns1 dx (fun y=>if y=f then some v else mA y)→(∀b,b≠dx→h'.get? b=s.heap.get? b)→Q () {s with heap:=h',toks:=s.toks+2}):
 wpAny (model Pg w) A (setAttr (.ref x) f v) Q E s:=by
 obtain ⟨oo,es,ep,e1,e2⟩:=id hn
 have J:PySem.W.InstAt s.heap x ⟨.ref C,some dx,.fields vs,sl⟩ C (some oo):=⟨hx,rfl,rfl,e1⟩
 refine set_plain X J hs (osa_exc (s:={s with toks:=s.toks+1}) X J hc hm0 ha fun b=>?_)
 refine wpAny_bind (wpAny_pure (wpAny_bind (wpAny_bind (wpAny_loadPart hx (wpAny_bind (Looks.here (s:={s with toks:=s.toks+1}) (looks_clsIn X hc) ?_))))))
 rw [hd]
 refine wpAny_pure (a:=some dx) ?_;show wpAny _ _ (storeInDict dx (.str f s.toks) f v) _ _ _
 unfold storeInDict newKeyGuard;refine wpAny_bind (wpAny_pure (wpAny_bind (wpAny_nsSet1 (s:={s with toks:=s.toks+1}) hn fun h' hn2 sb=>?_)))
 obtain ⟨oD,esD,epD,uo,ud,uc⟩:=hn2.count (Within.cons f v hw)
 refine wpAny_bind (wpAny_lookBehind uo (by rw [ud];exact pastItsLine_dict (Nat.le_trans uc (by rw [List.length_cons];omega))) ?_)
 exact wpAny_pure (h h' hn2 fun b nb=>sb.2 b nb)
theorem get_exc{Q:Value→Shared→Prop}{E:Value→Shared→Prop}{ex:Bool}(X:K.In s.heap)(J:PySem.W.InstAt s.heap x ox C od)(hg:findIn K (.ref C) "__getattribute__"=some (some (.builtin "BaseException.__getattribute__")))
 (hn:findIn K (.ref C) "__getattr__"=some none) (hc:clsIn K C=some cd) (hm0:cd.mro= .ref C:: .ref B::veTail) (hf:findObj K C od f=some (.value v)) (hh:handedIn v=true) (h:Q v {s with toks:=s.toks+1}):
 wpAny (model Pg w) A (getAttr (.ref x) f ex) Q E s:=by
 obtain ⟨hp,g,d,t,os⟩:=s
 have l0:=J.type (M:=model Pg w)
 have l1:=looks_findIn (M:=model Pg w) X hg
 have l2:=looks_findIn (M:=model Pg w) X hn
 have l3:=looks_find (M:=model Pg w) X J hf
 unfold getAttr getAttrBy
 refine wpAny_bind (wpAny_mkText (wpAny_holding (wpAny_bind (l0.at (wpAny_bind (l1.at ?_))))))
 have b1:=PySem.F.excAttr_ValueError.ga.bind (.ref x)
 have b2:(ex && onTheHeap (Value.builtin "BaseException.__getattribute__"))=false:=by cases ex <;> rfl
 have b3:(Value.builtin "BaseException.__getattribute__"==Value.builtin "object.__getattribute__")=false:=by decide+kernel
 have b4:(onTheHeap (Value.ref C) && Value.builtin "BaseException.__getattribute__"==Value.builtin "object.__getattribute__")=false:=by rw [b3];rfl
 have sub:Looks (model Pg w) hp (isInstance (.ref x) (.type "BaseException")) true:=J.type.andThen (looks_mroIn X (by unfold mroIn;rw [hc,Option.bind_some,hm0];rfl))
 show wpAny _ _ (if (onTheHeap (Value.ref C) && Value.builtin "BaseException.__getattribute__"==Value.builtin "object.__getattribute__")=true then _ else _) _ _ _
 rw [if_neg (by rw [b4];decide)]
 unfold getAttrByItsOwn hookBefore
 rw [if_pos (show onTheHeap (Value.ref C)=true from rfl)]
 refine wpAny_bind (l2.at ?_)
 (repeat (any_goals (first | assumption | wp_step)));refine codeAny_call_builtin PySem.F.excAttr_ValueError.ga.plain PySem.F.entry_bexc_ga (@check_slot (model Pg w) _ _ _ "BaseException.__getattribute__" "BaseException" "__getattribute__" (.ref x) [.str f t] [] _ (by decide+kernel) (by decide+kernel) sub (PySem.F.args_bexc_ga _ _) ?_)
 unfold Builtin.«object.__getattribute__»;repeat (any_goals (first | assumption | with_reducible refine l0.at ?_ | with_reducible refine l3.at ?_ | wp_step))
 show wpAny _ _ (handedOut v) _ _ _;rw [handedOut_of hh]
 exact wpAny_pure h
end
noncomputable def exO(n:Bool)(x C:Addr)(od:Option Addr):HO:= .ext fun h=>∃vs sl,h.get? x=some ⟨.ref C,od,.fields vs,sl⟩∧(n=true→∃t,vs=#[.ref t,.none,.none,.none,.bool false,.none])
noncomputable def exD(dx:Addr)(fs:List (Str×V)):HO:= .ext fun h=>fs.length≤1000∧∃mA,h.Ns1 dx mA∧(∀f,RelO (fs.lookup f) (mA f))∧PySem.Within mA (fs.map (·.1))
section
variable {X:Cx} {pins:List (Addr×Obj)} {σ:St} {H:Hp} {x:Addr} {s:Shared} {h':Heap} {o:HO} {t':Nat}
theorem Inv.born(I:Inv X pins σ H s)(hex:X.ex=[])(k:∀b u,s.heap.get? b=some u→h'.get? b=some u)(hn:s.heap.get? x=none)(new:ObjOk X.prog X.w (upd H x o) h' x o):Inv X pins σ (upd H x o) {s with heap:=h',toks:=t'}:=by
 have J:Inv X pins σ H {s with heap:=h',toks:=t'}:=I.kept k
 have hx:H x=none:=by
  cases q:H x with
  | none=>rfl
  | some v=>obtain ⟨o1,e1⟩:=I.hok.there q;rw [hn]at e1;cases e1
 have n0:X.s₀.heap.get? x=none:=by
  cases q:X.s₀.heap.get? x with
  | none=>rfl
  | some v=>obtain ⟨o1,e1⟩:=I.base.there x v q (by rw [hex];simp);rw [hn]at e1;cases e1
 have nl:x≠X.env.locals:=by
  rintro rfl
  obtain ⟨m,⟨o1,es,ep,e,_⟩,_⟩:=I.loc
  rw [hn]at e;cases e
 have nc:∀y c,X.env.cells.lookup y=some c→c≠x:=by
  rintro y c hc rfl
  obtain ⟨v,o1,e,_⟩:=I.cell y c hc
  rw [hn]at e;cases e
 have np:∀p∈X.pn++pins,p.1≠x:=fun p hp z=>by
  have e:=(I.pin p hp).1
  rw [z,hn]at e;cases e
 refine ⟨J.ok,J.os,J.bare,⟨J.base.keep,J.base.slot,fun b o e n hb=>?_,J.base.there,fun b xs e=>?_,fun b o v e=>?_,fun b ps e=>?_⟩,J.loc,J.cell,?_,fun y c hc=>?_,fun p hp=>?_,fun b u e=>?_,J.len⟩
 · rw [upd_ne (by rintro rfl;rw [n0]at e;cases e)];exact J.base.free b o e n hb
 · have e1:=J.base.tups b xs e;rw [upd_ne (ne_of_none e1 hx)];exact e1
 · have e1:=J.base.frzs b o v e;rw [upd_ne (ne_of_none e1 hx)];exact e1
 · obtain ⟨m,e1⟩:=J.base.tbls b ps e;exact ⟨m,by rw [upd_ne (ne_of_none e1 hx)];exact e1⟩
 · rw [upd_ne nl.symm];exact J.free
 · rw [upd_ne (nc y c hc)];exact J.freeC y c hc
 · obtain ⟨a1,a2,a3,a4,a5⟩:=J.pin p hp
   exact ⟨a1,by rw [upd_ne (np p hp)];exact a2,a3,a4,a5⟩
 · by_cases hb:b=x
   · subst hb
     rw [upd_same]at e;cases e
     exact new
   · rw [upd_ne hb]at e
     exact (J.hok b u e).stay (fun _ _ _ q=>q) (fun c q=>by rw [upd_ne (ne_of_none q hx)];exact q) fun c xs q=>by rw [upd_ne (ne_of_none q hx)];exact q
theorem exO_ok{P:Program}{w:World}{n:Bool}{C:Addr}{od:Option Addr}{vs:Array Value}{sl:Array (Option Value)}(e:h'.get? x=some ⟨.ref C,od,.fields vs,sl⟩)(hv:n=true→∃t,vs=#[.ref t,.none,.none,.none,.bool false,.none]):ObjOk P w H h' x (exO n x C od):=
 ⟨⟨vs,sl,e,hv⟩,⟨_,e⟩,fun _ _ ⟨v1,s1,e1,q1⟩ k=>⟨v1,s1,k _ e1,q1⟩⟩
end
noncomputable def tExc(C:Addr)(t:TA):TE:=fun σ H Q=>t σ H fun vs H1=>vs.length≤sizeLine∧∀x,H1 x=none→Q (.ref x) (upd H1 x (exO true x C none))
section
variable {X:Cx} {C:Addr} {x:Str} {p pos:Pos} {e:Expr} {es:List Expr} {t:TA}
theorem pe_exc(M:ExcC X.K C)(hex:X.ex=[])(kp:PySem.W.keepIn X.K (.ref C)=true)(hg:Gl X x)(hm:X.mg x=some (.ref C))(ha:PA X (e::es) t)(hdb:(x==("__debug__":Str))=false:=by decide)
 (he:starEach (e::es) X.env=(false,eval e X.env)::starEach es X.env:=by rfl) (hpl:(backTo pos (starEach es X.env)).any (·.1)=false:=by rfl):
 PE X (.Call (.Name x p) (e::es) [] pos) (tExc C t):=by
 intro pins s0 σ H0 Q I0 h
 refine wpAny_Call_Name_kw (ld_glob I0 hg hm ?_ hdb)
 refine PySem.W.callWith_K (h₀:=X.base) I0.ok.mod.kin kp (thn (ha pos pins s0 σ H0 _ I0 h) fun us s ⟨vs,H,I,r,z,q⟩=>⟨I.kIn,?_⟩) he hpl
 obtain ⟨nm,qn,N,bs,bm,hd,sn,su,ab,co,dd,k0,k1,k2,k3,k5,mN,c1,c2,c3,c4⟩:=M.at_ s.heap I.kIn
 obtain ⟨hp,gn,dr,tk,os⟩:=s
 refine wpAny_call_exc_subT PySem.F.excBase_ValueError c4 c1 c2 c3 (fun h' y hy=>?_) (by show us.length≤sizeLine;rw [← r.length];exact z)
 obtain ⟨t0,e1,_,_⟩:=hy.there
 have nv:true=true→∃t,(#[.ref t0,.none,.none,.none,.bool false,.none]:Array Value)=#[.ref t,.none,.none,.none,.bool false,.none]:=fun _=>⟨t0,rfl⟩
 have hy0:H y=none:=by
  cases w':H y with
  | none=>rfl
  | some v=>obtain ⟨o1,e2⟩:=I.hok.there w';rw [hy.new]at e2;cases e2
 exact ⟨.ref y,_,I.born hex hy.keeps hy.new (exO_ok e1 nv),rfl,q y hy0⟩
end
structure ExcG(K:PySem.W.Frag)(C:Addr):Prop where
 ga:PySem.W.findIn K (.ref C) "__getattribute__"=some (some (.builtin "BaseException.__getattribute__"))
 gh:PySem.W.findIn K (.ref C) "__getattr__"=some none
structure ExcQ(K:PySem.W.Frag)(C B:Addr):Prop extends ExcG K C where
 cd:∃cd:ClassData,PySem.W.clsIn K C=some cd∧cd.mro= .ref C:: .ref B::veTail∧cd.hasDict=true
 sa:PySem.W.findIn K (.ref C) "__setattr__"=some (some (.builtin "object.__setattr__"))
section
variable {X:Cx} {pins:List (Addr×Obj)} {σ:St} {H:Hp} {s:Shared} {nw:Bool} {a dx C B:Addr} {fs:List (Str×V)} {f:Str} {v:V} {A:Around} {E:Value→Shared→Prop}
theorem ExcQ.hd{K:PySem.W.Frag}(q:ExcQ K C B):PySem.W.hasDictIn K C=true:=by
 obtain ⟨cd,c1,_,c3⟩:=q.cd
 unfold PySem.W.hasDictIn
 rw [c1];exact c3
theorem getx_ok{ex:Bool}{Q:Value→Shared→Prop}(I:Inv X pins σ H s)(q:ExcQ X.K C B)(hx:H a=some (exO nw a C (some dx)))(hd:H dx=some (exD dx fs))(n:PySem.W.findIn X.K (.ref C) f=some none)(l:fs.lookup f=some v)
 (h:∀u s',Inv X pins σ H s'→RelV v u→Q u s'):wpAny (model X.prog X.w) A (getAttr (.ref a) f ex) Q E s:=by
 obtain ⟨vs,sl,e1,nv⟩:=(I.hok a _ hx).1
 obtain ⟨_,mA,hn,r,wi⟩:=(I.hok dx _ hd).1
 obtain ⟨od,ho,hlk⟩:=lookIn_ns hn
 obtain ⟨u,hu,ru⟩:=RelO.some_of (v:=v) (o:=mA f) (by rw [← l];exact r f)
 obtain ⟨cd,c1,c2,c3⟩:=q.cd
 exact get_exc I.kIn ⟨e1,rfl,rfl,ho⟩ q.ga q.gh c1 c2 (PySem.W.findObj_own q.hd n rfl (by rw [hlk,hu])) (handed_of ru) (h u _ (I.tok _) ru)
end
section
variable {X:Cx} {pins:List (Addr×Obj)} {σ:St} {H H1:Hp} {s s1:Shared} {x:Addr} {o:HO}
theorem Inv.track(I:Inv X pins σ H1 s1)(hex:X.ex=[])(hn:s1.heap.get? x=none)(J:Inv X pins σ H s)(hx:H x=none)(new:ObjOk X.prog X.w (upd H x o) s.heap x o):Inv X pins σ (upd H x o) s:=by
 have n0:X.s₀.heap.get? x=none:=by
  cases q:X.s₀.heap.get? x with
  | none=>rfl
  | some v=>obtain ⟨o1,e1⟩:=I.base.there x v q (by rw [hex];simp);rw [hn]at e1;cases e1
 have nl:x≠X.env.locals:=by
  rintro rfl
  obtain ⟨m,⟨o1,es,ep,e,_⟩,_⟩:=I.loc
  rw [hn]at e;cases e
 have nc:∀y c,X.env.cells.lookup y=some c→c≠x:=by
  rintro y c hc rfl
  obtain ⟨v,o1,e,_⟩:=I.cell y c hc
  rw [hn]at e;cases e
 have np:∀p∈X.pn++pins,p.1≠x:=fun p hp z=>by
  have e:=(I.pin p hp).1
  rw [z,hn]at e;cases e
 refine ⟨J.ok,J.os,J.bare,⟨J.base.keep,J.base.slot,fun b o e n hb=>?_,J.base.there,fun b xs e=>?_,fun b o v e=>?_,fun b ps e=>?_⟩,J.loc,J.cell,?_,fun y c hc=>?_,fun p hp=>?_,fun b u e=>?_,J.len⟩
 · rw [upd_ne (by rintro rfl;rw [n0]at e;cases e)];exact J.base.free b o e n hb
 · have e1:=J.base.tups b xs e;rw [upd_ne (ne_of_none e1 hx)];exact e1
 · have e1:=J.base.frzs b o v e;rw [upd_ne (ne_of_none e1 hx)];exact e1
 · obtain ⟨m,e1⟩:=J.base.tbls b ps e;exact ⟨m,by rw [upd_ne (ne_of_none e1 hx)];exact e1⟩
 · rw [upd_ne nl.symm];exact J.free
 · rw [upd_ne (nc y c hc)];exact J.freeC y c hc
 · obtain ⟨a1,a2,a3,a4,a5⟩:=J.pin p hp
   exact ⟨a1,by rw [upd_ne (np p hp)];exact a2,a3,a4,a5⟩
 · by_cases hb:b=x
   · subst hb
     rw [upd_same]at e;cases e
     exact new
   · rw [upd_ne hb]at e
     exact (J.hok b u e).stay (fun _ _ _ q=>q) (fun c q=>by rw [upd_ne (ne_of_none q hx)];exact q) fun c xs q=>by rw [upd_ne (ne_of_none q hx)];exact q
theorem put_names{fs:List (Str×V)}{mA:Str→Option Value}{f:Str}{y:V}{u:Value}(r:∀g,RelO (fs.lookup g) (mA g))(wi:PySem.Within mA (fs.map (·.1)))(ry:RelV y u):
 (∀g,RelO ((putF f y fs).lookup g) (if g=f then some u else mA g))∧PySem.Within (fun g=>if g=f then some u else mA g) ((putF f y fs).map (·.1)):=by
 refine ⟨fun g=>?_,fun g hg=>?_⟩
 · rw [lookup_putF]
   by_cases e:g=f
   · rw [if_pos e,if_pos e];exact ry
   · rw [if_neg e,if_neg e];exact r g
 · by_cases e:g=f
   · subst e;exact (keys_putF g y fs).1
   · exact (keys_putF f y fs).2 g (wi g fun z=>hg (by show (if g=f then some u else mA g)=none;rw [if_neg e,z]))
theorem exD_ok{P:Program}{w:World}{h':Heap}{dx:Addr}{fs:List (Str×V)}{mA:Str→Option Value}(hl:fs.length≤1000)(hn:h'.Ns1 dx mA)(r:∀g,RelO (fs.lookup g) (mA g))(wi:PySem.Within mA (fs.map (·.1))):ObjOk P w H h' dx (exD dx fs):=by
 refine ⟨⟨hl,mA,hn,r,wi⟩,?_,fun h1 h2 ⟨b1,mB,b2,b3,b4⟩ k=>?_⟩
 · obtain ⟨o1,es,ep,e2,_⟩:=id hn;exact ⟨o1,e2⟩
 · obtain ⟨o1,es,ep,e2,e3⟩:=id b2
   exact ⟨b1,mB,⟨o1,es,ep,k _ e2,e3⟩,b3,b4⟩
theorem setx_ok0{nw:Bool}{a C B:Addr}{f:Str}{y:V}{u:Value}{A:Around}{E:Value→Shared→Prop}{Q:Unit→Shared→Prop}(I:Inv X pins σ H s)(hex:X.ex=[])(q:ExcQ X.K C B)(hx:H a=some (exO nw a C none))(n:PySem.W.findIn X.K (.ref C) f=some none)(ry:RelV y u)
 (h:∀dx s',H dx=none→Inv X pins σ (upd (upd H a (exO nw a C (some dx))) dx (exD dx (putF f y []))) s'→Q () s'):wpAny (model X.prog X.w) A (setAttr (.ref a) f u) Q E s:=by
 obtain ⟨vs,sl,e1,nv⟩:=(I.hok a _ hx).1
 obtain ⟨cd,c1,c2,c3⟩:=q.cd
 refine set_exc0 I.kIn e1 q.sa c1 c2 c3 n fun h' k1 k2 k3=>?_
 have hd0:H s.heap.objs.size=none:=I.hok.fresh (Nat.le_refl _)
 have nda:s.heap.objs.size≠a:=fun e=>by rw [e,hx]at hd0;cases hd0
 have J:Inv X pins σ (upd H a (exO nw a C (some s.heap.objs.size))) {s with heap:=h',toks:=s.toks+2}:=
  I.write (x:=a) (e:=a) (by rw [hx];exact True.intro) (.inl rfl) k3 ⟨_,k1⟩ (exO_ok k1 nv)
 refine h _ _ hd0 (Inv.track I hex (Heap.get?_none_of_le (Nat.le_refl _)) J (by rw [upd_ne nda];exact hd0) ?_)
 have pn:=put_names (fs:=[]) (mA:=fun _=>none) (f:=f) (fun _=>trivial) (fun g hg=>absurd rfl hg) ry
 exact exD_ok (by simp [putF]) k2 pn.1 pn.2
theorem setx_ok1{nw:Bool}{a dx C B:Addr}{fs:List (Str×V)}{f:Str}{y:V}{u:Value}{A:Around}{E:Value→Shared→Prop}{Q:Unit→Shared→Prop}(I:Inv X pins σ H s)(q:ExcQ X.K C B)(hx:H a=some (exO nw a C (some dx)))(hd:H dx=some (exD dx fs))(hl:fs.length < 1000)(n:PySem.W.findIn X.K (.ref C) f=some none)(ry:RelV y u)
 (h:∀s',Inv X pins σ (upd H dx (exD dx (putF f y fs))) s'→Q () s'):wpAny (model X.prog X.w) A (setAttr (.ref a) f u) Q E s:=by
 obtain ⟨vs,sl,e1,nv⟩:=(I.hok a _ hx).1
 obtain ⟨_,mA,hn,r,wi⟩:=(I.hok dx _ hd).1
 obtain ⟨cd,c1,c2,c3⟩:=q.cd
 refine set_exc1 I.kIn e1 hn wi (by rw [List.length_map,sizeLine_eq];omega) q.sa c1 c2 c3 n fun h' k1 k2=>h _ ?_
 have pn:=put_names (f:=f) r wi ry
 have:=length_putF f y fs
 obtain ⟨o1,es,ep,e2,_⟩:=id k1
 exact I.write (x:=dx) (e:=dx) (by rw [hd];exact True.intro) (.inl rfl) (fun b v nb z=>(k2 b nb).trans z) ⟨_,e2⟩ (exD_ok (by omega) k1 pn.1 pn.2)
end
noncomputable def tFldX(K:PySem.W.Frag)(ta:TE)(f:Str):TE:=fun σ H Q=>ta σ H fun x H1=>∃nw a C B dx fs v,x= .ref a∧H1 a=some (exO nw a C (some dx))∧H1 dx=some (exD dx fs)∧ExcQ K C B∧PySem.W.findIn K (.ref C) f=some none∧fs.lookup f=some v∧Q v H1
noncomputable def sFldX(K:PySem.W.Frag)(ta tv:TE)(f:Str):TS:=fun D σ H=>tv σ H fun y H1=>ta σ H1 fun x H2=>∃nw a C B,x= .ref a∧ExcQ K C B∧PySem.W.findIn K (.ref C) f=some none∧
 ((H2 a=some (exO nw a C none)∧∀dx,H2 dx=none→D.nx σ (upd (upd H2 a (exO nw a C (some dx))) dx (exD dx (putF f y []))))∨
  ∃dx fs,H2 a=some (exO nw a C (some dx))∧H2 dx=some (exD dx fs)∧fs.length < 1000∧D.nx σ (upd H2 dx (exD dx (putF f y fs))))
noncomputable def tMethX(C:Addr)(m:Str)(sp:Sp)(EE:St→XK)(ta:TE):TE:=fun σ H Q=>ta σ H fun x H1=>∃nw a,x= .ref a∧(H1 a=some (exO nw a C none)∨∃dx fs,H1 a=some (exO nw a C (some dx))∧H1 dx=some (exD dx fs)∧fs.lookup m=none)∧sp [x] H1 Q (EE σ)
section
variable {X:Cx} {CX:CXT} {k j:Nat} {C B:Addr} {ps:List Str} {sp:Sp} {EE:St→XK} {f m:Str} {pos pos' apos:Pos} {e o value:Expr} {ta tv:TE}
theorem pe_fldX(he:PE X e ta)(hb:attributeBase e f X.env (eval e X.env)=eval e X.env):PE X (.Attribute e f pos) (tFldX X.K ta f):=by
 intro pins s σ H Q I h
 refine attr_of hb (thn (he pins s σ H _ I h) fun u s1 hq_=>?_)
 obtain ⟨x,H1,I1,rx,nw,a,C,B,dx,fs,v,ex,ea,ed,q,n,l,z⟩:=hq_
 subst ex
 cases (show u=Value.ref a from rx)
 exact getx_ok I1 q ea ed n l fun u' s2 I2 ru=>⟨v,H1,I2,ru,z⟩
theorem ps_fldX(hex:X.ex=[])(ha:PE X o ta)(hv:PE X value tv)(hs:swapsWith value (some (.Attribute o f pos')) pos.line X.env=pure false):PS X (.Assign [.Attribute o f pos'] value pos) (sFldX X.K ta tv f):=by
 intro pins s σ H D I h
 refine plainObj_wpAny_Assign_Attribute (thn (hv pins s σ H _ I h) fun u s1 ⟨y,H1,I1,ry,q⟩=>thn (ha pins s1 σ H1 _ I1 q) fun ov s2 hq_=>?_) hs
 obtain ⟨x,H2,I2,rx,nw,a,C,B,ex,c,n,z⟩:=hq_
 subst ex
 cases (show ov=Value.ref a from rx)
 rcases z with ⟨ea,z⟩ | ⟨dx,fs,ea,ed,l,z⟩
 · exact setx_ok0 I2 hex c ea n ry fun dx s3 hd I3=>⟨σ,_,I3,z dx hd⟩
 · exact setx_ok1 I2 c ea ed l n ry fun s3 I3=>⟨σ,_,I3,z⟩
end
structure MkX(K:PySem.W.Frag)(C f:Addr):Prop where
 at_:∀h:Heap,K.In h→∃(nm q:Str) (N:Addr) (bs bm:List Value) (hd:Bool) (sn:List Str) (su:List Value) (ab:Bool) (co:Option Bool) (dd:Option Addr) (k0 k1 k2 k3 k5:Option Value) (mN:Str→Option Value),
  h.get? C=some (excClassObj nm q C N bs bm hd sn su ab co dd k0 k1 k2 k3 k5 "ValueError.__new__")∧h.Ns N mN∧mN "__init__"=some (.ref f)∧OwnTail h veTail bm
 fn:∃oI:Obj,K.lookup f=some oI∧oI.cls= .type "function"
 kp:PySem.W.keepIn K (.ref C)=true
structure DefX(P:Program)(w:World)(K:PySem.W.Frag)(mg:Str→Option Value)(base:Heap)(CX:CXT)(k:Nat)(x:Str)(C:Addr)(ps:List Str)(sp:Sp):Prop where
 ex:∃(f:Addr) (fd:FuncData),FnOk P w K mg base CX k f fd ps sp∧MkX K C f∧mg x=some (.ref C)∧Binds K fd ps []
noncomputable def tExcI(C:Addr)(sp:Sp)(EE:St→XK)(t:TA):TE:=fun σ H Q=>t σ H fun vs H1=>vs.length≤sizeLine∧∀x,H1 x=none→sp (.ref x::vs) (upd H1 x (exO true x C none)) (fun v H2=>v= .non∧Q (.ref x) H2) (EE σ)
section
variable {X:Cx} {CX:CXT} {k j:Nat} {C:Addr} {ps:List Str} {sp:Sp} {EE:St→XK} {x:Str} {p pos:Pos} {e:Expr} {es:List Expr} {t:TA}
theorem pe_excI(D:DefX X.prog X.w X.K X.mg X.base CX j x C ps sp)(hex:X.ex=[])(hr:Room k X.A)(hg:Gl X x)(hx:PassesS CX X EE)(ha:PA X (e::es) t)(hj:j+1≤k:=by decide)(hdb:(x==("__debug__":Str))=false:=by decide)
 (he:starEach (e::es) X.env=(false,eval e X.env)::starEach es X.env:=by rfl) (hpl:(backTo pos (starEach es X.env)).any (·.1)=false:=by rfl):
 PE X (.Call (.Name x p) (e::es) [] pos) (tExcI C sp EE t):=by
 obtain ⟨f,fd,F,M,hm,hb⟩:=D.ex
 intro pins s0 σ H0 Q I0 h
 refine wpAny_Call_Name_kw (ld_glob I0 hg hm ?_ hdb)
 refine PySem.W.callWith_K (h₀:=X.base) I0.ok.mod.kin M.kp (thn (ha pos pins s0 σ H0 _ I0 h) fun us s ⟨vs,H,I,r,z,q⟩=>⟨I.kIn,?_⟩) he hpl
 obtain ⟨nm,qn,N,bs,bm,hd,sn,su,ab,co,dd,k0,k1,k2,k3,k5,mN,c1,c2,c3,c4⟩:=M.at_ s.heap I.kIn
 obtain ⟨oI,f1,f2⟩:=M.fn
 have f3:=I.kIn _ _ f1
 obtain ⟨hp,gn,dr,tk,os⟩:=s
 refine call_initT PySem.F.excBase_ValueError c4 c1 c2 c3 f3 f2 (fun h' y hy=>?_) (by show us.length≤sizeLine;rw [← r.length];exact z)
 obtain ⟨t0,e1,_,_⟩:=hy.there
 have nv:true=true→∃t,(#[.ref t0,.none,.none,.none,.bool false,.none]:Array Value)=#[.ref t,.none,.none,.none,.bool false,.none]:=fun _=>⟨t0,rfl⟩
 have hy0:H y=none:=by
  cases w':H y with
  | none=>rfl
  | some v=>obtain ⟨o1,e2⟩:=I.hok.there w';rw [hy.new]at e2;cases e2
 have hq:=q y hy0
 have I2:Inv X pins σ (upd H y (exO true y C none)) ⟨h',gn,dr,tk,os⟩:=I.born hex hy.keeps hy.new (exO_ok e1 nv)
 have r2:Vals (V.ref y::vs) (Value.ref y::us):= .cons rfl r
 have hl:(Value.ref y::us).length=ps.length:=by rw [← r2.length];exact F.len _ _ _ _ hq
 have hb':=hb ⟨h',gn,dr,tk,os⟩ (Value.ref y::us) I2.kIn (by simpa using hl)
 rw [List.append_nil]at hb'
 have hr':Room (j+1) X.A:=hr.mono hj
 refine wpAny_call (codeAny_mono (F.run _ X.stack _ _ ⟨Value.ref y::us,[]⟩ (Value.ref y::us) _ _ (EE σ) (hr'.make C us []) (I2.env0.make C us []) hb' r2 hq) fun r3 s' hq'=>?_)
 cases r3 with
 | error e=>exact hx pins σ _ _ e s' I2 hq'
 | ok fl=>
  cases fl with
  | ret u=>
   obtain ⟨v,H',I3,rv,ev,q3⟩:=I2.after hq'
   subst ev
   exact ⟨rv,⟨V.ref y,H',I3,rfl,q3⟩⟩
  | next=>exact False.elim hq'
  | brk=>exact False.elim hq'
  | cont=>exact False.elim hq'
end
end L2
namespace L2
open Sem (wp)
noncomputable def Lies(h:Heap)(x C:Addr)(od:Option Addr):Prop:=∃vs sl,h.get? x=some ⟨.ref C,od,.fields vs,sl⟩
section
variable {M:Model} {A:Around} {E:Value→Shared→Prop} {s:Shared} {base:Heap} {env:Env} {outer l:List Env} {L x C:Addr} {od:Option Addr} {vs:Array Value} {sl:Array (Option Value)} {a0 fl:Value} {Q:Unit→Shared→Prop}
theorem entry2{g1:Heap}{oT:Obj}{ts:Array Value}(tT:oT.data= .fields ts)(t3:ts[3]?=some fl)(ff:s.heap.FunFrames base l)(ex:s.heap.get? x=some ⟨.ref C,od,.fields vs,sl⟩)
 (s1:Heap.SlotsOnly (l.filterMap (·.frame)) s.heap g1) (y1:g1.get? x=some ⟨.ref C,od,.fields vs,sl⟩) (b1:base.StaysIn g1) (bx:base.get? x=none) (z1:1 < vs.size) (z0:vs[0]?=some a0)
 (q:∀h',Heap.NotedW base l x (.ref C) a0 fl s.heap h'→Lies h' x C od→Q () {s with heap:=h'}):
 wpAny M A (setField (.ref x) 1 (.ref g1.objs.size)) Q E {s with heap:=g1.push oT}:=by
 have y2:=Heap.get?_push_of_some oT y1
 have nT:g1.objs.size≠x:=Nat.ne_of_gt (Heap.lt_size y1)
 have y3:((g1.push oT).update x (Obj.mapFields (·.setIfInBounds 1 (.ref g1.objs.size)))).get? x=some ⟨.ref C,od,.fields (vs.setIfInBounds 1 (.ref g1.objs.size)),sl⟩:=Heap.get?_update_self _ y2 rfl
 have kp:∀b o,b≠x→g1.get? b=some o→((g1.push oT).update x (Obj.mapFields (·.setIfInBounds 1 (.ref g1.objs.size)))).get? b=some o:=fun b o nb e=>(Heap.get?_update_other _ _ (Ne.symm nb)).trans (Heap.get?_push_of_some _ e)
 have nr:∀b o,s.heap.get? b=some o→(∀us,o.data≠ .fields us)→b≠x:=fun b o e n z=>by rw [z,ex]at e;cases e;exact n vs rfl
 refine wpAny_setField y2 rfl z1 (q _ ⟨fun b o e=>kp b o (fun z=>by rw [z,bx]at e;cases e) (b1 b o e),ff.of_keeps fun b o e n=>?_,?_,fun b o e n=>?_⟩ ⟨_,_,y3⟩)
 · obtain ⟨r,e1⟩:=s1.2.2 b o e;exact ⟨_,kp b _ (nr b o e n) e1,rfl⟩
 · exact ⟨_,_,g1.objs.size,oT,ts,y3,⟨rfl,by rw [Array.getElem?_setIfInBounds_ne (by decide)];exact z0⟩,rfl,by simp [z1],b1.fresh,nT,(Heap.get?_update_other _ _ (Ne.symm nT)).trans (Heap.get?_push_size g1 (Obj.isFreed_of_fields tT)),tT,t3⟩
 · obtain ⟨r,e1⟩:=s1.2.2 b o e;exact ⟨r,kp b _ (nr b o e n) e1⟩
theorem entryD{hv:Value}{nx:Bool}(fr:A.frames=some (env::outer))(ff:s.heap.FunFrames base (env::outer))(el:env.frame=some L)
 (ex:s.heap.get? x=some ⟨.ref C,od,.fields vs,sl⟩) (bs:base.StaysIn s.heap) (bx:base.get? x=none) (z1:1 < vs.size) (z0:vs[0]?=some a0)
 (q:∀h',Heap.NotedW base (env::outer) x (.ref C) a0 (rawInt L) s.heap h'→Lies h' x C od→Q () {s with heap:=h'}):
 wpAny M A (do let a ← frameOf env;let pl ← entryPlaceOf L nx;let b ← EntryCells.newEntry hv a .none (rawInt L) .none pl;setField (.ref x) 1 b) Q E s:=by
 have nf:x∉(env::outer).filterMap (·.frame):=fun hm=>by
  obtain ⟨_,o1,e1,n1⟩:=ff.mem hm
  rw [ex]at e1;cases e1;exact n1 vs rfl
 refine wpAny_bind (wpAny_frameOf_fun fr ff el fun g1 s1=>wpAny_bind (wpAny_entryPlaceOf fun pl ip=>?_))
 unfold EntryCells.newEntry newFields
 refine wpAny_bind (wpAny_newObj_type ?_ (ip.sizeOk5 _ _ _ _ _))
 have y1:=(s1.2.1 x nf).trans ex
 have b1:base.StaysIn g1:=fun b o e=>(s1.2.1 b fun hm=>by rw [(ff.mem hm).1]at e;cases e).trans (bs b o e)
 refine entry2 (s:=s) (fl:=rawInt L) rfl ?_ ff ex s1 y1 b1 bx z1 z0 q
 first | (simp;done) | (rcases ip with rfl | ⟨_,_,_,_,_,_,_,rfl⟩ <;> simp)
theorem landD(bs:base.StaysIn s.heap)(ff:s.heap.FunFrames base l)(tr:s.heap.TracedAtW base x (.ref C) a0 fl)(ly:Lies s.heap x C od)
 (q:∀h',base.StaysIn h'→h'.FunFrames base l→h'.TracedW base x (.ref C) a0→s.heap.UpToSlots h'→Lies h' x C od→Q () {s with heap:=h'}):wpAny M A (setFlight (.ref x) none) Q E s:=by
 obtain ⟨oe,ws,T,oT,ts,e1,c1,d1,d2,n1,n2,e3,d3,t3⟩:=tr
 obtain ⟨v2,s2,l1⟩:=ly
 have z3:3 < ts.size:=(Array.getElem?_eq_some_iff.mp t3).1
 unfold setFlight
 refine wpAny_bind (wpAny_field e1 d1 d2 ?_)
 rw [if_pos (show (Value.ref T !=Value.none)=true from by simp)]
 have oth:∀b,b≠T→(s.heap.update T (Obj.mapFields (·.setIfInBounds 3 ((none:Option Addr).elim Value.none fun f=>rawInt f)))).get? b=s.heap.get? b:=fun b nb=>Heap.get?_update_other _ _ (Ne.symm nb)
 have nr:∀b o,s.heap.get? b=some o→(∀us,o.data≠ .fields us)→b≠T:=fun b o e n z=>by rw [z,e3]at e;cases e;exact n ts d3
 refine wpAny_setField e3 d3 z3 (q _ (fun b o e=>(oth b fun z=>by rw [z,n1]at e;cases e).trans (bs b o e)) (ff.of_keeps fun b o e n=>⟨o,(oth b (nr b o e n)).trans e,rfl⟩) ?_ (fun b o e n=>⟨o.slots,(oth b (nr b o e n)).trans e⟩) ⟨v2,s2,(oth x (Ne.symm n2)).trans l1⟩)
 exact ⟨oe,ws,T,_,_,(oth x (Ne.symm n2)).trans e1,c1,d1,d2,n1,n2,Heap.get?_update_self _ e3 (Obj.isFreed_of_fields (Obj.data_mapFields d3 _)),Obj.data_mapFields d3 _,by simp [z3]⟩
theorem noteD(fr:A.frames=some (env::outer))(ff:s.heap.FunFrames base (env::outer))(el:env.frame=some L)(tr:s.heap.TracedW base x (.ref C) a0)(bs:base.StaysIn s.heap)(bx:base.get? x=none)(ly:Lies s.heap x C od)
 (q:∀h',Heap.NotedW base (env::outer) x (.ref C) a0 (rawInt L) s.heap h'→Lies h' x C od→Q () {s with heap:=h'}):wpAny M A (noteFrame (.ref x) env) Q E s:=by
 obtain ⟨oe,ws,T,oT,ts,e1,⟨c1,c2⟩,d1,d2,n1,n2,e3,d3,t3⟩:=tr
 obtain ⟨v2,s2,l1⟩:=ly
 rw [l1]at e1;cases e1;cases d1
 unfold noteFrame
 simp only [el]
 refine wpAny_bind (wpAny_field l1 rfl d2 ?_)
 rw [if_pos (show (Value.ref T !=Value.none)=true from by simp)]
 refine wpAny_bind (wpAny_field e3 d3 t3 ?_)
 rw [if_neg (show ¬((Value.none==rawInt L)=true) from by simp [rawInt])]
 refine wpAny_bind (wpAny_setField e3 d3 (Array.getElem?_eq_some_iff.mp t3).1 ?_)
 have oth:∀b,b≠T→(s.heap.update T (Obj.mapFields (·.setIfInBounds 3 Value.none))).get? b=s.heap.get? b:=fun b nb=>Heap.get?_update_other _ _ (Ne.symm nb)
 have nr:∀b o,s.heap.get? b=some o→(∀us,o.data≠ .fields us)→b≠T:=fun b o e n z=>by rw [z,e3]at e;cases e;exact n ts d3
 refine entryD fr (ff.of_keeps fun b o e n=>⟨o,(oth b (nr b o e n)).trans e,rfl⟩) el ((oth x (Ne.symm n2)).trans l1) (fun b o e=>(oth b fun z=>by rw [z,n1]at e;cases e).trans (bs b o e)) bx (Array.getElem?_eq_some_iff.mp d2).1 c2 fun h' N ly'=>q h' ⟨N.1,N.2.1,N.2.2.1,fun b o e n=>N.2.2.2 b o ((oth b (nr b o e n)).trans e) n⟩ ly'
noncomputable def FlyD(base:Heap)(l:List Env)(x C:Addr)(od:Option Addr)(a0:Value)(h:Heap):Prop:=Heap.FlyingW base l x (.ref C) a0 h∧Lies h x C od
theorem leavesD(fr:A.frames=some (env::outer))(el:env.frame=some L)(f:FlyD base (env::outer) x C od a0 s.heap)(q:∀h',FlyD base outer x C od a0 h'→s.heap.UpToSlots h'→Q () {s with heap:=h'}):wpAny M A (leaving env (.ref x)) Q E s:=by
 obtain ⟨⟨f1,f2,f3,f4⟩,ly⟩:=f
 unfold leaving
 refine wpAny_bind (noteD fr f3 el f4 f1 f2 ly fun h1 N l1=>landD (s:={s with heap:=h1}) N.1 N.2.1 N.2.2.1 l1 fun h2 b2 g2 t2 u2 l2=>?_)
 obtain ⟨_,_,g3⟩:=g2
 exact q h2 ⟨⟨b2,f2,g3,t2⟩,l2⟩ (Heap.UpToSlots.trans N.2.2.2 u2)
theorem leavesD1{t:Addr}(fr:A.frames=some (env::outer))(el:env.frame=some L)(bs:base.StaysIn s.heap)(ff:s.heap.FunFrames base (env::outer))(bx:base.get? x=none)(ex:s.heap.get? x=some ⟨.ref C,od,.fields #[.ref t,.none,.none,.none,.bool false,.none],sl⟩)
 (q:∀h',FlyD base outer x C od (.ref t) h'→s.heap.UpToSlots h'→Q () {s with heap:=h'}):wpAny M A (leaving env (.ref x)) Q E s:=by
 unfold leaving noteFrame
 simp only [el]
 refine wpAny_bind (wpAny_bind (wpAny_field ex rfl (x:= .none) rfl ?_))
 rw [if_neg (by decide)]
 refine entryD fr ff el ex bs bx (by simp) rfl fun h1 N l1=>landD (s:={s with heap:=h1}) N.1 N.2.1 N.2.2.1 l1 fun h2 b2 g2 t2 u2 l2=>?_
 obtain ⟨_,_,g3⟩:=g2
 exact q h2 ⟨⟨b2,bx,g3,t2⟩,l2⟩ (Heap.UpToSlots.trans N.2.2.2 u2)
end
noncomputable def CXF(P:Program)(w:World):CXT:=fun outer H s E e s'=>∃(x C:Addr) (od:Option Addr) (a0:Value) (H':Hp) (B:Heap),e= .ref x∧s'.os=s.os∧AllBare s'.gens∧Un (frs outer) [] H H' s.heap s'.heap∧HOk P w H' s'.heap∧
 FlyD B outer x C od a0 s'.heap∧Spares (frs outer) H' s.heap s'.heap B∧H' x=none∧s.heap.get? x=none∧E (.ref C) (some x) (upd H' x (exO false x C od))
noncomputable def rem(H:Hp)(x:Addr):Hp:=fun b=>if b=x then none else H b
theorem rem_ne{H:Hp}{x b:Addr}(n:b≠x):rem H x b=H b:=if_neg n
theorem rem_same{H:Hp}{x:Addr}:rem H x x=none:=if_pos rfl
theorem upd_rem{H:Hp}{x:Addr}{o:HO}:upd (rem H x) x o=upd H x o:=by
 funext b
 by_cases h:b=x
 · subst h;rw [upd_same,upd_same]
 · rw [upd_ne h,upd_ne h,rem_ne h]
section
variable {X:Cx} {pins:List (Addr×Obj)} {σ:St} {H2:Hp} {s2:Shared} {h3:Heap} {n:Bool} {x C:Addr} {od:Option Addr}
theorem leaveX(I:Inv X pins σ H2 s2)(hex:X.ex=[])(hx:H2 x=some (exO n x C od))(x0:X.s₀.heap.get? x=none)(st:(PySem.W.hideAll s2.heap (x::frs X.stack)).StaysIn h3)(up:s2.heap.UpToSlots h3):
 Un X.fs [] X.H₀ (rem H2 x) X.s₀.heap h3∧HOk X.prog X.w (rem H2 x) h3∧Spares X.fs (rem H2 x) X.s₀.heap h3 (PySem.W.hideAll s2.heap (x::frs X.stack)):=by
 have bs:=I.base
 rw [hex]at bs
 have nl:∀b o,X.s₀.heap.get? b=some o→b≠X.env.locals:=fun b o e=>Nat.ne_of_lt (Nat.lt_of_lt_of_le (Heap.lt_size e) I.ok.above)
 have ns:∀b o,X.s₀.heap.get? b=some o→b∉X.fs→b∉frs X.stack:=fun b o e n hb=>(List.mem_cons.mp (I.stkSub b hb)).elim (nl b o e) n
 have nx:∀b o,X.s₀.heap.get? b=some o→b≠x:=fun b o e z=>by rw [z,x0]at e;cases e
 have sub:∀b∈X.fs,b∈frs X.stack:=fun b hb=>by
  rcases I.ok.stk with e | ⟨e,hf⟩
  · rw [e];exact hb
  · rw [e];unfold frs;rw [List.filterMap_cons,hf];exact List.mem_cons_of_mem _ hb
 have hid:∀b o,s2.heap.get? b=some o→b≠x→b∉frs X.stack→(PySem.W.hideAll s2.heap (x::frs X.stack)).get? b=some o:=fun b o e n1 n2=>PySem.W.hideAll_get _ e (fun z=>(List.mem_cons.mp z).elim n1 n2)
 have kp:∀b o,s2.heap.get? b=some o→b≠x→b∉frs X.stack→h3.get? b=some o:=fun b o e n1 n2=>st b o (hid b o e n1 n2)
 have tr:∀b o,H2 b=some o→b∉frs X.stack:=fun b o e hb=>by rw [I.stkFree b hb]at e;cases e
 have sl:∀b o,X.s₀.heap.get? b=some o→X.H₀ b=none→b∈X.fs→b∉([]:List Addr)→∃r,h3.get? b=some {o with slots:=r}:=fun b o e n hb hx=>by
  obtain ⟨r1,e1⟩:=bs.slot b o e n hb hx
  obtain ⟨o',e',d⟩:=I.frm b (sub b hb)
  rw [e1]at e';cases e'
  obtain ⟨r2,e2⟩:=up b _ e1 d
  exact ⟨r2,e2⟩
 have th:∀b o,X.s₀.heap.get? b=some o→∃o',s2.heap.get? b=some o':=fun b o e=>bs.there b o e (by simp)
 refine ⟨⟨fun b o e n hb hx=>kp b o (bs.keep b o e n hb hx) (nx b o e) (ns b o e hb),sl,fun b o e n hx=>?_,fun b o e hx=>?_,fun b xs e=>?_,fun b o v e=>?_,fun b ps e=>?_⟩,fun a o e=>?_,fun b o e hb c=>?_⟩
 · rw [rem_ne (nx b o e)];exact bs.free b o e n hx
 · obtain ⟨o',e1⟩:=th b o e
   by_cases hb:b∈frs X.stack
   · obtain ⟨o2,e2,d⟩:=I.frm b hb
     rw [e1]at e2;cases e2
     obtain ⟨r2,e3⟩:=up b _ e1 d
     exact ⟨_,e3⟩
   · exact ⟨o',kp b o' e1 (nx b o e) hb⟩
 · have e1:=bs.tups b xs e
   rw [rem_ne (fun z=>by rw [z,hx]at e1;cases e1)];exact e1
 · have e1:=bs.frzs b o v e
   rw [rem_ne (fun z=>by rw [z,hx]at e1;cases e1)];exact e1
 · obtain ⟨m1,e1⟩:=bs.tbls b ps e
   exact ⟨m1,by rw [rem_ne (fun z=>by rw [z,hx]at e1;cases e1)];exact e1⟩
 · have na:a≠x:=fun z=>by rw [z,rem_same]at e;cases e
   rw [rem_ne na]at e
   refine (I.hok a o e).stay (fun b v hc q=>?_) (fun b q=>?_) fun b xs q=>?_
   · rcases hc with rfl | hc
     · exact kp _ _ q na (tr _ _ e)
     · exact kp _ _ q (fun z=>by rw [z,hx]at hc;cases hc) (tr _ _ hc)
   · rw [rem_ne (fun z=>by rw [z,hx]at q;cases q)];exact q
   · rw [rem_ne (fun z=>by rw [z,hx]at q;cases q)];exact q
 · have w:∃o1,s2.heap.get? b=some o1∧b≠x∧b∉frs X.stack:=by
    rcases c with c | ⟨u0,e0⟩
    · cases q:rem H2 x b with
      | none=>exact absurd q c
      | some v=>
       have nb:b≠x:=fun z=>by rw [z,rem_same]at q;cases q
       rw [rem_ne nb]at q
       obtain ⟨o1,e1⟩:=I.hok.there q
       exact ⟨o1,e1,nb,tr _ _ q⟩
    · obtain ⟨o1,e1⟩:=th b u0 e0
      exact ⟨o1,e1,nx b u0 e0,ns b u0 e0 hb⟩
   obtain ⟨o1,e1,n1,n2⟩:=w
   have e2:=kp b o1 e1 n1 n2
   rw [e]at e2;cases e2
   exact hid b o e1 n1 n2
end
section
variable {P:Program} {w:World} {K:PySem.W.Frag} {mg:Str→Option Value} {base:Heap} {N:List Str} {qual:Str} {scope:Scope} {f:Addr} {cd:Value} {A:Around} {outer:List Env} {s:Shared} {H:Hp} {E:XK}
theorem raise_outF{pins:List (Addr×Obj)}{σ:St}{H2:Hp}{s2:Shared}{x C:Addr}{od:Option Addr}(I:Inv (cxOf (CXF P w) P w K mg base N qual scope f cd A outer s H E) pins σ H2 s2)
 (hx:H2 x=some (exO true x C od)) (h0:H x=none) (q:E (.ref C) (some x) (upd H2 x (exO false x C od))):(cxOf (CXF P w) P w K mg base N qual scope f cd A outer s H E).xe (.ref x) s2:=by
 have x0:s.heap.get? x=none:=by
  cases z:s.heap.get? x with
  | none=>rfl
  | some v=>
   have e:=I.base.free x v z h0 (by intro c;exact absurd (show x∈([]:List Addr) from c) (by simp))
   rw [hx]at e;cases e
 obtain ⟨vs,sl,e1,nv⟩:=(I.hok x _ hx).1
 obtain ⟨t,rfl⟩:=nv rfl
 have hin:∀env∈(cxOf (CXF P w) P w K mg base N qual scope f cd A outer s H E).stack,∀a,env.frame=some a→a∈x::frs (cxOf (CXF P w) P w K mg base N qual scope f cd A outer s H E).stack:=fun env he a ha=>List.mem_cons_of_mem _ (List.mem_filterMap.mpr ⟨env,he,ha⟩)
 refine leavesD1 (base:=PySem.W.hideAll s2.heap (x::frs (cxOf (CXF P w) P w K mg base N qual scope f cd A outer s H E).stack)) I.ok.frames rfl (fun b o e=>PySem.W.of_hideAll _ e) (PySem.W.funFrames_hide I.stack hin) (PySem.W.hideAll_none _ (List.mem_cons_self ..)) e1 fun h3 fl up=>?_
 obtain ⟨U,ok3,hB3⟩:=leaveX I rfl hx x0 fl.1.1 up
 exact ⟨x,C,od,.ref t,rem H2 x,_,rfl,I.os,I.bare,U,ok3,fl,hB3,rem_same,x0,by rw [upd_rem];exact q⟩
theorem pass_onF:Passes (CXF P w) (cxOf (CXF P w) P w K mg base N qual scope f cd A outer s H E) E:=by
 intro pins σ H1 s1 e s2 I h
 obtain ⟨x,C,od,a0,H2,B,rfl,os,bare,u,ok,fl,hB,hx,hnew,q⟩:=h
 refine leavesD (base:=B) I.ok.frames rfl fl fun h3 fl3 up=>?_
 obtain ⟨U,ok3,hB3⟩:=leave_of I rfl u ok hB fl3.1.1 up
 refine ⟨x,C,od,a0,H2,B,rfl,os.trans I.os,bare,U,ok3,fl3,hB3,hx,?_,q⟩
 cases z:s.heap.get? x with
 | none=>rfl
 | some v=>
  obtain ⟨o1,e1⟩:=I.base.there x v z (by intro c;exact absurd (show x∈([]:List Addr) from c) (by simp))
  rw [hnew]at e1;cases e1
theorem own_outF:PassesOwn (model P w) (A.deeper (envOfC qual scope s.heap.objs.size f cd)) (envOfC qual scope s.heap.objs.size f cd) (cxOf (CXF P w) P w K mg base N qual scope f cd A outer s H E).xe:=PassesOwn.leaving
theorem Fun.okF{x:Str}{st:Stmt}{fd:FuncData}{ps:List Str}{k:Nat}{sp:Sp}(F:Fun K x qual st f fd)(S:FnScope N ps (defScope st))(len:∀vs H Q E,sp vs H Q E→vs.length=ps.length)
 (hbody:∀(cdv:Value) (A:Around) (outer:List Env) (s:Shared) (H:Hp) (vs:List V) (Q:VK) (E:XK),Room k (A.deeper (envOfC qual (defScope st) s.heap.objs.size f cdv))→sp vs H Q E→
  ∃t,PSs (cxOf (CXF P w) P w K mg base N qual (defScope st) f cdv A outer s H E) (defBody st) t∧t {nx:=fun _ H'=>Q .non H',rt:=Q} (start N vs) H):FnOk P w K mg base (CXF P w) (k+1) f fd ps sp:=by
 obtain ⟨oc,od,kV,doc,pm,an,cdv,ct,osl,rfl,lk,hcd⟩:=F.ex
 exact fn_of lk hcd S len fun A outer s H vs Q E hr hsp=>hbody cdv A outer s H vs Q E hr hsp
noncomputable def RaisesF(X:Cx)(H₀:Hp)(EE:St→XK):Prop:=∀(pins:List (Addr×Obj)) (σ:St) (H2:Hp) (s2:Shared) (x C:Addr) (od:Option Addr),
 Inv X pins σ H2 s2→H2 x=some (exO true x C od)→H₀ x=none→EE σ (.ref C) (some x) (upd H2 x (exO false x C od))→X.xe (.ref x) s2
theorem raisesF:RaisesF (cxOf (CXF P w) P w K mg base N qual scope f cd A outer s H E) H (fun _=>E):=fun _ _ _ _ _ _ _ I hx h0 q=>raise_outF I hx h0 q
theorem pass_noF{Y:Cx}:Passes (CXF P w) Y fun _ _ _=>False:=fun _ _ _ _ _ _ _ h=>by
 obtain ⟨_,_,_,_,_,_,_,_,_,_,_,_,_,_,_,z⟩:=h
 exact z.elim
end
structure ExK(K:PySem.W.Frag)(C:Addr):Prop where
 at_:∀h:Heap,K.In h→∃(nm q:Str) (N:Addr) (bs bm:List Value) (hd:Bool) (sn:List Str) (su:List Value) (ab:Bool) (co:Option Bool) (dd:Option Addr) (k0 k1 k2 k3 k5:Option Value) (nw:String),
  h.get? C=some (excClassObj nm q C N bs bm hd sn su ab co dd k0 k1 k2 k3 k5 nw)∧bm.contains (.type "BaseException")=true
theorem ExcC.k{K:PySem.W.Frag}{C:Addr}(M:ExcC K C):ExK K C:=⟨fun h X=>by
 obtain ⟨nm,q,N,bs,bm,hd,sn,su,ab,co,dd,k0,k1,k2,k3,k5,mN,c1,c2,c3,c4⟩:=M.at_ h X
 exact ⟨nm,q,N,bs,bm,hd,sn,su,ab,co,dd,k0,k1,k2,k3,k5,_,c1,c4.hasType (by decide)⟩⟩
theorem MkX.k{K:PySem.W.Frag}{C f:Addr}(M:MkX K C f):ExK K C:=⟨fun h X=>by
 obtain ⟨nm,q,N,bs,bm,hd,sn,su,ab,co,dd,k0,k1,k2,k3,k5,mN,c1,c2,c3,c4⟩:=M.at_ h X
 exact ⟨nm,q,N,bs,bm,hd,sn,su,ab,co,dd,k0,k1,k2,k3,k5,_,c1,c4.hasType (by decide)⟩⟩
noncomputable def tRaiseP(P:St→Addr→Hp→Prop)(ta:TE):TS:=fun _ σ H=>ta σ H fun v H2=>∃x,v= .ref x∧P σ x H2
section
variable {X:Cx} {H₀:Hp} {EE:St→XK} {C:Addr} {e:Expr} {ta:TE} {pos:Pos}
theorem ps_raiseP{P:St→Addr→Hp→Prop}(hP:∀σ x H2,P σ x H2→∃od,H2 x=some (exO true x C od)∧H₀ x=none∧EE σ (.ref C) (some x) (upd H2 x (exO false x C od)))(k:ExK X.K C)(hc:X.calm=true)(hx:RaisesF X H₀ EE)(he:PE X e ta):
 PS X (.Raise (some e) none pos) (tRaiseP P ta):=by
 intro pins s σ H D I h
 rw [arm_exec_Raise]
 refine wpAny_bind (wpAny_standAt ?_)
 show wpAny _ _ (raiseStmt X.env (some (do let v ← eval e X.env;standAt pos;pure v)) none) _ _ _
 unfold raiseStmt
 refine wpAny_bind (wpAny_bind (wpAny_mono (he pins s σ H _ I h) (fun v s1 hv=>wpAny_bind (wpAny_standAt (wpAny_pure ?_))) fun _ _ z=>z))
 obtain ⟨v',H2,I2,rx,x,ev,hp⟩:=hv
 obtain ⟨od,hx2,h0,q⟩:=hP σ x H2 hp
 subst ev
 cases (show v=Value.ref x from rx)
 obtain ⟨nm,qn,N,bs,bm,hd,sn,su,ab,co,dd,k0,k1,k2,k3,k5,nw,c1,c2⟩:=k.at_ s1.heap I2.kIn
 obtain ⟨vs,sl,e1,nv⟩:=(I2.hok x _ hx2).1
 obtain ⟨t,rfl⟩:=nv rfl
 have fin:=hx pins σ H2 s1 x C od I2 hx2 h0 q
 have hB:(Value.ref C::bm).contains (.type "BaseException")=true:=by rw [List.contains_cons,c2,Bool.or_true]
 obtain ⟨hp',g,d,tk,os⟩:=s1
 repeat (first | with_reducible refine wpAny_loadPart_at e1 ?_ | with_reducible refine wpAny_loadPart_at c1 ?_ | (with_reducible refine wpAny_isSubtype_exc c1 ?_;rw [hB]) | wp_step)
 exact wpAny_raiseNew_none (I.ok.hd hc) fin
end
noncomputable def pN(C:Addr)(H₀:Hp)(EE:St→XK):St→Addr→Hp→Prop:=fun σ x H2=>H2 x=some (exO true x C none)∧H₀ x=none∧EE σ (.ref C) (some x) (upd H2 x (exO false x C none))
noncomputable def pI(C:Addr)(H₀:Hp)(EE:St→XK):St→Addr→Hp→Prop:=fun σ x H2=>∃od,H2 x=some (exO true x C od)∧H₀ x=none∧EE σ (.ref C) (some x) (upd H2 x (exO false x C od))
section
variable {X:Cx} {H₀:Hp} {CX:CXT} {EE:St→XK} {k j:Nat} {C:Addr} {ps:List Str} {sp:Sp} {x:Str} {np cpos pos:Pos} {e:Expr} {es:List Expr} {t:TA}
theorem ps_raiseF(M:ExcC X.K C)(hex:X.ex=[])(kp:PySem.W.keepIn X.K (.ref C)=true)(hc:X.calm=true)(hg:Gl X x)(hm:X.mg x=some (.ref C))(hx:RaisesF X H₀ EE)(ha:PA X (e::es) t)(hdb:(x==("__debug__":Str))=false:=by decide)
 (he:starEach (e::es) X.env=(false,eval e X.env)::starEach es X.env:=by rfl) (hpl:(backTo cpos (starEach es X.env)).any (·.1)=false:=by rfl):
 PS X (.Raise (some (.Call (.Name x np) (e::es) [] cpos)) none pos) (tRaiseP (pN C H₀ EE) (tExc C t)):=
 ps_raiseP (fun _ _ _ h=>⟨none,h⟩) M.k hc hx (pe_exc M hex kp hg hm ha hdb he hpl)
theorem DefX.exk(D:DefX X.prog X.w X.K X.mg X.base CX j x C ps sp):ExK X.K C:=by
 obtain ⟨f,fd,F,M,hm,hb⟩:=D.ex
 exact M.k
theorem ps_raiseI(D:DefX X.prog X.w X.K X.mg X.base CX j x C ps sp)(hex:X.ex=[])(hr:Room k X.A)(hc:X.calm=true)(hg:Gl X x)(hp:PassesS CX X EE)(hx:RaisesF X H₀ EE)(ha:PA X (e::es) t)(hj:j+1≤k:=by decide)(hdb:(x==("__debug__":Str))=false:=by decide)
 (he:starEach (e::es) X.env=(false,eval e X.env)::starEach es X.env:=by rfl) (hpl:(backTo cpos (starEach es X.env)).any (·.1)=false:=by rfl):
 PS X (.Raise (some (.Call (.Name x np) (e::es) [] cpos)) none pos) (tRaiseP (pI C H₀ EE) (tExcI C sp EE t)):=
 ps_raiseP (fun _ _ _ h=>h) D.exk hc hx (pe_excI D hex hr hg hp ha hj hdb he hpl)
end
section
variable {σ:St} {H H₀:Hp} {Q:VK} {D:Ends} {K:PySem.W.Frag} {C:Addr} {EE:St→XK} {t:TA} {sp:Sp}
theorem rd_raiseF:tRaiseP (pN C H₀ EE) (tExc C t) D σ H=t σ H fun vs H1=>vs.length≤sizeLine∧∀x,H1 x=none→H₀ x=none∧EE σ (.ref C) (some x) (upd H1 x (exO false x C none)):=by
 unfold tRaiseP pN tExc
 simp only [V.ref.injEq,exists_eq_left',upd_same,upd_upd,true_and]
theorem rd_raiseI:tRaiseP (pI C H₀ EE) (tExcI C sp EE t) D σ H=t σ H fun vs H1=>vs.length≤sizeLine∧∀x,H1 x=none→sp (.ref x::vs) (upd H1 x (exO true x C none)) (fun v H2=>v= .non∧∃od,H2 x=some (exO true x C od)∧H₀ x=none∧EE σ (.ref C) (some x) (upd H2 x (exO false x C od))) (EE σ):=by
 unfold tRaiseP pI tExcI
 simp only [V.ref.injEq,exists_eq_left']
end
section
variable {X:Cx} {pins:List (Addr×Obj)} {σ:St} {H:Hp} {x C:Addr} {od:Option Addr} {s:Shared}
theorem Air.landD(Z:Air X pins σ H x (.ref C) s)(ly:Lies s.heap x C od){M:Model}{A:Around}{Q:Unit→Shared→Prop}{E:Value→Shared→Prop}(h:∀s',Air X pins σ H x (.ref C) s'→Lies s'.heap x C od→Q () s'):wpAny M A (setFlight (.ref x) none) Q E s:=by
 obtain ⟨H0,s0,a0,B,I,os,bare,u,ok,fl,hB,hx,hn⟩:=Z.ex
 refine L2.landD fl.1 fl.2.2.1 fl.2.2.2.at ly fun h2 b2 g2 t2 u2 l2=>h _ ?_ l2
 obtain ⟨U,ok3,hB3⟩:=stay_of u ok I.frm I.stkFree hB b2 u2
 exact ⟨H0,s0,a0,B,I,os,bare,U,ok3,⟨b2,fl.2.1,g2,t2⟩,hB3,hx,hn⟩
theorem Air.trackF(Z:Air X pins σ H x (.ref C) s)(ly:Lies s.heap x C od)(hex:X.ex=[]):Inv X pins σ (upd H x (exO false x C od)) s:=by
 obtain ⟨H0,s0,a0,B,I0,os,bare,u,ok,fl,hB,hx,hn⟩:=Z.ex
 obtain ⟨vs,sl,e⟩:=ly
 exact Inv.track (H1:=H0) (s1:=s0) I0 hex hn Z.inv hx (exO_ok e fun z=>by cases z)
end
noncomputable def PHF(X:Cx)(hs:List ExceptHandler)(th:TH):Prop:=∀(pins:List (Addr×Obj)) (s:Shared) (σ:St) (H:Hp) (x C:Addr) (od:Option Addr) (D:Ends),Air X pins σ H x (.ref C) s→Lies s.heap x C od→th (.ref C) x D σ (upd H x (exO false x C od))→
 wpAny (model X.prog X.w) X.A (handleBy (.ref x) X.env hs) (SP X pins D) X.xe s
noncomputable def hAsF(K:PySem.W.Frag)(c:Value)(i:Nat)(ts:Addr→TS)(tr:TH):TH:=fun cls x D σ H=>∃b,PySem.W.exmOne K cls c=some b∧if b=true then ts x (endsAs i D) (σ.set i (some (.ref x))) H else tr cls x D σ H
section
variable {X:Cx} {Cn n:Str} {c:Value} {i:Nat} {np pos:Pos} {b₀:Stmt} {suite:List Stmt} {rest:List ExceptHandler} {ts:Addr→TS} {tr:TH}
theorem ph_nilF:PHF X [] hNil:=fun _ _ _ _ _ _ _ _ _ _ h=>h.elim
theorem ph_clsF(hex:X.ex=[])(hg:Gl X Cn)(hm:X.mg Cn=some c)(hs:∀x,PSs (X.sui x) (b₀::suite) (ts x))(hr:PHF X rest tr)(hdb:(Cn==("__debug__":Str))=false:=by decide):
 PHF X (.ExceptHandler (some (.Name Cn np)) none (b₀::suite) pos::rest) (hClsV X.K c ts tr):=by
 intro pins s σ H x C od D Z ly h
 obtain ⟨b,e,h⟩:=h
 refine wpAny_handleBy_cons (clause_test (c:=c) Z (fun Q E q=>ld_glob (X:=X.sui x) (Z.inv.sui x) hg hm q hdb) e ?_) (by intro q;cases q)
 cases b with
 | false=>exact hr pins s σ H x C od D Z ly h
 | true=>
  refine codeAny_handlers_suite (Z.landD ly fun s' Z' ly'=>?_)
  exact wpAny_mono (hs x pins s' σ _ D ((Z'.trackF ly' hex).sui x) h) (fun f s2 q=>q.unsui Z.inv.ok) fun _ _ q=>False.elim q
theorem ph_asF(hex:X.ex=[])(hN:X.N.Nodup)(hi:X.N[i]?=some n)(hl:X.env.kindOf n=some .local)(hg:Gl X Cn)(hm:X.mg Cn=some c)(hs:∀x,PSs (X.sui x) (b₀::suite) (ts x))(hr:PHF X rest tr)(hdb:(Cn==("__debug__":Str))=false:=by decide):
 PHF X (.ExceptHandler (some (.Name Cn np)) (some n) (b₀::suite) pos::rest) (hAsF X.K c i ts tr):=by
 intro pins s σ H x C od D Z ly h
 obtain ⟨b,e,h⟩:=h
 refine wpAny_handleBy_cons (clause_test (c:=c) Z (fun Q E q=>ld_glob (X:=X.sui x) (Z.inv.sui x) hg hm q hdb) e ?_) (by intro q;cases q)
 cases b with
 | false=>exact hr pins s σ H x C od D Z ly h
 | true=>
  refine codeAny_handlers_suite_as (Z.landD ly fun s' Z' ly'=>?_)
  refine store_ok (X:=X) (Z'.trackF ly' hex) hN hi (.inl hl) (v:= .ref x) rfl (fun s2 I2=>?_) (.inr hl)
  refine wpAny_mono (hs x pins s2 _ _ _ (I2.sui x) h) (fun f s3 q=>?_) fun _ _ q=>False.elim q
  have q':=q.unsui Z.inv.ok
  show wpAny _ _ _ _ _ _
  cases f with
  | next=>obtain ⟨σ',H',I3,q3⟩:=q';exact name_goes I3 hN hi hl fun s4 I4=>⟨_,H',I4,q3⟩
  | brk=>obtain ⟨σ',H',I3,q3⟩:=q';exact name_goes I3 hN hi hl fun s4 I4=>⟨_,H',I4,q3⟩
  | cont=>obtain ⟨σ',H',I3,q3⟩:=q';exact name_goes I3 hN hi hl fun s4 I4=>⟨_,H',I4,q3⟩
  | ret u=>obtain ⟨v,σ',H',I3,r3,q3⟩:=q';exact name_goes I3 hN hi hl fun s4 I4=>⟨v,_,H',I4,r3,q3⟩
theorem ps_tryF{body:List Stmt}{h₀:ExceptHandler}{hs:List ExceptHandler}{tb:TryB→TS}{th:TH}(hst:X.stack=X.env::X.outer)(hfr:X.env.frame=some X.env.locals)
 (hb:∀t:TryB,PassesS (CXF X.prog X.w) (X.tryX t.pn t.xe) t.EE→PSs (X.tryX t.pn t.xe) body (tb t)) (hh:PHF X (h₀::hs) th):
 PS X (.Try body (h₀::hs) [] [] pos) (tTryV tb th):=by
 intro pins s σ H D I h
 refine wpAny_Try_except ?_
 have P1:PassesS (CXF X.prog X.w) (X.tryX (X.pn++pins) (fun e s'=>∃σ H' x C od,e= .ref x∧Air X pins σ H' x (.ref C) s'∧Lies s'.heap x C od∧th (.ref C) x D σ (upd H' x (exO false x C od)))) (fun σ' cls ox H'=>∃x,ox=some x∧th cls x D σ' H'):=by
  intro pl σ1 H1 s1 e s2 I1 hc
  obtain ⟨x,C,od,a0,H2,B,rfl,os,bare,u,ok,fl,hB,hx,hn,⟨y,hy,q⟩⟩:=hc
  cases hy
  exact ⟨σ1,H2,x,C,od,rfl,⟨H1,s1,a0,B,I1.tryOut I.ok,os,bare,u,ok,fl.1,hB,hx,hn⟩,fl.2,q⟩
 refine wpAny_mono (hb ⟨_,_,_⟩ P1 [] s σ H D (I.tryIn _) (h _ _)) (fun f s1 q=>?_) fun e s1 q=>?_
 · have q':=q.tryOut I.ok
   cases f with
   | next=>exact wpAny_execs_nil q'
   | brk=>exact q'
   | cont=>exact q'
   | ret u=>exact q'
 · obtain ⟨σ1,H1,x,C,od,rfl,Z,ly,q⟩:=q
   have fr:X.A.frames=some (X.env::X.outer):=by rw [← hst];exact I.ok.frames
   obtain ⟨H0,s0,a0,B,I0,os,bare,u,ok,fl,hB,hx,hn⟩:=Z.ex
   have fl':=fl
   rw [hst]at fl'
   obtain ⟨f1,f2,f3,f4⟩:=fl'
   refine noteD fr f3 hfr f4 f1 f2 ly fun h1 N1 l1=>landD (s:={s1 with heap:=h1}) N1.1 N1.2.1 N1.2.2.1 l1 fun h3 b3 g3 t3 u3 l3=>?_
   have fl3:Heap.FlyingW B X.stack x (.ref C) a0 h3:=by rw [hst];exact ⟨b3,f2,g3,t3⟩
   obtain ⟨U,ok3,hB3⟩:=stay_of u ok I0.frm I0.stkFree hB b3 (Heap.UpToSlots.trans N1.2.2.2 u3)
   exact hh pins _ σ1 H1 x C od D ⟨H0,s0,a0,B,I0,os,bare,U,ok3,fl3,hB3,hx,hn⟩ l3 q
end
section
variable {σ:St} {H:Hp} {D:Ends} {K:PySem.W.Frag}
theorem rd_hasF{c cls:Value}{i:Nat}{x:Addr}{ts:Addr→TS}{tr:TH}:hAsF K c i ts tr cls x D σ H=∃b,PySem.W.exmOne K cls c=some b∧if b=true then ts x (endsAs i D) (σ.set i (some (.ref x))) H else tr cls x D σ H:=rfl
theorem rd_fldX{Q:VK}{ta:TE}{f:Str}:tFldX K ta f σ H Q=ta σ H fun x H1=>∃nw a C B dx fs v,x= .ref a∧H1 a=some (exO nw a C (some dx))∧H1 dx=some (exD dx fs)∧ExcQ K C B∧PySem.W.findIn K (.ref C) f=some none∧fs.lookup f=some v∧Q v H1:=rfl
theorem rd_sfldX{ta tv:TE}{f:Str}:sFldX K ta tv f D σ H=tv σ H fun y H1=>ta σ H1 fun x H2=>∃nw a C B,x= .ref a∧ExcQ K C B∧PySem.W.findIn K (.ref C) f=some none∧
 ((H2 a=some (exO nw a C none)∧∀dx,H2 dx=none→D.nx σ (upd (upd H2 a (exO nw a C (some dx))) dx (exD dx (putF f y []))))∨
  ∃dx fs,H2 a=some (exO nw a C (some dx))∧H2 dx=some (exD dx fs)∧fs.length < 1000∧D.nx σ (upd H2 dx (exD dx (putF f y fs)))):=rfl
theorem rd_methX{C:Addr}{m:Str}{sp:Sp}{EE:St→XK}{ta:TE}{Q:VK}:tMethX C m sp EE ta σ H Q=ta σ H fun x H1=>∃nw a,x= .ref a∧(H1 a=some (exO nw a C none)∨∃dx fs,H1 a=some (exO nw a C (some dx))∧H1 dx=some (exD dx fs)∧fs.lookup m=none)∧sp [x] H1 Q (EE σ):=rfl
theorem rd_exc{C:Addr}{t:TA}{Q:VK}:tExc C t σ H Q=t σ H fun vs H1=>vs.length≤sizeLine∧∀x,H1 x=none→Q (.ref x) (upd H1 x (exO true x C none)):=rfl
theorem rd_excI{C:Addr}{sp:Sp}{EE:St→XK}{t:TA}{Q:VK}:tExcI C sp EE t σ H Q=t σ H fun vs H1=>vs.length≤sizeLine∧∀x,H1 x=none→sp (.ref x::vs) (upd H1 x (exO true x C none)) (fun v H2=>v= .non∧Q (.ref x) H2) (EE σ):=rfl
end
section
open PySem.W
theorem walk_ofKF{l:PySem.W.OpenLaw}{n k:Nat}{q:Program}{loose:List Str}{XP:(Str→Option Value)→Heap→Prop}{YP:World→Heap→Prop}{d:DefRec}{K:Params→PySem.W.Frag}{sp:PySem.W.Frag→Sp}{x:Str}
 (hn:l.most=some n) (hn2:n≤sizeLine) (hdf:d.params.defaults=[]) (hr:Room k callerA) (hY:∀(w:World) (h:Heap),YP w h→(K w.params).In h)
 (F:∀(w:World) (mg:Str→Option Value) (fa:Addr) (h:Heap),(K w.params).In h→h.Ns mainGlobals mg→mg d.name=some (.ref fa)→
  ∃fd:FuncData,(∀(s:Shared) (u:Value),BindsTo s fd ⟨[u],[]⟩ [(x,u)])∧∀base:Heap,(K w.params).In base→base.Ns mainGlobals mg→FnOk l.prog w (K w.params) mg base (CXF l.prog w) k fa fd [x] (sp (K w.params)))
 (hsp:∀(K:PySem.W.Frag) (H:Hp) (a:Addr) (ns:List Int),ns.length≤n→Only H→SqL K H a (ns.map V.int)→sp K [.ref a] H (fun v _=>v= .bl true) fun _ _ _=>False):
 PySem.W.WalkO q loose XP YP l.row.toRowW d [] (fun f vs=>PySem.call f vs):=
 walk_of (K:=K) (CX:=fun w=>CXF l.prog w) (sp:=fun w=>sp (K w.params)) hn hn2 hdf hr hY F (fun w H a ns h1 h2 h3=>hsp (K w.params) H a ns h1 h2 h3) fun _ _ _ _ _ ⟨_,_,_,_,_,_,_,_,_,_,_,_,_,_,_,z⟩=>z
end
section
open PySem.W
variable {K:Frag} {C N A f:Addr} {nm q:Str} {bs:List Value} {hdct:Bool} {sn:List Str} {sub:List Value} {ab:Bool} {col:Option Bool} {dd:Option Addr} {k0 k1 k2 k3 k5:Option Value} {oc c0 oc2:Value} {od dA od2:Option Addr} {es es2:Array DictEntry} {ep ep2:Nat} {sl slA sl2:Array (Option Value)} {cdA:ClassData} {nw:String}
theorem mkX_of{fo:Obj}(lC:K.lookup C=some (excClassObj nm q C N bs (.ref A::veTail) hdct sn sub ab col dd k0 k1 k2 k3 k5 "ValueError.__new__"))(lN:K.lookup N=some ⟨oc,od,.dict es ep,sl⟩)(sN:strKeysB es=true)(iN:nsFind es "__init__"=some (.ref f))
 (lA:K.lookup A=some ⟨c0,dA,.cls cdA,slA⟩) (lNA:K.lookup cdA.ns=some ⟨oc2,od2,.dict es2 ep2,sl2⟩) (sNA:strKeysB es2=true) (iNA:nsFind es2 "__init__"=none) (lF:K.lookup f=some fo) (cF:fo.cls= .type "function") (kp:keepIn K (.ref C)=true):MkX K C f:=
 ⟨fun h X=>⟨nm,q,N,bs,_,hdct,sn,sub,ab,col,dd,k0,k1,k2,k3,k5,nsFind es,X _ _ lC,ns_of X lN sN,iN,.own (X _ _ lA) (ns_of X lNA sNA) iNA .base⟩,⟨fo,lF,cF⟩,kp⟩
theorem excQ_of(lC:K.lookup C=some (excClassObj nm q C N bs (.ref A::veTail) true sn sub ab col dd k0 k1 k2 k3 k5 nw))(ga:findIn K (.ref C) "__getattribute__"=some (some (.builtin "BaseException.__getattribute__")))(gh:findIn K (.ref C) "__getattr__"=some none)
 (sa:findIn K (.ref C) "__setattr__"=some (some (.builtin "object.__setattr__"))):ExcQ K C A:=by
 refine ⟨⟨ga,gh⟩,?_,sa⟩
 unfold clsIn
 rw [lC]
 exact ⟨_,rfl,rfl,rfl⟩
end
end L2
namespace L2
theorem kV_of{P:Program}{w:World}{k:Key}{u:Value}(h:(mixKind P w).is k u=true):RelV (kV k) u:=by
 cases k with
 | inl i=>
  cases u <;> first | (exact absurd h (by intro z;cases z)) | skip
  rename_i j t
  have e:j=i:=by simpa [mixKind,keyIs,Value.isInt] using h
  exact ⟨t,by rw [e]⟩
 | inr x=>
  cases u <;> first | (exact absurd h (by intro z;cases z)) | skip
  rename_i j t
  have e:j=x:=by simpa [mixKind,keyIs,Value.isStrOf] using h
  exact ⟨t,by rw [e]⟩
theorem vals_get:∀{xs:List V} {us:List Value},Vals xs us→∀{i:Nat} {u:Value},us[i]?=some u→∃x,xs[i]?=some x∧RelV x u
 | _,_,.cons r t,0,u,e=>by cases e;exact ⟨_,rfl,r⟩
 | _,_,.cons r t,i+1,u,e=>vals_get t (i:=i) e
theorem vals_at:∀{xs:List V} {us:List Value},xs.length=us.length→(∀(j:Nat) (u:Value),us[j]?=some u→∃x,xs[j]?=some x∧RelV x u)→Vals xs us
 | [],[],_,_=> .nil
 | x::xs,u::us,hl,h=>by
  obtain ⟨y,e,r⟩:=h 0 u rfl
  cases e
  exact .cons r (vals_at (by simpa using hl) fun j v e=>h (j+1) v e)
theorem paired_get{α β:Type}{F:α→β→Prop}:∀{l:List α} {m:List β},Paired F l m→∀{i:Nat} {b:β},m[i]?=some b→∃a,l[i]?=some a∧F a b
 | _,_,.cons r t,0,b,e=>by cases e;exact ⟨_,rfl,r⟩
 | _,_,.cons r t,i+1,b,e=>paired_get t (i:=i) e
theorem erase_map{α β:Type}(f:α→β):∀(l:List α) (i:Nat),(l.map f).eraseIdx i=(l.eraseIdx i).map f
 | [],_=>rfl
 | _::_,0=>rfl
 | a::l,i+1=>by rw [List.map_cons,List.eraseIdx_cons_succ,List.eraseIdx_cons_succ,List.map_cons,erase_map f l i]
theorem erase_at(z:Str):∀l:List Str,l.eraseIdx (l.idxOf z)=l.erase z
 | []=>rfl
 | a::l=>by
  by_cases h:a=z
  · subst h;simp
  · have e:(a::l).idxOf z=l.idxOf z+1:=by rw [List.idxOf_cons,show (a==z)=false from beq_false_of_ne h];rfl
    rw [e,List.eraseIdx_cons_succ,erase_at z l,List.erase_cons_tail (by simpa using h)]
noncomputable def viewO(v d:Addr):HO:= .ext fun h=>h.IsValuesView v d
theorem preSum_eq:∀(is:List Int),preSum (fun i=>is.getD i 0) is.length=is.sum:=by
 intro is
 have key:∀n,n≤is.length→preSum (fun i=>is.getD i 0) n=(is.take n).sum:=by
  intro n
  induction n with
  | zero=>intro _;rfl
  | succ n ih=>
   intro h
   have e:is.take (n+1)=is.take n++[is.getD n 0]:=by
    rw [List.take_add_one,List.getD_eq_getElem?_getD,List.getElem?_eq_getElem (by omega)]
    rfl
   rw [preSum,ih (by omega),e,List.sum_append]
   simp
 have:=key is.length (Nat.le_refl _)
 rwa [List.take_length]at this
noncomputable def rListD:List V→Hp→VK→Prop:=fun xs H Q=>∃a kvs,xs=[.ref a]∧H a=some (.dK kvs)∧∀l,H l=none→Q (.ref l) (upd H l (.lst (kvs.map fun p=>kV p.1)))
noncomputable def rValues:V→List V→Hp→VK→Prop:=fun x vs H Q=>∃a kvs,x= .ref a∧vs=[]∧H a=some (.dK kvs)∧∀v,H v=none→Q (.ref v) (upd H v (viewO v a))
noncomputable def rSumV:List V→Hp→VK→Prop:=fun xs H Q=>∃(v d:Addr) (kvs:List (Key×V)) (is:List Int),xs=[.ref v]∧H v=some (viewO v d)∧H d=some (.dK kvs)∧kvs.map (·.2)=is.map V.int∧Q (.int is.sum) H
noncomputable def rRemove:V→List V→Hp→VK→Prop:=fun x vs H Q=>∃(l:Addr) (ys:List Str) (z:Str),x= .ref l∧vs=[.str z]∧H l=some (.lst (ys.map V.str))∧z∈ys∧Q .non (upd H l (.lst ((ys.erase z).map V.str)))
section
variable {X:Cx}
theorem call_listD(hc:X.calm=true):CallR X (.type "list") rListD:=by
 intro pins s σ H xs us Q I r h
 obtain ⟨a,kvs,rfl,ha,q⟩:=h
 obtain ⟨u,rfl,rx⟩:=vals1 r
 cases rx
 obtain ⟨z,lo,ws,rel,ob,es,ep,e1,e2⟩:=I.hok a _ ha
 have dat:s.heap.DictAt (mixKind X.prog X.w) a ws ep:=⟨ob,es,e1,e2⟩
 refine PySem.W.kdl_call (PySem.W.kdl_dict (knd:=mixKind X.prog X.w) (kvs:=ws) (ep:=ep) lo) (I.ok.hd hc) dat (by rw [← rel.length];exact z) fun h' tk acc c' kp e hi=>?_
 have hv:Vals (kvs.map fun p=>kV p.1) acc.toList:=by
  have h1:=hi.1
  have h2:=rel.length
  refine vals_at (by rw [List.length_map];exact h2.trans (h1.symm.trans (Array.length_toList (xs:=acc)).symm)) fun j u ej=>?_
  obtain ⟨k,x,ek,hk⟩:=hi.2 j u (by rw [← Array.getElem?_toList];exact ej)
  obtain ⟨p,ep',hp⟩:=paired_get rel ek
  exact ⟨kV p.1,by rw [List.getElem?_map,ep'];rfl,by rw [hp.1];exact kV_of hk⟩
 refine ⟨.ref s.heap.objs.size,_,I.laid (t':=tk) kp (Nat.le_refl _) (show ObjOk X.prog X.w _ h' _ (.lst (kvs.map fun p=>kV p.1)) from ⟨by rw [List.length_map];exact z,acc.toList,c',hv,?_⟩),rfl,q _ I.fresh⟩
 rw [Array.toArray_toList];exact e
theorem mt_values:MtM X "dict.values" rValues:=by
 intro pins s σ H x vs v us Q I rx rv h
 obtain ⟨a,kvs,rfl,rfl,ha,q⟩:=h
 cases rx
 have hus:=rv.zero
 subst hus
 obtain ⟨z,lo,ws,rel,dd⟩:=I.hok a _ ha
 refine call_meetsIn PySem.F.slot_dict_values dd.typeIs PySem.F.entry_dict_values (PySem.F.args_dict_values_1 _) (meets_dict_values (mixKind X.prog X.w) a lo) ⟨⟨ws,dd⟩,?_⟩
 refine ⟨.ref s.heap.objs.size,_,I.laid (t':=s.toks) (fun b o e=>Heap.get?_push_of_some _ e) (Nat.le_refl _) (show ObjOk X.prog X.w _ _ _ (viewO s.heap.objs.size a) from ⟨⟨_,Heap.get?_push_size _ rfl,rfl,rfl⟩,⟨_,Heap.get?_push_size _ rfl⟩,fun h1 h2 ⟨o,e1,e2⟩ k=>⟨o,k _ e1,e2⟩⟩),rfl,q _ I.fresh⟩
theorem call_sumV(hc:X.calm=true):CallR X (.builtin "sum") rSumV:=by
 intro pins s σ H xs us Q I r h
 obtain ⟨v,d,kvs,is,rfl,hv,hd,hm,q⟩:=h
 obtain ⟨u,rfl,rx⟩:=vals1 r
 cases rx
 obtain ⟨z,lo,ws,rel,ob,es,ep,e1,e2⟩:=I.hok d _ hd
 have dat:s.heap.DictAt (mixKind X.prog X.w) d ws ep:=⟨ob,es,e1,e2⟩
 have hvw:s.heap.IsValuesView v d:=(I.hok v _ hv).1
 have src:=PySem.W.kdl_values (prog:=X.prog) (w:=X.w) (r:=v) (d:=d) (knd:=mixKind X.prog X.w) (kvs:=ws) (ep:=ep)
 have hlen:ws.length=is.length:=by
  have:=congrArg List.length hm
  simp only [List.length_map]at this
  rw [← rel.length];exact this
 refine call_sum_walkAnyS ?_
 obtain ⟨oI,St,hit,W,st⟩:=src.iter X.A.in1 s (I.ok.hd hc) ⟨hvw,dat⟩
 refine hit _ _ ⟨s.heap.objs.size,_,_,_,_,_,_,fun i=>is.getD i 0,rfl,W.toS,st,fun b hb=>?_,fun i u hp=>?_,fun s' t' hmv=>?_⟩
 · show b < (s.heap.push oI).objs.size
   rw [size_push']
   rcases List.mem_cons.mp hb with e | hb
   · rw [e];exact Nat.lt_succ_self _
   · rw [List.mem_singleton.mp hb];exact Nat.lt_succ_of_lt (Heap.lt_size e1)
 · obtain ⟨k,ek⟩:=hp
   obtain ⟨p,ep',hp'⟩:=paired_get rel ek
   have e3:(kvs.map (·.2))[i]?=some p.2:=by rw [List.getElem?_map,ep'];rfl
   rw [hm,List.getElem?_map]at e3
   cases hi:is[i]? with
   | none=>rw [hi]at e3;cases e3
   | some n=>
    rw [hi]at e3
    have e4:V.int n=p.2:=Option.some.inj e3
    have r2:=hp'.2
    rw [← e4]at r2
    show ∃t,u=Value.int (is.getD i 0) t
    rw [List.getD_eq_getElem?_getD,hi]
    exact r2
 · have hk:∀b o,s.heap.get? b=some o→s'.heap.get? b=some o:=fun b o e=>
    hmv.heap b o (fun hI=>absurd (Heap.lt_size e) (by rw [List.mem_singleton.mp hI];exact Nat.lt_irrefl _)) (Heap.get?_push_of_some _ e)
   rw [Moved.eq_with hmv]
   refine ⟨.int is.sum,H,I.kept (t':=s'.toks) hk,⟨t',?_⟩,q⟩
   rw [hlen,preSum_eq]
theorem mt_remove:MtM X "list.remove" rRemove:=by
 intro pins s σ H x vs v us Q I rx rv h
 obtain ⟨l,ys,z,rfl,rfl,hH,hz,q⟩:=h
 cases rx
 obtain ⟨u,rfl,ru⟩:=rv.one
 obtain ⟨t,rfl⟩:=ru
 obtain ⟨hs,its,n,r,hl,e⟩:=I.lstM hH
 have hj:ys.idxOf z < ys.length:=List.idxOf_lt_length_iff.mpr hz
 have at_:∀(m:Nat) (u:Value),its[m]?=some u→∃y t,ys[m]?=some y∧u= .str y t:=fun m u em=>by
  obtain ⟨x,ex,rx⟩:=vals_get r em
  rw [List.getElem?_map]at ex
  cases hy:ys[m]? with
  | none=>rw [hy]at ex;cases ex
  | some y=>
   rw [hy]at ex
   cases ex
   obtain ⟨t,e⟩:=rx
   exact ⟨y,t,rfl,e⟩
 have ev:∀y,y∈its.toArray→MeetsSeq.EqGives y (.str z t) (PyProof.Rows.isStrOf z y):=fun y hy=>by
  obtain ⟨m,hm⟩:=List.mem_iff_getElem?.mp (by simpa using hy)
  obtain ⟨y',t',_,rfl⟩:=at_ m y hm
  exact eqGives_str y' z t' t
 have hit:∀(m:Nat) (hm:m < its.toArray.size),∃y t,ys[m]?=some y∧its.toArray[m]= .str y t:=fun m hm=>at_ m _ (by simp)
 refine call_meets F.slot_list_remove ⟨_,e,rfl⟩ F.entry_list_remove (F.args_list_remove_2 _ _) (MeetsSeq.list_remove l its.toArray n (.str z t) (isStrOf z) ev (ys.idxOf z) (by rw [List.size_toArray,← hl,List.length_map];exact hj) ?_ ?_ (by rw [List.size_toArray];omega)) ⟨e,?_⟩
 · obtain ⟨y,t',h1,h2⟩:=hit (ys.idxOf z) (by rw [List.size_toArray,← hl,List.length_map];exact hj)
   rw [h2]
   have e3:ys[ys.idxOf z]?=some z:=by rw [List.getElem?_eq_getElem hj,List.getElem_idxOf hj]
   rw [e3]at h1;cases h1
   simp [isStrOf]
 · intro m hm hlt
   obtain ⟨y,t',h1,h2⟩:=hit m hm
   rw [h2]
   have e3:(ys[m]'(by omega)==z)=false:=List.not_of_lt_findIdx hlt
   rw [List.getElem?_eq_getElem (by omega)]at h1
   cases h1
   exact e3
 · refine ⟨.non,_,I.lset (its':=its.eraseIdx (ys.idxOf z)) hH e ?_ (ys:=(ys.erase z).map V.str) ?_ ?_,rfl,q⟩
   · rw [List.eraseIdxIfInBounds_toArray]
   · have:=r.eraseIdx (ys.idxOf z)
     have e5:(ys.map V.str).eraseIdx (ys.idxOf z)=(ys.erase z).map V.str:=by
      rw [erase_map,erase_at]
     rw [e5]at this
     exact this
   · have:=List.length_erase_le (a:=z) (l:=ys)
     rw [List.length_map]at hs ⊢
     omega
noncomputable def gLst(K:PySem.W.Frag)(n:Nat)(t:TGs):TG:=fun v σ H Q=>∃a xs,v= .ref a∧SqL K H a xs∧xs.length=n∧t xs σ H Q
noncomputable def rIsB:R2:=fun x y H Q=>∃a b,x= .bl a∧y= .bl b∧Q (.bl (a==b)) H
noncomputable def rIsNB:R2:=fun x y H Q=>∃a b,x= .bl a∧y= .bl b∧Q (.bl (!(a==b))) H
theorem op_isnB:OpR X (compareOp .IsNot) rIsNB:=by
 intro pins s σ H x y v u Q I rx ry h
 obtain ⟨a,b,rfl,rfl,q⟩:=h
 cases rx
 cases ry
 have e:isSame (.bool a) (.bool b)=pure (a==b):=by cases a <;> cases b <;> rfl
 show wpAny _ _ (isSame (.bool a) (.bool b) >>=fun r=>pure (Value.bool (!r))) _ _ _
 rw [e]
 exact wpAny_pure ⟨.bl (!(a==b)),H,I,rfl,q⟩
end
section
variable {σ:St} {H:Hp} {Q:VK} {xs:List V} {x y:V}
theorem rd_glst{K:PySem.W.Frag}{n:Nat}{t:TGs}{v:V}{N:St→Hp→Prop}:gLst K n t v σ H N=∃a xs,v= .ref a∧SqL K H a xs∧xs.length=n∧t xs σ H N:=rfl
theorem rd_dpop1{td ty:TE}:tDPop1 td ty σ H Q=td σ H fun x H1=>∃a,x= .ref a∧IsD H1 a∧ty σ H1 fun y H2=>∃kvs k v,H2 a=some (.dK kvs)∧y=kV k∧valV kvs k=some v∧Q v (upd H2 a (.dK (dropK kvs k))):=rfl
theorem rd_dget2{td ty tx:TE}:tDGet2 td ty tx σ H Q=td σ H fun x H1=>∃a,x= .ref a∧IsD H1 a∧ty σ H1 fun y H2=>tx σ H2 fun z H3=>∃o,DGet H3 a y o∧Q (o.getD z) H3:=rfl
theorem rd_popAt:rPopAt x xs H Q=∃l ys i k y,x= .ref l∧xs=[.int i]∧H l=some (.lst ys)∧-(2 ^ 63)≤i∧i < 2 ^ 63∧seqIndex? i ys.length=some k∧ys[k]?=some y∧Q y (upd H l (.lst (ys.eraseIdx k))):=rfl
theorem rd_listD:rListD xs H Q=∃a kvs,xs=[.ref a]∧H a=some (.dK kvs)∧∀l,H l=none→Q (.ref l) (upd H l (.lst (kvs.map fun p=>kV p.1))):=rfl
theorem rd_values:rValues x xs H Q=∃a kvs,x= .ref a∧xs=[]∧H a=some (.dK kvs)∧∀v,H v=none→Q (.ref v) (upd H v (viewO v a)):=rfl
theorem rd_sumV:rSumV xs H Q=∃(v d:Addr) (kvs:List (Key×V)) (is:List Int),xs=[.ref v]∧H v=some (viewO v d)∧H d=some (.dK kvs)∧kvs.map (·.2)=is.map V.int∧Q (.int is.sum) H:=rfl
theorem rd_remove:rRemove x xs H Q=∃(l:Addr) (ys:List Str) (z:Str),x= .ref l∧xs=[.str z]∧H l=some (.lst (ys.map V.str))∧z∈ys∧Q .non (upd H l (.lst ((ys.erase z).map V.str))):=rfl
theorem rd_isB:rIsB x y H Q=∃a b,x= .bl a∧y= .bl b∧Q (.bl (a==b)) H:=rfl
theorem rd_isnB:rIsNB x y H Q=∃a b,x= .bl a∧y= .bl b∧Q (.bl (!(a==b))) H:=rfl
end
section
variable {i j:Int} {a b:Bool} {x y:Str}
theorem sc_nn:scal .non .non=true:=rfl
theorem sc_ni:scal .non (.int j)=true:=rfl
theorem sc_in:scal (.int i) .non=true:=rfl
theorem sc_nb:scal .non (.bl b)=true:=rfl
theorem sc_bn:scal (.bl a) .non=true:=rfl
theorem sc_ns:scal .non (.str y)=true:=rfl
theorem sc_sn:scal (.str x) .non=true:=rfl
theorem sc_ii:scal (.int i) (.int j)=true:=rfl
theorem sc_bb:scal (.bl a) (.bl b)=true:=rfl
theorem sc_ss:scal (.str x) (.str y)=true:=rfl
theorem sc_is:scal (.int i) (.str y)=true:=rfl
theorem sc_si:scal (.str x) (.int j)=true:=rfl
theorem sc_bs:scal (.bl a) (.str y)=true:=rfl
theorem sc_sb:scal (.str x) (.bl b)=true:=rfl
end
end L2
namespace N1
open PySem L2
noncomputable def letters:List Nat:=List.range' 97 26
noncomputable def figures:List Nat:=List.range' 48 10
theorem let_list:(Str.ofString "abcdefghijklmnopqrstuvwxyz").cps.toList=letters:=by decide+kernel
theorem fig_list:(Str.ofString "0123456789").cps.toList=figures:=by decide+kernel
theorem both_list:(Str.ofString "abcdefghijklmnopqrstuvwxyz0123456789").cps.toList=letters++figures:=by decide+kernel
theorem both_len:(letters++figures).length=36:=by decide
theorem mem_let{c:Nat}:c∈letters↔97≤c∧c < 123:=by unfold letters;rw [List.mem_range'_1]
theorem mem_fig{c:Nat}:c∈figures↔48≤c∧c < 58:=by unfold figures;rw [List.mem_range'_1]
noncomputable def headIn(l:List Nat)(s:List Nat):Bool:=match l with
 | []=>false
 | c::_=>decide (c∈s)
noncomputable def nameB(l:List Nat):Bool:=decide (1≤l.length) && decide (l.length≤8) && headIn l letters && l.all fun c=>decide (c∈letters++figures)
end N1
namespace N1
open PySem L2
noncomputable def tx(l:List Nat):Str:=⟨l.toArray⟩
theorem T_list{l:List Nat}:(tx l).cps.toList=l:=by simp [tx]
theorem T_eq{z:Str}:tx z.cps.toList=z:=by cases z;simp [tx]
theorem T_inj{a b:List Nat}(h:tx a=tx b):a=b:=by rw [← T_list (l:=a),h,T_list]
theorem T_app{a b:List Nat}:tx a++tx b=tx (a++b):=by
 have h:=app_list (a:=tx a) (b:=tx b)
 rw [T_list,T_list]at h
 rw [← T_eq (z:=tx a++tx b),h]
theorem T_len{l:List Nat}:(tx l).length=l.length:=by rw [← str_len,T_list]
theorem T_one{c:Nat}:(⟨#[c]⟩:Str)=tx [c]:=rfl
theorem T_nil:Str.ofString ""=tx []:=by decide+kernel
theorem T_empty:Str.empty=tx []:=by decide+kernel
theorem both_length:(Str.ofString "abcdefghijklmnopqrstuvwxyz0123456789").length=36:=by decide+kernel
noncomputable def bc(i:Int):Nat:=(letters++figures).getD i.toNat 0
theorem ix_bc(i:Int){k:Int}(h0:0 < k)(h1:k≤36):atI (Str.ofString "abcdefghijklmnopqrstuvwxyz0123456789").cps.toList (i % k)=some (bc (i % k)):=by
 have h2:=Int.emod_lt_of_pos i h0
 have h3:=Int.emod_nonneg i (show k≠0 by omega)
 refine atI_of h3 ?_
 have h4:(i % k).toNat < (letters++figures).length:=by rw [both_len];omega
 unfold bc
 rw [both_list,List.getD_eq_getElem?_getD,List.getElem?_eq_getElem h4]
 rfl
end N1
namespace N1
open L2
noncomputable def sp_cell(K:PySem.W.Frag):Sp:=fun vs H Q _=>∃(a:Addr) (ns:List Int) (k:Int),vs=[.ref a,.int k]∧SqL K H a (ns.map V.int)∧0≤k∧ns.length≤63∧Q (.int (ns.getD k.toNat 0)) H
noncomputable def sp_made:Sp:=fun vs H Q _=>∃(z w:Str),vs=[.str z,.str w]∧z.length≤sizeLine∧∀H',Same H H'→Q (.bl (z.cps.toList.all fun c=>decide (c∈w.cps.toList))) H'
noncomputable def sp_is_name(K:PySem.W.Frag):Sp:=fun vs H Q _=>∃(x:V),vs=[x]∧((∃z:Str,x= .str z∧z.length≤sizeLine∧∀H',Same H H'→Q (.bl (nameB z.cps.toList)) H')∨(Isi K H x "str" false∧Q (.bl false) H))
noncomputable def sp_law(K:PySem.W.Frag):Sp:=fun vs H Q _=>∃(a:Addr) (ns:List Int),vs=[.ref a]∧SqL K H a (ns.map V.int)∧ns.length≤63∧∀H',Q (.bl true) H'
end N1
namespace N1
open L2
inductive StE where
 | noname | twice | nonum | many
noncomputable def nOk:V→Bool
 | .str z=>nameB z.cps.toList
 | _=>false
noncomputable def sOf:V→Str
 | .str z=>z
 | _=>Str.empty
noncomputable def wIn(lo hi:Int):V→Bool
 | .int i=>decide (lo≤i) && decide (i≤hi)
 | _=>false
noncomputable abbrev Rw:=Addr×V×V×V
noncomputable def rowR(ks:List Str)(n c r:V):Option StE:=if nOk n=false then some .noname else if sOf n∈ks then some .twice else if wIn 0 (10 ^ 30) c=false then some .nonum else if wIn 1 1000 r=false then some .nonum else none
noncomputable def stockR(ks:List Str):List Rw→Option StE
 | []=>none
 | t::rs=>match rowR ks t.2.1 t.2.2.1 t.2.2.2 with
  | some e=>some e
  | none=>stockR (ks++[sOf t.2.1]) rs
noncomputable def initR(rs:List Rw):Option StE:=if 60 < rs.length then some .many else stockR [] rs
theorem num_isi{K:PySem.W.Frag}{H:Hp}{v:V}(h:flatV v=true):∃b c,Isi K H v "int" b∧(b=true→Isi K H v "bool" c)∧((b && !c)=true→∃i,v= .int i)∧((b && !c)=false→∀i,v≠ .int i):=by
 cases v with
 | non=>exact ⟨false,false,isi_ni,fun h=>by (cases h),fun h=>by (cases h),fun _ i h=>by cases h⟩
 | bl b=>exact ⟨true,true,isi_bi,fun _=>isi_bb,fun h=>by (cases h),fun _ i h=>by cases h⟩
 | int i=>exact ⟨true,false,isi_ii,fun _=>isi_ib,fun _=>⟨i,rfl⟩,fun h=>by cases h⟩
 | str z=>exact ⟨false,false,isi_si,fun h=>by (cases h),fun h=>by (cases h),fun _ i h=>by cases h⟩
 | _=>cases h
noncomputable def sp_is_whole(K:PySem.W.Frag):Sp:=fun vs H Q _=>∃(x:V) (b c:Bool),vs=[x]∧Isi K H x "int" b∧(b=true→Isi K H x "bool" c)∧Q (.bl (b && !c)) H
noncomputable def sp_within(K:PySem.W.Frag):Sp:=fun vs H Q _=>∃(v:V) (lo hi:Int),vs=[v,.int lo,.int hi]∧flatV v=true∧Q (.bl (wIn lo hi v)) H
noncomputable def SameBut(p:Addr)(H H':Hp):Prop:=∀b o,H b=some o→b≠p→H' b=some o
theorem sameBut_upd{p:Addr}{H:Hp}{o:HO}:SameBut p H (upd H p o):=fun b u e n=>by rw [upd_ne n];exact e
noncomputable abbrev Th:=Str×Int×Int
noncomputable def flds(d:Addr):List (Str×V):=putF "things" (.ref d) []
structure StockAt(K:PySem.W.Frag)(C:Addr)(H:Hp)(p:Addr)(ts:List Th):Prop where
 ex:∃(dx d:Addr) (kvs:List (Key×V)),H p=some (.ins C dx (flds d))∧H d=some (.dK kvs)∧kvs.map (·.1)=ts.map (fun t=>Sum.inr t.1)∧
  ∀(i:Nat) (t:Th),ts[i]?=some t→∃a,kvs[i]?=some (Sum.inr t.1,.ref a)∧SqT K H a [.int i,.int t.2.1,.int t.2.2]
theorem StockAt.same{K:PySem.W.Frag}{C:Addr}{H H':Hp}{p:Addr}{ts:List Th}(s:Same H H')(h:StockAt K C H p ts):StockAt K C H' p ts:=by
 obtain ⟨dx,d,kvs,h1,h2,h3,h4⟩:=h.ex
 refine ⟨dx,d,kvs,s _ _ h1,s _ _ h2,h3,fun i t e=>?_⟩
 obtain ⟨a,e1,e2⟩:=h4 i t e
 exact ⟨a,e1,s.tup e2⟩
noncomputable def iOf:V→Int
 | .int i=>i
 | _=>0
noncomputable def thOf(t:Rw):Th:=(sOf t.2.1,iOf t.2.2.1,iOf t.2.2.2)
theorem SqT.but{K:PySem.W.Frag}{H H':Hp}{p a C dx:Addr}{fs:List (Str×V)}{xs:List V}(s:SameBut p H H')(hp:H p=some (.ins C dx fs))(h:SqT K H a xs):SqT K H' a xs:=by
 rcases h with (h | ⟨o,h⟩) | h
 · exact .inl (.inl (s _ _ h (ne_of h hp (by intro z;cases z))))
 · exact .inl (.inr ⟨o,s _ _ h (ne_of h hp (by intro z;cases z))⟩)
 · exact .inr h
theorem SqL.but{K:PySem.W.Frag}{H H':Hp}{p a C dx:Addr}{fs:List (Str×V)}{xs:List V}(s:SameBut p H H')(hp:H p=some (.ins C dx fs))(h:SqL K H a xs):SqL K H' a xs:=by
 rcases h with (h | ⟨o,h⟩) | h
 · exact .inl (.inl (s _ _ h (ne_of h hp (by intro z;cases z))))
 · exact .inl (.inr ⟨o,s _ _ h (ne_of h hp (by intro z;cases z))⟩)
 · exact .inr h
theorem key_mem{kvs:List (Key×V)}{ks:List Str}{z:Str}(h:kvs.map (·.1)=ks.map Sum.inr):(valV kvs (Sum.inr z)).isSome=decide (z∈ks):=by
 have e:(Sum.inr z:Key)∈kvs.map (·.1)↔z∈ks:=by
  rw [h,List.mem_map]
  constructor
  · rintro ⟨a,ha,e⟩;injection e with e;subst e;exact ha
  · intro h;exact ⟨z,h,rfl⟩
 cases hv:valV kvs (Sum.inr z:Key) with
 | none=>rw [decide_eq_false fun q=>valV_not hv (e.mpr q)];rfl
 | some v=>rw [decide_eq_true (e.mp (valV_in hv))];rfl
theorem flds_things{d:Addr}:(flds d).lookup ("things":Str)=some (V.ref d):=by
 unfold flds
 rw [lookup_putF,if_pos rfl]
theorem rowR_none{ks:List Str}{n co r:V}(h:rowR ks n co r=none):∃z c q,n= .str z∧co= .int c∧r= .int q∧¬z∈ks∧nameB z.cps.toList=true∧0≤c∧c≤10 ^ 30∧1≤q∧q≤1000:=by
 unfold rowR at h
 split at h
 · cases h
 rename_i h1
 split at h
 · cases h
 rename_i h2
 split at h
 · cases h
 rename_i h3
 split at h
 · cases h
 rename_i h4
 cases n with
 | str z=>
  cases co with
  | int c=>
   cases r with
   | int q=>
    simp only [wIn,Bool.and_eq_false_iff,decide_eq_false_iff_not,not_or,Decidable.not_not]at h3 h4
    exact ⟨z,c,q,rfl,rfl,rfl,h2,by simpa [nOk] using h1,h3.1,h3.2,h4.1,h4.2⟩
   | _=>exact absurd rfl h4
  | _=>exact absurd rfl h3
 | _=>exact absurd rfl h1
theorem stockR_step{ks:List Str}{rs:List Rw}{i:Nat}{t:Rw}(h:rs[i]?=some t):stockR ks (rs.drop i)=match rowR ks t.2.1 t.2.2.1 t.2.2.2 with
 | some e=>some e
 | none=>stockR (ks++[sOf t.2.1]) (rs.drop (i+1)):=by
 have e:rs.drop i=t::rs.drop (i+1):=by
  obtain ⟨hi,rfl⟩:=List.getElem?_eq_some_iff.mp h
  exact List.drop_eq_getElem_cons hi
 rw [e]
 rfl
noncomputable def nmsOf(rs:List Rw):List Str:=rs.map fun t=>sOf t.2.1
structure MidAt(K:PySem.W.Frag)(H:Hp)(d:Addr)(rs:List Rw):Prop where
 ex:∃kvs:List (Key×V),H d=some (.dK kvs)∧kvs.map (·.1)=(nmsOf rs).map Sum.inr∧∀(j:Nat) (t:Rw),rs[j]?=some t→∃a,kvs[j]?=some (Sum.inr (sOf t.2.1),.ref a)∧SqT K H a [.int j,.int (iOf t.2.2.1),.int (iOf t.2.2.2)]
theorem MidAt.snoc{K:PySem.W.Frag}{H:Hp}{d a:Addr}{rs:List Rw}{t:Rw}{kvs:List (Key×V)}{c q:Int}{z:Str}(h1:H d=some (.dK kvs))(h2:kvs.map (·.1)=(nmsOf rs).map Sum.inr)
 (h3:∀(j:Nat) (t:Rw),rs[j]?=some t→∃a,kvs[j]?=some (Sum.inr (sOf t.2.1),.ref a)∧SqT K H a [.int j,.int (iOf t.2.2.1),.int (iOf t.2.2.2)])
 (e1:t.2.1= .str z) (e2:t.2.2.1= .int c) (e3:t.2.2.2= .int q) (nz:¬z∈nmsOf rs) (ha:H a=some (.tup [.int kvs.length,.int c,.int q])):
 MidAt K (upd H d (.dK (putK kvs (Sum.inr z) (.ref a)))) d (rs++[t]):=by
 have hl:kvs.length=rs.length:=by
  have:=congrArg List.length h2
  simpa [nmsOf] using this
 have hv:valV kvs (Sum.inr z:Key)=none:=by
  have:=key_mem (z:=z) h2
  rw [decide_eq_false nz]at this
  cases h:valV kvs (Sum.inr z:Key) with
  | none=>rfl
  | some v=>rw [h]at this;cases this
 have keep2:∀{b:Addr} {xs:List V} {o:List (Key×V)},SqT K H b xs→SqT K (upd H d (.dK o)) b xs:=fun {b xs o} h=>by
  rcases h with (h | ⟨o',h⟩) | h
  · exact .inl (.inl (by rw [upd_ne (ne_of h h1 (by intro z;cases z))];exact h))
  · exact .inl (.inr ⟨_,by rw [upd_ne (ne_of h h1 (by intro z;cases z))];exact h⟩)
  · exact .inr h
 refine ⟨_,upd_same,?_,fun j t' hj=>?_⟩
 · rw [putK_new _ hv,List.map_append,h2]
   simp [nmsOf,e1,sOf]
 · rw [putK_new _ hv]
   by_cases hlt:j < rs.length
   · rw [List.getElem?_append_left hlt]at hj
     obtain ⟨b,e,hb⟩:=h3 j t' hj
     exact ⟨b,by rw [List.getElem?_append_left (by omega)];exact e,keep2 hb⟩
   · rw [List.getElem?_append_right (by omega)]at hj
     have hj0:j - rs.length=0:=by
      have:=(List.getElem?_eq_some_iff.mp hj).1
      simp at this;omega
     rw [hj0]at hj
     cases hj
     have ej:j=rs.length:=by omega
     subst ej
     refine ⟨a,?_,?_⟩
     · rw [← hl,List.getElem?_append_right (by omega)];simp [e1,sOf]
     · rw [e2,e3]
       refine keep2 (SqT.of ?_)
       rw [ha,hl];rfl
end N1
namespace L2
section
variable {X:Cx} {pins:List (Addr×Obj)} {σ:St} {H:Hp} {s:Shared}
theorem pa_consK{c:Const}{j pos}{es:List Expr}{te:TE}{t:TA}(ha:PE X (.Constant c j pos) te)(hr:PA X es t):PA X (.Constant c j pos::es) (tCons te t):=pa_cons ha hr rfl
theorem pa_consB{o j}{a b:Expr}{es:List Expr}{te:TE}{t:TA}(ha:PE X (.BinOp a o b j) te)(hr:PA X es t):PA X (.BinOp a o b j::es) (tCons te t):=pa_cons ha hr rfl
theorem pa_consT{x j}{l es:List Expr}{te:TE}{t:TA}(ha:PE X (.Tuple l x j) te)(hr:PA X es t):PA X (.Tuple l x j::es) (tCons te t):=pa_cons ha hr rfl
end
theorem rd_setL{o i v:V}{H:Hp}{Q:Hp→Prop}:rSetL o i v H Q=∃p xs k j,o= .ref p∧i= .int k∧H p=some (.lst xs)∧ixN xs.length k=some j∧Q (upd H p (.lst (xs.set j v))):=rfl
end L2
namespace N5
open L2 N1
noncomputable def md(j:Nat):Int:=if j=0 then 26 else 36
theorem bc_let{i:Int}:bc (i % 26)∈letters:=by
 have h1:=Int.emod_nonneg i (show (26:Int)≠0 by decide)
 have h2:=Int.emod_lt_of_pos i (show (0:Int) < 26 by decide)
 unfold bc
 generalize i % 26=x at *
 have h3:x.toNat < letters.length:=by simp [letters];omega
 rw [List.getD_eq_getElem?_getD,List.getElem?_append_left h3,List.getElem?_eq_getElem h3]
 exact List.getElem_mem h3
theorem bc_both{i:Int}:bc (i % 36)∈letters++figures:=by
 have h1:=Int.emod_nonneg i (show (36:Int)≠0 by decide)
 have h2:=Int.emod_lt_of_pos i (show (0:Int) < 36 by decide)
 unfold bc
 generalize i % 36=x at *
 have h3:x.toNat < (letters++figures).length:=by rw [both_len];omega
 rw [List.getD_eq_getElem?_getD,List.getElem?_eq_getElem h3]
 exact List.getElem_mem h3
theorem bc_inj{x y:Int}(hx0:0≤x)(hx:x < 36)(hy0:0≤y)(hy:y < 36)(h:bc x=bc y):x=y:=by
 have key:∀a:Fin 36,∀b:Fin 36,(letters++figures).getD a.val 0=(letters++figures).getD b.val 0→a=b:=by decide+kernel
 have:=key ⟨x.toNat,by omega⟩ ⟨y.toNat,by omega⟩ h
 have:=congrArg Fin.val this
 simp at this
 omega
theorem ne1:Str.ofString "no name"≠Str.ofString "nothing":=by decide+kernel
theorem SqT.butL{K:PySem.W.Frag}{H H':Hp}{p a:Addr}{zs:List V}{xs:List V}(s:SameBut p H H')(hp:H p=some (.lst zs))(h:SqT K H a xs):SqT K H' a xs:=by
 rcases h with (h | ⟨o,h⟩) | h
 · exact .inl (.inl (s _ _ h (ne_of h hp (by intro z;cases z))))
 · exact .inl (.inr ⟨o,s _ _ h (ne_of h hp (by intro z;cases z))⟩)
 · exact .inr h
theorem same_made{H H':Hp}{x dx C:Addr}(hx:H x=none)(hd:H dx=none)(s:SameBut x (upd (upd H dx (.own x)) x (.ins C dx [])) H'):Same H H':=fun b o e=>by
 have n1:=ne_of_none e hx
 have n2:=ne_of_none e hd
 exact s b o (by rw [upd_ne n1,upd_ne n2];exact e) n1
theorem name_len{z:Str}(h:nameB z.cps.toList=true):z.length≤8:=by
 unfold nameB at h
 simp only [Bool.and_eq_true,decide_eq_true_eq]at h
 have:=h.1.1.2
 rw [str_len]at this;exact this
end N5
namespace L2
open N1 N5
section
variable {K:PySem.W.Frag} {tail:St} {te:Blk→TE} {Q:VK} {H1:Hp}
theorem compL_ix{a:Addr}{xs:List V}(f:Nat→V)(hS:SqL K H1 a xs)(hz:xs.length≤sizeLine)(he:∀b i x H Q',xs[i]?=some x→Same H1 H→Q' (f i) H→te b (some x::tail) H Q')
 (q:∀D,H1 D=none→Q (.ref D) (upd H1 D (.lst ((List.range xs.length).map f)))):CompTail (none::tail) (fun _=>gName 0) (fun _=>tYes) te Q (Itl K a) H1:=by
 refine comp_by xs.length (fun b D hD=>⟨fun i ys H=>i≤xs.length∧ys=(List.range i).map f∧H=upd H1 D (.lst ys),⟨Nat.zero_le _,rfl,rfl⟩,?_,?_,?_⟩)
 · rintro i ys H ⟨hi,rfl,rfl⟩
   exact upd_same
 · rintro ys H ⟨_,rfl,rfl⟩
   exact ⟨⟨xs,(same_new hD).seq hS,Nat.le_refl _⟩,q D hD⟩
 · rintro i ys H hi ⟨_,rfl,rfl⟩
   refine ⟨⟨xs,xs[i],(same_new hD).seq hS,by simp [hi]⟩,fun x H3 ⟨e3,ex⟩=>?_⟩
   subst e3
   refine he b i x _ _ (ex xs ((same_new hD).seq hS)) (same_new hD) (compNext upd_same (by rw [List.length_map,List.length_range];omega) hi ⟨hi,?_,?_⟩)
   · rw [List.range_succ];simp
   · funext a;by_cases ha:a=D <;> simp [upd,ha]
noncomputable def OffLists(P:V→Hp→Prop):Prop:=∀y H H' l zs,P y H→H l=some (.lst zs)→SameBut l H H'→P y H'
theorem compR_mk{lo:Int}{n:Nat}(P:Nat→V→Hp→Prop)(hP:∀i,OffLists (P i))(hz:n≤sizeLine)(he:∀b (i:Nat) H Q',i < n→Same H1 H→(∀y H',Same H H'→P i y H'→Q' y H')→te b (some (.int (lo+i))::tail) H Q')
 (q:∀D ys H',H1 D=none→Same H1 H'→H' D=some (.lst ys)→ys.length=n→(∀i y,ys[i]?=some y→P i y H')→Q (.ref D) H'):CompTail (none::tail) (fun _=>gName 0) (fun _=>tYes) te Q (Itr lo n) H1:=by
 refine comp_by n (fun b D hD=>⟨fun i ys H=>i≤n∧ys.length=i∧H D=some (.lst ys)∧Same H1 H∧∀j y,ys[j]?=some y→P j y H,⟨Nat.zero_le _,rfl,upd_same,same_new hD,fun j y e=>by simp at e⟩,?_,?_,?_⟩)
 · rintro i ys H ⟨hi,_,h,_⟩
   exact h
 · rintro ys H ⟨_,hl,h,sm,hall⟩
   exact ⟨Nat.le_refl _,q D ys H hD sm h hl hall⟩
 · rintro i ys H hi ⟨_,hl,h,sm,hall⟩
   refine ⟨hi,fun x H3 ⟨e3,ex⟩=>?_⟩
   subst e3 ex
   refine he b i _ _ hi sm fun y H4 sm4 py=>?_
   have h4:=sm4 _ _ h
   have sb:SameBut D H4 (upd H4 D (.lst (ys++[y]))):=sameBut_upd
   refine compNext h4 (by omega) hi ⟨hi,by rw [List.length_append,hl];rfl,upd_same,fun c o e=>?_,fun j y' e=>?_⟩
   · rw [upd_ne (ne_of_none e hD)];exact sm4 _ _ (sm _ _ e)
   · by_cases hj:j < ys.length
     · rw [List.getElem?_append_left hj]at e
       have:=hall j y' e
       exact hP j _ _ _ _ _ this h fun c o e n=>by rw [upd_ne n];exact sm4 _ _ e
     · rw [List.getElem?_append_right (by omega)]at e
       have hj0:j=i:=by have:=(List.getElem?_eq_some_iff.mp e).1;simp at this;omega
       subst hj0
       rw [show j - ys.length=0 by omega]at e
       cases e
       exact hP j _ _ _ _ _ py h4 sb
end
end L2
namespace N4
open L2 N1 N5
noncomputable def unkF(n p:V):List (Str×V):=putF "place" p (putF "name" n [])
theorem unk_name{n p:V}:(unkF n p).lookup ("name":Str)=some n:=by
 unfold unkF
 rw [lookup_putF,if_neg (by decide),lookup_putF,if_pos rfl]
theorem unk_place{n p:V}:(unkF n p).lookup ("place":Str)=some p:=by
 unfold unkF
 rw [lookup_putF,if_pos rfl]
noncomputable def ErrU(C:Addr)(H:Hp)(x:Addr)(n p:V):Prop:=∃dx,H x=some (exO false x C (some dx))∧H dx=some (exD dx (unkF n p))
noncomputable def sp_unk(C:Addr):Sp:=fun vs H Q _=>∃(x:Addr) (n p:V) (nw:Bool),vs=[.ref x,n,p]∧H x=some (exO nw x C none)∧∀dx,H dx=none→Q .non (upd (upd H x (exO nw x C (some dx))) dx (exD dx (unkF n p)))
noncomputable def sp_checkG(K:PySem.W.Frag):Sp:=fun vs H Q _=>∃(n co r:V) (e:Addr) (kvs:List (Key×V)) (ks:List Str),vs=[n,co,r,.ref e]∧H e=some (.dK kvs)∧kvs.map (·.1)=ks.map Sum.inr∧rowR ks n co r=none∧∀H',Same H H'→Q .non H'
noncomputable def sp_initG(K:PySem.W.Frag)(C:Addr):Sp:=fun vs H Q _=>∃(p dx ra:Addr) (rs:List Rw),vs=[.ref p,.ref ra]∧H p=some (.ins C dx [])∧SqL K H ra (rs.map fun t=>V.ref t.1)∧(∀t∈rs,SqT K H t.1 [t.2.1,t.2.2.1,t.2.2.2])∧initR rs=none∧
 ∀H',SameBut p H H'→StockAt K C H' p (rs.map thOf)→Q .non H'
theorem initR_none{rs:List Rw}(h:initR rs=none):rs.length≤60∧stockR [] rs=none:=by
 unfold initR at h
 split at h
 · cases h
 · exact ⟨by omega,h⟩
theorem wIn_ok{lo hi c:Int}(h1:lo≤c)(h2:c≤hi):wIn lo hi (.int c)=true:=by
 show (decide (lo≤c) && decide (c≤hi))=true
 rw [decide_eq_true h1,decide_eq_true h2];rfl
theorem stockR_ok:∀(rs:List Rw) (ks:List Str),(∀t∈rs,∃z c q,t.2.1= .str z∧t.2.2.1= .int c∧t.2.2.2= .int q∧nameB z.cps.toList=true∧0≤c∧c≤10 ^ 30∧1≤q∧q≤1000)→(ks++rs.map fun t=>sOf t.2.1).Nodup→stockR ks rs=none
 | [],_,_,_=>rfl
 | t::rs,ks,h,nd=>by
  obtain ⟨z,c,q,e1,e2,e3,hn,h1,h2,h3,h4⟩:=h t (List.mem_cons_self ..)
  have hz:¬z∈ks:=fun hz=>by
   rw [List.map_cons,List.nodup_append]at nd
   exact nd.2.2 z hz (sOf t.2.1) (List.mem_cons_self ..) (by rw [e1];rfl)
  have r0:rowR ks t.2.1 t.2.2.1 t.2.2.2=none:=by
   unfold rowR
   rw [e1,e2,e3]
   rw [if_neg (by show ¬nameB z.cps.toList=false;rw [hn];decide),if_neg (show ¬sOf (.str z)∈ks from hz),if_neg (by rw [wIn_ok h1 h2];decide),if_neg (by rw [wIn_ok h3 h4];decide)]
  unfold stockR
  rw [r0]
  refine stockR_ok rs _ (fun t' ht=>h t' (List.mem_cons_of_mem _ ht)) ?_
  rw [List.append_assoc]
  exact nd
theorem valV_nth{kvs:List (Key×V)}{i:Nat}{k:Key}{v:V}(nd:(kvs.map (·.1)).Nodup)(e:kvs[i]?=some (k,v)):valV kvs k=some v:=by
 induction kvs generalizing i with
 | nil=>rw [List.getElem?_nil]at e;cases e
 | cons p r ih=>
  cases i with
  | zero=>cases e;exact valV_pos rfl
  | succ i=>
   rw [List.map_cons,List.nodup_cons]at nd
   have hm:(k,v)∈r:=List.mem_of_getElem? e
   rw [valV_neg (fun z=>nd.1 (by rw [z];exact List.mem_map_of_mem (f:=(·.1)) hm))]
   exact ih nd.2 e
theorem inr_nodup{ks:List Str}(h:ks.Nodup):(ks.map (Sum.inr:Str→Key)).Nodup:=by
 unfold List.Nodup at *
 rw [List.pairwise_map]
 exact h.imp fun n e=>n (by injection e)
section
variable {K:PySem.W.Frag} {C:Addr} {H H':Hp} {p:Addr} {ts:List Th} {z:Str}
theorem StockAt.has(h:StockAt K C H p ts):∃dx d kvs,H p=some (.ins C dx (flds d))∧H d=some (.dK kvs)∧(kvs.map fun q=>kV q.1)=ts.map (fun t=>V.str t.1)∧(∀z,(valV kvs (Sum.inr z)).isSome=decide (z∈ts.map (·.1)))∧
 ((ts.map (·.1)).Nodup→∀(i:Nat) (t:Th),ts[i]?=some t→∃a,valV kvs (Sum.inr t.1)=some (.ref a)∧SqT K H a [.int i,.int t.2.1,.int t.2.2]):=by
 obtain ⟨dx,d,kvs,h1,h2,h3,h4⟩:=h.ex
 have h3':kvs.map (·.1)=(ts.map (·.1)).map Sum.inr:=by rw [h3,List.map_map];rfl
 refine ⟨dx,d,kvs,h1,h2,?_,fun z=>key_mem h3',fun nd i t e=>?_⟩
 · have:=congrArg (List.map kV) h3
   rw [List.map_map,List.map_map]at this
   exact this
 · obtain ⟨a,e1,e2⟩:=h4 i t e
   exact ⟨a,valV_nth (by rw [h3'];exact inr_nodup nd) e1,e2⟩
end
noncomputable def pick(w:Nat)(i:Nat)(t:Th):Int:=if w=0 then i else if w=1 then t.2.1 else t.2.2
noncomputable def sp_has(K:PySem.W.Frag)(C:Addr):Sp:=fun vs H Q _=>∃(p:Addr) (ts:List Th) (z:Str),vs=[.ref p,.str z]∧StockAt K C H p ts∧Q (.bl (decide (z∈ts.map (·.1)))) H
noncomputable def sp_nms(K:PySem.W.Frag)(C:Addr):Sp:=fun vs H Q _=>∃(p:Addr) (ts:List Th),vs=[.ref p]∧StockAt K C H p ts∧∀l,H l=none→Q (.ref l) (upd H l (.lst ((ts.map (·.1)).map V.str)))
theorem mem_nth{ts:List Th}{z:Str}(h:z∈ts.map (·.1)):∃(i:Nat) (t:Th),ts[i]?=some t∧t.1=z:=by
 obtain ⟨t,ht,e⟩:=List.mem_map.mp h
 obtain ⟨i,hi⟩:=List.mem_iff_getElem?.mp ht
 exact ⟨i,t,hi,e⟩
end N4
namespace N4
open L2 N1 N5
noncomputable def nm1(c:Int)(G:Nat→Int)(k:Nat):List Nat:=bc ((c+k / 8) % 26)::((List.range 7).map fun j=>bc (G j % 36)).take (k % 8)
theorem nm1_name{c:Int}{G:Nat→Int}{k:Nat}:nameB (nm1 c G k)=true:=by
 have hall:∀x∈nm1 c G k,x∈letters++figures:=by
  intro x hx
  rcases List.mem_cons.mp hx with rfl | hx
  · exact List.mem_append_left _ bc_let
  · obtain ⟨j,_,rfl⟩:=List.mem_map.mp (List.mem_of_mem_take hx)
    exact bc_both
 have hl:(nm1 c G k).length≤8:=by simp [nm1];omega
 have hl1:1≤(nm1 c G k).length:=by simp [nm1]
 unfold nameB
 rw [decide_eq_true hl1,decide_eq_true hl]
 simp only [Bool.true_and]
 rw [show headIn (nm1 c G k) letters=true from decide_eq_true bc_let,Bool.true_and]
 exact List.all_eq_true.mpr fun x hx=>decide_eq_true (hall x hx)
theorem nm1_inj{c:Int}{G:Nat→Int}{k k':Nat}(hk:k < 61)(hk':k' < 61)(h:nm1 c G k=nm1 c G k'):k=k':=by
 unfold nm1 at h
 injection h with h1 h2
 have e1:=bc_inj (by omega) (by omega) (by omega) (by omega) h1
 have e2:=congrArg List.length h2
 simp only [List.length_take,List.length_map,List.length_range]at e2
 omega
theorem tx_nodup{f:Nat→List Nat}{m:Nat}(h:∀a b,a < m→b < m→f a=f b→a=b):((List.range m).map fun k=>tx (f k)).Nodup:=by
 unfold List.Nodup
 rw [List.pairwise_map]
 refine List.Pairwise.imp_of_mem (R:=fun a b=>a≠b) ?_ List.nodup_range
 intro a b ha hb ne e
 exact ne (h a b (List.mem_range.mp ha) (List.mem_range.mp hb) (T_inj e))
structure RowsAt(K:PySem.W.Frag)(H:Hp)(r:Addr)(as:List Addr)(ts:List Th):Prop where
 l:SqL K H r (as.map V.ref)
 n:as.length=ts.length
 m:ts.length≤60
 at_:∀(i:Nat) (a:Addr) (t:Th),as[i]?=some a→ts[i]?=some t→SqT K H a [.str t.1,.int t.2.1,.int t.2.2]
 ok:∀t∈ts,nameB t.1.cps.toList=true∧0≤t.2.1∧t.2.1≤10 ^ 30∧1≤t.2.2∧t.2.2≤1000
 nd:(ts.map (·.1)).Nodup
theorem RowsAt.same{K:PySem.W.Frag}{H H':Hp}{r:Addr}{as:List Addr}{ts:List Th}(s:Same H H')(h:RowsAt K H r as ts):RowsAt K H' r as ts:=
 ⟨s.seq h.l,h.n,h.m,fun i a t e1 e2=>s.tup (h.at_ i a t e1 e2),h.ok,h.nd⟩
theorem slice_to{l:List Nat}{n:Int}(h0:0≤n)(h1:n≤l.length):Txt.slice (tx l) none (some n)=tx (l.take n.toNat):=by
 have h:=slice_closes_toL (x:=tx l) h0 (by rw [T_len];exact h1)
 rw [beq_iff_eq.mp h,T_list]
 show tx _=tx _
 rw [show (0:Int).toNat=0 from rfl,List.drop_zero,Int.sub_zero]
noncomputable def rwOf(a:Addr)(t:Th):Rw:=(a,.str t.1,.int t.2.1,.int t.2.2)
theorem RowsAt.init{K:PySem.W.Frag}{H:Hp}{r:Addr}{as:List Addr}{ts:List Th}(h:RowsAt K H r as ts):∃rs:List Rw,rs.map (fun t=>V.ref t.1)=as.map V.ref∧(∀t∈rs,SqT K H t.1 [t.2.1,t.2.2.1,t.2.2.2])∧initR rs=none∧rs.map thOf=ts:=by
 have hn:=h.n
 have gt:∀(i:Nat) (x:Addr×Th),(as.zip ts)[i]?=some x→as[i]?=some x.1∧ts[i]?=some x.2:=fun i x e=>by
  rw [List.getElem?_zip_eq_some]at e;exact e
 have e1:((as.zip ts).map fun x=>rwOf x.1 x.2).map thOf=ts:=by
  rw [List.map_map]
  have:(thOf∘fun x:Addr×Th=>rwOf x.1 x.2)=Prod.snd:=by funext x;rfl
  rw [this,List.map_snd_zip (by omega)]
 refine ⟨(as.zip ts).map fun x=>rwOf x.1 x.2,?_,?_,?_,e1⟩
 · rw [List.map_map]
   have:((fun t:Rw=>V.ref t.1)∘fun x:Addr×Th=>rwOf x.1 x.2)=V.ref∘Prod.fst:=by funext x;rfl
   rw [this,← List.map_map,List.map_fst_zip (by omega)]
 · intro t ht
   obtain ⟨x,hx,rfl⟩:=List.mem_map.mp ht
   obtain ⟨i,hi⟩:=List.mem_iff_getElem?.mp hx
   obtain ⟨h1,h2⟩:=gt i x hi
   exact h.at_ i x.1 x.2 h1 h2
 · unfold initR
   rw [if_neg (by rw [List.length_map,List.length_zip];have:=h.m;omega)]
   refine stockR_ok _ _ (fun t ht=>?_) ?_
   · obtain ⟨x,hx,rfl⟩:=List.mem_map.mp ht
     obtain ⟨i,hi⟩:=List.mem_iff_getElem?.mp hx
     obtain ⟨h1,h2⟩:=gt i x hi
     obtain ⟨o1,o2,o3,o4,o5⟩:=h.ok x.2 (List.mem_of_getElem? h2)
     exact ⟨x.2.1,x.2.2.1,x.2.2.2,rfl,rfl,rfl,o1,o2,o3,o4,o5⟩
   · rw [List.nil_append,List.map_map]
     have:((fun t:Rw=>sOf t.2.1)∘fun x:Addr×Th=>rwOf x.1 x.2)=(fun t:Th=>t.1)∘Prod.snd:=by funext x;rfl
     rw [this,← List.map_map,List.map_snd_zip (by omega)]
     exact h.nd
end N4
namespace N6
open L2 N1 N5 N4
noncomputable def sfl(p d:Addr)(n:Int):List (Str×V):=putF "rooms" (.ref d) (putF "places" (.int n) (putF "stock" (.ref p) []))
theorem sfl_stock{p d:Addr}{n:Int}:(sfl p d n).lookup ("stock":Str)=some (V.ref p):=by
 unfold sfl
 rw [lookup_putF,if_neg (by decide),lookup_putF,if_neg (by decide),lookup_putF,if_pos rfl]
theorem sfl_places{p d:Addr}{n:Int}:(sfl p d n).lookup ("places":Str)=some (V.int n):=by
 unfold sfl
 rw [lookup_putF,if_neg (by decide),lookup_putF,if_pos rfl]
theorem sfl_rooms{p d:Addr}{n:Int}:(sfl p d n).lookup ("rooms":Str)=some (V.ref d):=by
 unfold sfl
 rw [lookup_putF,if_pos rfl]
noncomputable abbrev Ly:=List (Str×Int)
noncomputable def lyK(ls:Ly):List (Key×V):=ls.map fun x=>(Sum.inr x.1,.int x.2)
noncomputable def lyN(ls:Ly):List Str:=ls.map (·.1)
noncomputable def lyS(ls:Ly):Int:=(ls.map (·.2)).sum
structure ShelfAt(S:Addr)(H:Hp)(q p d:Addr)(n:Int)(ls:Ly):Prop where
 o:∃dx,H q=some (.ins S dx (sfl p d n))
 d:H d=some (.dK (lyK ls))
 nd:(lyN ls).Nodup
theorem ShelfAt.same{S:Addr}{H H':Hp}{q p d:Addr}{n:Int}{ls:Ly}(s:Same H H')(h:ShelfAt S H q p d n ls):ShelfAt S H' q p d n ls:=
 ⟨h.o.imp fun _ e=>s _ _ e,s _ _ h.d,h.nd⟩
structure StockX(K:PySem.W.Frag)(C:Addr)(H:Hp)(p:Addr)(ts:List Th)(d:Addr):Prop where
 ex:∃(dx e:Addr) (kvs:List (Key×V)),e≠d∧H p=some (.ins C dx (flds e))∧H e=some (.dK kvs)∧kvs.map (·.1)=ts.map (fun t=>Sum.inr t.1)∧
  ∀(i:Nat) (t:Th),ts[i]?=some t→∃a,kvs[i]?=some (Sum.inr t.1,.ref a)∧SqT K H a [.int i,.int t.2.1,.int t.2.2]
section
variable {K:PySem.W.Frag} {C S:Addr} {H H':Hp} {p q d:Addr} {ts:List Th} {n:Int} {ls:Ly} {z:Str}
theorem StockX.at(h:StockX K C H p ts d):StockAt K C H p ts:=by
 obtain ⟨dx,e,kvs,_,r⟩:=h.ex
 exact ⟨dx,e,kvs,r⟩
theorem StockX.of(h:StockAt K C H p ts)(hd:H d=none):StockX K C H p ts d:=by
 obtain ⟨dx,e,kvs,h1,h2,r⟩:=h.ex
 exact ⟨dx,e,kvs,ne_of_none h2 hd,h1,h2,r⟩
theorem StockX.same(s:Same H H')(h:StockX K C H p ts d):StockX K C H' p ts d:=by
 obtain ⟨dx,e,kvs,n,h1,h2,h3,h4⟩:=h.ex
 refine ⟨dx,e,kvs,n,s _ _ h1,s _ _ h2,h3,fun i t q=>?_⟩
 obtain ⟨a,e1,e2⟩:=h4 i t q
 exact ⟨a,e1,s.tup e2⟩
theorem SqT.butD{a:Addr}{xs:List V}{kvs:List (Key×V)}(s:SameBut d H H')(hd:H d=some (.dK kvs))(h:SqT K H a xs):SqT K H' a xs:=by
 rcases h with (h | ⟨o,h⟩) | h
 · exact .inl (.inl (s _ _ h (ne_of h hd (by intro z;cases z))))
 · exact .inl (.inr ⟨o,s _ _ h (ne_of h hd (by intro z;cases z))⟩)
 · exact .inr h
theorem SqL.butD{a:Addr}{xs:List V}{kvs:List (Key×V)}(s:SameBut d H H')(hd:H d=some (.dK kvs))(h:SqL K H a xs):SqL K H' a xs:=by
 rcases h with (h | ⟨o,h⟩) | h
 · exact .inl (.inl (s _ _ h (ne_of h hd (by intro z;cases z))))
 · exact .inl (.inr ⟨o,s _ _ h (ne_of h hd (by intro z;cases z))⟩)
 · exact .inr h
theorem ShelfAt.butL{l:Addr}{zs:List V}(s:SameBut l H H')(hl:H l=some (.lst zs))(h:ShelfAt S H q p d n ls):ShelfAt S H' q p d n ls:=
 ⟨h.o.imp fun _ e=>s _ _ e (ne_of e hl (by intro z;cases z)),s _ _ h.d (ne_of h.d hl (by intro z;cases z)),h.nd⟩
theorem lyK_map:(lyK ls).map (·.1)=(lyN ls).map Sum.inr:=by unfold lyK lyN;rw [List.map_map,List.map_map];rfl
theorem lyK_names:((lyK ls).map fun x=>kV x.1)=(lyN ls).map V.str:=by unfold lyK lyN;rw [List.map_map,List.map_map];rfl
theorem lyK_vals:(lyK ls).map (·.2)=(ls.map (·.2)).map V.int:=by unfold lyK;rw [List.map_map,List.map_map];rfl
theorem lyK_mem:(valV (lyK ls) (Sum.inr z)).isSome=decide (z∈lyN ls):=key_mem lyK_map
theorem lyK_put{r:Int}(h:¬z∈lyN ls):putK (lyK ls) (Sum.inr z) (.int r)=lyK (ls++[(z,r)]):=by
 have hv:valV (lyK ls) (Sum.inr z:Key)=none:=by
  have:=lyK_mem (ls:=ls) (z:=z)
  rw [decide_eq_false h]at this
  cases hv:valV (lyK ls) (Sum.inr z:Key) with
  | none=>rfl
  | some v=>rw [hv]at this;cases this
 rw [putK_new _ hv]
 unfold lyK
 rw [List.map_append]
 rfl
noncomputable def lyD(ls:Ly)(z:Str):Ly:=ls.filter fun x=>decide (x.1≠z)
theorem lyK_drop:dropK (lyK ls) (Sum.inr z)=lyK (lyD ls z):=by
 unfold dropK lyK lyD
 rw [List.filter_map]
 congr 1
 refine List.filter_congr fun x _=>?_
 show decide ((Sum.inr x.1:Key)≠Sum.inr z)=decide (x.1≠z)
 exact decide_eq_decide.mpr ⟨fun h e=>h (by rw [e]),fun h e=>h (by injection e)⟩
theorem lyD_names(nd:(lyN ls).Nodup):lyN (lyD ls z)=(lyN ls).erase z:=by
 unfold lyN lyD at *
 rw [List.Nodup.erase_eq_filter nd,List.filter_map]
 congr 1
 refine List.filter_congr fun x _=>?_
 by_cases h:x.1=z
 · simp [h]
 · simp [h]
end
theorem repr_name{z:Str}(h:nameB z.cps.toList=true):(reprText z).length≤1000:=by
 have hl:=name_len h
 have hc:∀c∈z.cps.toList,c < 16 ^ 8:=fun c hc=>by
  unfold nameB at h
  simp only [Bool.and_eq_true,List.all_eq_true,decide_eq_true_eq]at h
  rcases List.mem_append.mp (h.2 c hc) with h | h
  · have:=mem_let.mp h;omega
  · have:=mem_fig.mp h;omega
 have:=PySem.StrLaws.reprText_len z hc
 omega
theorem ShelfAt.put{S:Addr}{H H1:Hp}{q p d:Addr}{n:Int}{ls:Ly}{z:Str}{r:Int}(h:ShelfAt S H q p d n ls)(s:Same H H1)(hz:¬z∈lyN ls):ShelfAt S (upd H1 d (.dK (putK (lyK ls) (Sum.inr z) (.int r)))) q p d n (ls++[(z,r)]):=by
 obtain ⟨dx,ho⟩:=h.o
 have h1:=s _ _ ho
 have h2:=s _ _ h.d
 refine ⟨⟨dx,by rw [upd_ne (ne_of h1 h2 (by intro z;cases z))];exact h1⟩,by rw [upd_same,lyK_put hz],?_⟩
 have e:lyN (ls++[(z,r)])=lyN ls++[z]:=by unfold lyN;rw [List.map_append];rfl
 rw [e,List.nodup_append]
 exact ⟨h.nd,by simp,fun a ha b hb e=>hz (by rw [List.mem_singleton.mp hb]at e;rw [← e];exact ha)⟩
theorem ShelfAt.cast{S:Addr}{H:Hp}{q p d:Addr}{n:Int}{ls:Ly}{z:Str}(h:ShelfAt S H q p d n ls):ShelfAt S (upd H d (.dK (dropK (lyK ls) (Sum.inr z)))) q p d n (lyD ls z):=by
 obtain ⟨dx,ho⟩:=h.o
 refine ⟨⟨dx,by rw [upd_ne (ne_of ho h.d (by intro z;cases z))];exact ho⟩,by rw [upd_same,lyK_drop],?_⟩
 rw [lyD_names h.nd]
 exact h.nd.erase z
noncomputable def Err0(C:Addr)(H':Hp)(x:Addr):Prop:=H' x=some (exO false x C none)
noncomputable def sp_sinit(S:Addr):Sp:=fun vs H Q _=>∃(q dx p:Addr) (n:Int),vs=[.ref q,.ref p,.int n]∧H q=some (.ins S dx [])∧1≤n∧n≤1000000∧∀H' d,SameBut q H H'→H d=none→ShelfAt S H' q p d n []→Q .non H'
noncomputable def sp_lying(S:Addr):Sp:=fun vs H Q _=>∃(q p d:Addr) (n:Int) (ls:Ly),vs=[.ref q]∧ShelfAt S H q p d n ls∧∀l,H l=none→Q (.ref l) (upd H l (.lst ((lyN ls).map V.str)))
noncomputable def sp_holds(S:Addr):Sp:=fun vs H Q _=>∃(q p d:Addr) (n:Int) (ls:Ly) (z:Str),vs=[.ref q,.str z]∧ShelfAt S H q p d n ls∧Q (.bl (decide (z∈lyN ls))) H
noncomputable def sp_left(S:Addr):Sp:=fun vs H Q _=>∃(q p d:Addr) (n:Int) (ls:Ly),vs=[.ref q]∧ShelfAt S H q p d n ls∧∀H',Same H H'→Q (.int (n - lyS ls)) H'
end N6
namespace N6
open L2 N1 N5 N4
theorem inV_strs{z:Str}{ys:List Str}:inV (.str z) (ys.map V.str)=decide (z∈ys):=by
 unfold inV
 induction ys with
 | nil=>rfl
 | cons y ys ih=>
  rw [List.map_cons,List.any_cons,ih,eqV_str]
  by_cases h:y=z
  · subst h;simp
  · have h':¬z=y:=fun e=>h e.symm
    simp [h,h']
theorem in_go{K:PySem.W.Frag}{H:Hp}{p:Addr}{z:Str}{ys:List Str}{Q:VK}(h:SqL K H p (ys.map V.str))(q:Q (.bl (decide (z∈ys))) H):rIn K false (.str z) (.ref p) H Q:=by
 refine ⟨p,_,rfl,.inl h,rfl,all_strs,?_⟩
 rw [if_neg (by decide),inV_strs]
 exact q
theorem getD_str{ys:List Str}{i:Nat}(h:i < ys.length):ys[i]?=some (ys.getD i Str.empty):=by
 rw [List.getD_eq_getElem?_getD,List.getElem?_eq_getElem h];rfl
noncomputable def aOf:V→Addr
 | .ref a=>a
 | _=>0
noncomputable def sp_mix:Sp:=fun vs H Q _=>∃c k:Int,vs=[.int c,.int k]∧0≤k∧k≤1000∧∀v:Int,0≤v→Q (.int v) H
end N6
namespace L2
theorem Inv.turned2{X:Cx}{pins:List (Addr×Obj)}{σ:St}{H:Hp}{s:Shared}{h':Heap}{t':Nat}{fp:List Addr}(I:Inv X pins σ H s)(k:∀b o,b∉fp→s.heap.get? b=some o→h'.get? b=some o)(hf:∀it∈fp,FpOk X pins H it):
 Inv X pins σ H {s with heap:=h',toks:=t'}:=by
 have nit:∀b u,H b=some u→b∉fp:=fun b u e z=>by rw [(hf b z).1]at e;cases e
 refine I.step (g':=s.gens) (d':=s.drawn) (ch:=fp) (fun b hb=>?_) (fun b o _ _ hc e _=>k b o hc e) (fun b o _ _ hc e _=>⟨o.slots,k b o hc e⟩) (fun _ _ _ _ n=>n)
  (fun b o hc e=>⟨o,k b o hc e⟩) (fun _ _ e=>e) (fun _ _ _ e=>e) (fun b ps e=>⟨#[],by rw [e];simp⟩) (fun m hm=>?_) (fun b u e=>?_) I.bare
 · obtain ⟨_,h1,_,h2,h3,h4⟩:=hf b hb
   exact ⟨h2,h1,h3,h4⟩
 · obtain ⟨o,es,ep,ho,r⟩:=hm
   exact ⟨o,es,ep,k _ o (fun z=>(hf _ z).2.1 rfl) ho,r⟩
 · refine (I.hok b u e).stay (fun c v hc q=>k c v ?_ q) (fun _ q=>q) fun _ _ q=>q
   rcases hc with z | z
   · rw [z];exact nit b u e
   · exact nit c _ z
noncomputable def Ite(K:PySem.W.Frag)(a:Addr):It:=
 ⟨fun i H=>∃xs x,SqL K H a xs∧xs[i]?=some x,fun i H y H'=>∃t x,y= .ref t∧H t=none∧H'=upd H t (.tup [.int i,x])∧∀xs,SqL K H a xs→xs[i]?=some x,fun i H=>∃xs,SqL K H a xs∧xs.length≤i⟩
noncomputable def tnE(e it a:Addr)(i:Nat)(h:Heap):Prop:=(∃old,IsEnum h e it i old)∧h.IsListIter it a i
theorem turn_enum{P:Program}{w:World}{K:PySem.W.Frag}{es:List Expr}{k:Nat}{pos:Pos}(a e it:Addr)(ne:e≠it):Turn P w K (.Tuple es k pos) (Ite K a) [e,it] e (tnE e it a) where
 mem:=by simp
 obj:=fun i h st b hb=>by
  obtain ⟨⟨old,h1⟩,o,h2,c,d⟩:=st
  have hb:b=e∨b=it:=by simpa using hb
  rcases hb with rfl | rfl
  · exact ⟨_,h1,fun v z=>by cases z⟩
  · exact ⟨o,h2,fun v z=>by rw [d]at z;cases z⟩
 keep:=fun i h h' st kk=>by
  obtain ⟨⟨old,h1⟩,h2⟩:=st
  exact ⟨⟨old,kk e (by simp) _ h1⟩,h2.at fun o q=>kk it (by simp) o q⟩
 item:=by
  intro X hP hw hK hc i pins s σ H E I hf st hg
  subst hP hw hK
  obtain ⟨xs,x,hq,hx⟩:=hg
  obtain ⟨its,rv,p,hz⟩:=I.list hq
  obtain ⟨u,hu,ru⟩:=rv.get hx
  obtain ⟨⟨old,h1⟩,h2⟩:=st
  have hlt:e < s.heap.objs.size:=Heap.lt_size h1
  have hit:it < s.heap.objs.size:=by obtain ⟨o,q,_⟩:=id h2;exact Heap.lt_size q
  refine wpAny_pyNext_enum_item h1 h2 p.isList (x:=u) (by simpa using hu) ne fun h' eo it' ht hs hk=>?_
  refine ⟨_,rfl,wpAny_letOwnedTupleGo_enum (s:={s with heap:=h',toks:=s.toks+1}) eo fun h3 e3 sb=>?_⟩
  have hf0:H s.heap.objs.size=none:=I.hok.fresh (Nat.le_refl _)
  have nt:∀b∈[e,it],b≠s.heap.objs.size:=fun b hb=>by
   have hb:b=e∨b=it:=by simpa using hb
   rcases hb with rfl | rfl
   · exact Nat.ne_of_lt hlt
   · exact Nat.ne_of_lt hit
  have I0:Inv X pins σ (upd H s.heap.objs.size (.tup [.int i,x])) {s with heap:=s.heap.push {cls:= .type "tuple",data:= .seq #[.int i s.toks,u]},toks:=s.toks+1}:=
   I.laid (fun b u e=>Heap.get?_push_of_some _ e) (Nat.le_refl _) ⟨by simp [sizeLine];try decide,[.int i s.toks,u],.cons ⟨_,rfl⟩ (.cons ru .nil),⟨_,Heap.get?_push_size _ rfl,rfl,_,rfl⟩⟩
  have hfp:∀b∈[e,it],FpOk X pins (upd H s.heap.objs.size (.tup [.int i,x])) b:=fun b hb=>by
   obtain ⟨f0,f1,f2,f3,f4,f5⟩:=hf b hb
   exact ⟨by rw [upd_ne (nt b hb)];exact f0,f1,f2,f3,f4,f5⟩
  have I1:Inv X pins σ (upd H s.heap.objs.size (.tup [.int i,x])) {s with heap:=h3,toks:=s.toks+1}:=by
   refine Inv.turned2 (s:={s with heap:=s.heap.push {cls:= .type "tuple",data:= .seq #[.int i s.toks,u]},toks:=s.toks+1}) (t':=s.toks+1) I0 (fun b o hb q=>?_) hfp
   have hb':b≠e∧b≠it:=by simpa using hb
   refine (sb.2 b hb'.1).trans ?_
   rcases Heap.get?_push_cases q with ⟨rfl,rfl⟩ | q2
   · exact ht
   · exact hk b o hb'.1 hb'.2 q2
  refine ⟨.ref s.heap.objs.size,upd H s.heap.objs.size (.tup [.int i,x]),I1,rfl,⟨_,x,rfl,hf0,rfl,fun ys hy=>by rw [I.list_inj hy hq];exact hx⟩,⟨⟨u,?_⟩,?_⟩,fun b hb=>(hfp b hb).1⟩
  · show IsEnum h3 e it ((i+1:Nat):Int) u
    rw [show ((i+1:Nat):Int)=(i:Int)+1 from rfl]
    exact e3
  · exact it'.at fun o q=>(sb.2 it (Ne.symm ne)).trans q
 done:=by
   intro X hP hw hK hc i pins s σ H E I hf st hg
   subst hP hw hK
   obtain ⟨xs,hq,hx⟩:=hg
   obtain ⟨its,rv,p,hz⟩:=I.list hq
   obtain ⟨⟨old,h1⟩,h2⟩:=st
   have hl:=rv.length
   exact wpAny_pyNext_enum_end (I.ok.hd hc) h1 h2 p.isList (by simp;omega) fun h' eb=>⟨rfl,Inv.turned2 (t':=s.toks) I (fun b o hb q=>eb b o (fun z=>hb (by simp [z])) q) hf⟩
 self:=fun _ _ _ _ _ st h=>wpAny_pyIter_enum st.1.choose_spec h
section
variable {X:Cx}
noncomputable def iEnum(K:PySem.W.Frag)(ta:TA):TI:=fun σ H R=>ta σ H fun vs H1=>∃a,vs=[.ref a]∧(∃xs,SqL K H1 a xs)∧R (Ite K a) H1
theorem pi_enum{l:Expr}{ta:TA}{p pos pp:Pos}{es:List Expr}{k:Nat}(hg:Gl X "enumerate")(hm:X.mg "enumerate"=none)(ha:PA X [l] ta)(hs:starEach [l] X.env=[(false,eval l X.env)]:=by rfl):PI X (.Tuple es k pp) (.Call (.Name "enumerate" p) [l] [] pos) (iEnum X.K ta):=by
 intro pins s σ H R I h
 refine Call_ (ld_blt I hg hm boot_enumerate (PyProof.Rows.callWith_type1 (thn (ha pos pins s σ H _ I h) fun us s1 hq_=>?_) hs rfl))
 obtain ⟨vs,H1,I1,r1,q1⟩:=hq_
 obtain ⟨a,e,⟨xs,hq⟩,q⟩:=q1
 subst e
 cases r1 with
 | cons r rr=>
  cases rr
  cases r
  obtain ⟨its,rv,p',hz⟩:=I1.list hq
  refine call_enumerate_list p'.isList fun h' h1 h2 h3 h4=>?_
  refine wpAny_pyIter_enum h1 ?_
  refine ⟨_,[s1.heap.objs.size+1,s1.heap.objs.size],_,_,H1,rfl,I1.kept (t':=s1.toks) h4,turn_enum a _ _ (Nat.succ_ne_self _),⟨⟨_,h1⟩,h2⟩,fun b hb=>?_,q⟩
  have hb:b=s1.heap.objs.size+1∨b=s1.heap.objs.size:=by simpa using hb
  rcases hb with rfl | rfl
  · exact I1.fpOk (Nat.le_succ _) (I1.hok.fresh (Nat.le_succ _))
  · exact I1.fpOk (Nat.le_refl _) (I1.hok.fresh (Nat.le_refl _))
end
section
variable {K:PySem.W.Frag} {σ:St} {H:Hp} {D:Ends}
theorem rd_ienum{ta:TA}{R:It→Hp→Prop}:iEnum K ta σ H R=ta σ H fun vs H1=>∃a,vs=[.ref a]∧(∃xs,SqL K H1 a xs)∧R (Ite K a) H1:=rfl
theorem forE_by{a:Addr}{xs:List V}{g:TG}{tb:TS}(Pv:Nat→St→Hp→Prop)(h0:Pv 0 σ H)(hl:∀i σ H,i≤xs.length→Pv i σ H→SqL K H a xs)
 (hs:∀i x σ H t,xs[i]?=some x→Pv i σ H→H t=none→g (.ref t) σ (upd H t (.tup [.int i,x])) fun σ2 H2=>tb {D with nx:=Pv (i+1),ct:=Pv (i+1),bk:=D.nx} σ2 H2) (hd:∀σ H,Pv xs.length σ H→D.nx σ H):ForTail g tb D σ (Ite K a) H:=by
 refine ⟨fun i m σ H=>i≤xs.length∧m=xs.length - i∧Pv i σ H,⟨_,Nat.zero_le _,rfl,h0⟩,fun i m σ H ⟨hi,hm,hP⟩=>?_⟩
 have hq:=hl i σ H hi hP
 cases hx:xs[i]? with
 | none=>
  have hn:xs.length≤i:=by simpa using hx
  have e:i=xs.length:=Nat.le_antisymm hi hn
  subst e
  exact .inl ⟨⟨xs,hq,Nat.le_refl _⟩,hd σ H hP⟩
 | some x=>
  have hlt:i < xs.length:=(List.getElem?_eq_some_iff.mp hx).1
  refine .inr ⟨⟨xs,x,hq,hx⟩,Pv (i+1),fun σ' H' h=>⟨xs.length - (i+1),by omega,by omega,rfl,h⟩,?_⟩
  rintro y H' ⟨t,x',rfl,ht,rfl,hy⟩
  have e:=(hy xs hq).symm.trans hx
  cases e
  exact hs i x σ H t hx hP ht
end
end L2
namespace L2
noncomputable def Itz(K:PySem.W.Frag)(a b:Addr):It:=
 ⟨fun i H=>∃xs ys x y,SqL K H a xs∧SqL K H b ys∧xs[i]?=some x∧ys[i]?=some y,fun i H v H'=>∃t x y,v= .ref t∧H t=none∧H'=upd H t (.tup [x,y])∧(∀xs,SqL K H a xs→xs[i]?=some x)∧∀ys,SqL K H b ys→ys[i]?=some y,
  fun i H=>∃xs ys,SqL K H a xs∧SqL K H b ys∧(xs.length≤i∨ys.length≤i)⟩
noncomputable def tnZ(z TI TO i1 i2 a b:Addr)(i:Nat)(h:Heap):Prop:=IsZip h z TI TO .none∧IsPair h TI (.ref i1) (.ref i2)∧(∃x y,IsPair h TO x y)∧h.IsListIter i1 a i∧h.IsListIter i2 b i
theorem turn_zip{P:Program}{w:World}{K:PySem.W.Frag}{es:List Expr}{k:Nat}{pos:Pos}(a b z TI TO i1 i2:Addr)(D:ZipApart z TI TO i1 i2 a b):Turn P w K (.Tuple es k pos) (Itz K a b) [z,TI,TO,i1,i2] z (tnZ z TI TO i1 i2 a b) where
 mem:=by simp
 obj:=fun i h st c hc=>by
  obtain ⟨h1,h2,⟨x,y,h3⟩,⟨o4,e4,c4,d4⟩,⟨o5,e5,c5,d5⟩⟩:=st
  have hc:c=z∨c=TI∨c=TO∨c=i1∨c=i2:=by simpa using hc
  rcases hc with rfl | rfl | rfl | rfl | rfl
  · exact ⟨_,h1,fun v z=>by cases z⟩
  · exact ⟨_,h2,fun v z=>by cases z⟩
  · exact ⟨_,h3,fun v z=>by cases z⟩
  · exact ⟨o4,e4,fun v z=>by rw [d4]at z;cases z⟩
  · exact ⟨o5,e5,fun v z=>by rw [d5]at z;cases z⟩
 keep:=fun i h h' st kk=>by
  obtain ⟨h1,h2,⟨x,y,h3⟩,h4,h5⟩:=st
  exact ⟨kk z (by simp) _ h1,kk TI (by simp) _ h2,⟨x,y,kk TO (by simp) _ h3⟩,h4.at fun o q=>kk i1 (by simp) o q,h5.at fun o q=>kk i2 (by simp) o q⟩
 item:=by
  intro X hP hw hK hc i pins s σ H E I hf st hg
  subst hP hw hK
  obtain ⟨xs,ys,x,y,hq,hq2,hx,hy⟩:=hg
  obtain ⟨its,rv,p,hz⟩:=I.list hq
  obtain ⟨jts,rv2,p2,hz2⟩:=I.list hq2
  obtain ⟨u,hu,ru⟩:=rv.get hx
  obtain ⟨v,hv,rw'⟩:=rv2.get hy
  obtain ⟨h1,h2,⟨x0,y0,h3⟩,h4,h5⟩:=st
  have lts:∀c∈[z,TI,TO,i1,i2],c < s.heap.objs.size:=fun c hc'=>by
   have hc':c=z∨c=TI∨c=TO∨c=i1∨c=i2:=by simpa using hc'
   rcases hc' with rfl | rfl | rfl | rfl | rfl
   · exact Heap.lt_size h1
   · exact Heap.lt_size h2
   · exact Heap.lt_size h3
   · obtain ⟨o,q,_⟩:=id h4;exact Heap.lt_size q
   · obtain ⟨o,q,_⟩:=id h5;exact Heap.lt_size q
  refine wpAny_pyNext_zip_item D h1 h2 h3 h4 h5 p.isList p2.isList (x:=u) (y:=v) (by simpa using hu) (by simpa using hv) fun h' e1 e3 e4 e5 ht hs hk=>?_
  refine ⟨_,rfl,wpAny_letOwnedTupleGo_zip (s:={s with heap:=h'}) e1 fun h6 e6 sb=>?_⟩
  have hf0:H s.heap.objs.size=none:=I.hok.fresh (Nat.le_refl _)
  have nt:∀c∈[z,TI,TO,i1,i2],c≠s.heap.objs.size:=fun c hc'=>Nat.ne_of_lt (lts c hc')
  have I0:Inv X pins σ (upd H s.heap.objs.size (.tup [x,y])) {s with heap:=s.heap.push {cls:= .type "tuple",data:= .seq #[u,v]}}:=
   I.laid (t':=s.toks) (fun b u e=>Heap.get?_push_of_some _ e) (Nat.le_refl _) ⟨by simp [sizeLine];try decide,[u,v],.cons ru (.cons rw' .nil),⟨_,Heap.get?_push_size _ rfl,rfl,_,rfl⟩⟩
  have hfp:∀c∈[z,TI,TO,i1,i2],FpOk X pins (upd H s.heap.objs.size (.tup [x,y])) c:=fun c hc'=>by
   obtain ⟨f0,f1,f2,f3,f4,f5⟩:=hf c hc'
   exact ⟨by rw [upd_ne (nt c hc')];exact f0,f1,f2,f3,f4,f5⟩
  have I1:Inv X pins σ (upd H s.heap.objs.size (.tup [x,y])) {s with heap:=h6}:=by
   refine Inv.turned2 (s:={s with heap:=s.heap.push {cls:= .type "tuple",data:= .seq #[u,v]}}) (t':=s.toks) I0 (fun c o hc' q=>?_) hfp
   have hb':c≠z∧c≠TI∧c≠TO∧c≠i1∧c≠i2:=by simpa using hc'
   refine (sb.2 c hb'.1).trans ?_
   rcases Heap.get?_push_cases q with ⟨rfl,rfl⟩ | q2
   · exact ht
   · exact hk c o hb'.1 hb'.2.2.1 hb'.2.2.2.1 hb'.2.2.2.2 q2
  refine ⟨.ref s.heap.objs.size,upd H s.heap.objs.size (.tup [x,y]),I1,rfl,⟨_,x,y,rfl,hf0,rfl,fun zs hy'=>by rw [I.list_inj hy' hq];exact hx,fun zs hy'=>by rw [I.list_inj hy' hq2];exact hy⟩,?_,fun c hc'=>(hfp c hc').1⟩
  have k6:∀c o,c≠z→h'.get? c=some o→h6.get? c=some o:=fun c o n q=>(sb.2 c n).trans q
  exact ⟨e6,k6 TI _ D.TIz (hk TI _ D.TIz D.TITO D.TIi1 D.TIi2 h2),⟨_,_,k6 TO _ D.TOz e3⟩,e4.at fun o q=>k6 i1 o D.i1z q,e5.at fun o q=>k6 i2 o D.i2z q⟩
 done:=by
   intro X hP hw hK hc i pins s σ H E I hf st hg
   subst hP hw hK
   obtain ⟨xs,ys,hq,hq2,hx⟩:=hg
   obtain ⟨its,rv,p,hz⟩:=I.list hq
   obtain ⟨jts,rv2,p2,hz2⟩:=I.list hq2
   obtain ⟨h1,h2,⟨x0,y0,h3⟩,h4,h5⟩:=st
   have hl:=rv.length
   have hl2:=rv2.length
   exact wpAny_pyNext_zip_end (I.ok.hd hc) D h1 h2 h3 h4 h5 p.isList p2.isList (hx.imp (fun h=>by simp;omega) fun h=>by simp;omega) fun h' eb=>⟨rfl,Inv.turned2 (t':=s.toks) I (fun c o hb q=>by
    have hb':c≠z∧c≠TI∧c≠TO∧c≠i1∧c≠i2:=by simpa using hb
    exact eb c o hb'.1 hb'.2.2.1 hb'.2.2.2.1 hb'.2.2.2.2 q) hf⟩
 self:=fun _ _ _ _ _ st h=>wpAny_pyIter_zip st.1 h
section
variable {X:Cx}
noncomputable def iZip(K:PySem.W.Frag)(ta:TA):TI:=fun σ H R=>ta σ H fun vs H1=>∃a b,vs=[.ref a,.ref b]∧(∃xs,SqL K H1 a xs)∧(∃ys,SqL K H1 b ys)∧R (Itz K a b) H1
theorem pi_zip{l r:Expr}{ta:TA}{p pos pp:Pos}{es:List Expr}{k:Nat}(hg:Gl X "zip")(hm:X.mg "zip"=none)(ha:PA X [l,r] ta)(hs:starEach [l,r] X.env=[(false,eval l X.env),(false,eval r X.env)]:=by rfl)(hs2:starEach [r] X.env=[(false,eval r X.env)]:=by rfl):
 PI X (.Tuple es k pp) (.Call (.Name "zip" p) [l,r] [] pos) (iZip X.K ta):=by
 intro pins s σ H R I h
 refine Call_ (ld_blt I hg hm boot_zip (PyProof.Rows.callWith_type1 (thn (ha pos pins s σ H _ I h) fun us s1 ⟨vs,H1,I1,r1,q1⟩=>?_) (by rw [hs,hs2]) (by rw [hs2];rfl)))
 obtain ⟨a,b,e,⟨xs,hq⟩,⟨ys,hq2⟩,q⟩:=q1
 subst e
 cases r1 with
 | cons r rr=>
  cases rr with
  | cons r' rr=>
   cases rr
   cases r
   cases r'
   obtain ⟨its,rv,p',hz⟩:=I1.list hq
   obtain ⟨jts,rv2,p2,hz2⟩:=I1.list hq2
   have la:a < s1.heap.objs.size:=by obtain ⟨o,e,_⟩:=p'.isList;exact Heap.lt_size e
   have lb:b < s1.heap.objs.size:=by obtain ⟨o,e,_⟩:=p2.isList;exact Heap.lt_size e
   refine call_zip_2 p'.isList p2.isList fun h' h1 h2 h3 h4 h5 h6 h7=>?_
   refine wpAny_pyIter_zip h1 ?_
   refine ⟨_,[s1.heap.objs.size+4,s1.heap.objs.size+2,s1.heap.objs.size+3,s1.heap.objs.size,s1.heap.objs.size+1],_,_,H1,rfl,I1.kept (t':=s1.toks) h7,turn_zip a b _ _ _ _ _ (PySem.W.ktu_apart _ _ _ la lb),⟨h1,h2,⟨_,_,h3⟩,h4,h5⟩,fun c hc=>?_,q⟩
   have hc:s1.heap.objs.size≤c:=by
    have hc:c=s1.heap.objs.size+4∨c=s1.heap.objs.size+2∨c=s1.heap.objs.size+3∨c=s1.heap.objs.size∨c=s1.heap.objs.size+1:=by simpa using hc
    rcases hc with rfl | rfl | rfl | rfl | rfl
    · exact Nat.le_add_right _ _
    · exact Nat.le_add_right _ _
    · exact Nat.le_add_right _ _
    · exact Nat.le_refl _
    · exact Nat.le_add_right _ _
   exact I1.fpOk hc (I1.hok.fresh hc)
end
section
variable {K:PySem.W.Frag} {σ:St} {H:Hp} {D:Ends}
theorem rd_izip{ta:TA}{R:It→Hp→Prop}:iZip K ta σ H R=ta σ H fun vs H1=>∃a b,vs=[.ref a,.ref b]∧(∃xs,SqL K H1 a xs)∧(∃ys,SqL K H1 b ys)∧R (Itz K a b) H1:=rfl
theorem forZ_by{a b:Addr}{xs ys:List V}{g:TG}{tb:TS}(hlen:xs.length=ys.length)(Pv:Nat→St→Hp→Prop)(h0:Pv 0 σ H)(hl:∀i σ H,i≤xs.length→Pv i σ H→SqL K H a xs∧SqL K H b ys)
 (hs:∀i x y σ H t,xs[i]?=some x→ys[i]?=some y→Pv i σ H→H t=none→g (.ref t) σ (upd H t (.tup [x,y])) fun σ2 H2=>tb {D with nx:=Pv (i+1),ct:=Pv (i+1),bk:=D.nx} σ2 H2) (hd:∀σ H,Pv xs.length σ H→D.nx σ H):ForTail g tb D σ (Itz K a b) H:=by
 refine ⟨fun i m σ H=>i≤xs.length∧m=xs.length - i∧Pv i σ H,⟨_,Nat.zero_le _,rfl,h0⟩,fun i m σ H ⟨hi,hm,hP⟩=>?_⟩
 obtain ⟨hq,hq2⟩:=hl i σ H hi hP
 by_cases hlt:i < xs.length
 · have hx:xs[i]?=some xs[i]:=List.getElem?_eq_getElem hlt
   have hy:ys[i]?=some (ys[i]'(by omega)):=List.getElem?_eq_getElem (by omega)
   refine .inr ⟨⟨xs,ys,_,_,hq,hq2,hx,hy⟩,Pv (i+1),fun σ' H' h=>⟨xs.length - (i+1),by omega,by omega,rfl,h⟩,?_⟩
   rintro v H' ⟨t,x',y',rfl,ht,rfl,h1,h2⟩
   have e:=(h1 xs hq).symm.trans hx
   have e2:=(h2 ys hq2).symm.trans hy
   cases e
   cases e2
   exact hs i _ _ σ H t hx hy hP ht
 · have e:i=xs.length:=by omega
   subst e
   exact .inl ⟨⟨xs,ys,hq,hq2,.inl (Nat.le_refl _)⟩,hd σ H hP⟩
end
end L2
namespace L2
noncomputable abbrev tComp1I(wi:TI)(fs:List Nat)(tt:Blk→TT)(te:Blk→TE):TE:=tComp wi 1 fs (fun _=>gName 0) tt te
noncomputable abbrev g2(K:PySem.W.Frag):Blk→TG:=fun _=>gTup K 2 (gCons (gName 0) (gCons (gName 1) gNil))
noncomputable abbrev tComp2(K:PySem.W.Frag)(wi:TI)(fs:List Nat)(tt:Blk→TT)(te:Blk→TE):TE:=tComp wi 2 fs (g2 K) tt te
section
variable {K:PySem.W.Frag} {tail:St} {tt:Blk→TT} {te:Blk→TE} {Q:VK} {H1:Hp} {σ:St} {H:Hp}
theorem rd_compI{wi:TI}{fs:List Nat}:tComp1I wi fs tt te σ H Q=wi σ H (CompTail (none::fs.map fun j=>σ.getD j none) (fun _=>gName 0) tt te Q):=rfl
theorem rd_comp2{wi:TI}{fs:List Nat}:tComp2 K wi fs tt te σ H Q=wi σ H (CompTail (none::none::fs.map fun j=>σ.getD j none) (g2 K) tt te Q):=rfl
end
end L2
namespace L2
noncomputable def itemsO(v d:Addr):HO:= .ext fun h=>h.IsItemsView v d
noncomputable def Iti(o:Obj)(d:Addr):It:=
 ⟨fun i H=>∃kvs p,H d=some (.frz o (.dK kvs))∧kvs[i]?=some p,fun i H v H'=>∃t k x,v= .ref t∧H t=none∧H'=upd H t (.tup [kV k,x])∧∀kvs,H d=some (.frz o (.dK kvs))→kvs[i]?=some (k,x),
  fun i H=>∃kvs,H d=some (.frz o (.dK kvs))∧kvs.length≤i⟩
section
variable {X:Cx}
noncomputable def rItems:V→List V→Hp→VK→Prop:=fun x vs H Q=>∃a kvs,x= .ref a∧vs=[]∧H a=some (.dK kvs)∧∀v,H v=none→Q (.ref v) (upd H v (itemsO v a))
noncomputable def iView(tv:TE):TI:=fun σ H R=>tv σ H fun x H1=>∃v d kvs,x= .ref v∧H1 v=some (itemsO v d)∧H1 d=some (.dK kvs)∧∀o,R (Iti o d) (upd H1 d (.frz o (.dK kvs)))
end
section
variable {K:PySem.W.Frag} {tail:St} {te:Blk→TE} {Q:VK} {H1:Hp} {σ:St} {H:Hp}
theorem rd_items{x:V}{vs:List V}:rItems x vs H Q=∃a kvs,x= .ref a∧vs=[]∧H a=some (.dK kvs)∧∀v,H v=none→Q (.ref v) (upd H v (itemsO v a)):=rfl
theorem rd_iview{tv:TE}{R:It→Hp→Prop}:iView tv σ H R=tv σ H fun x H1=>∃v d kvs,x= .ref v∧H1 v=some (itemsO v d)∧H1 d=some (.dK kvs)∧∀o,R (Iti o d) (upd H1 d (.frz o (.dK kvs))):=rfl
end
end L2
namespace N08
open PySem PySem.Builtin PySem.Builtin.Str PySem.StrLaws
open PySem.NumText
end N08
namespace L2
open N1 N5
theorem eqV_self{x:V}(h:flatV x=true):eqV x x=true:=by
 cases x with
 | non=>rfl
 | bl b=>cases b <;> rfl
 | int i=>exact beq_self_eq_true i
 | str z=>rw [eqV_str];simp
 | _=>cases h
theorem flatEq_self:∀{xs:List V},xs.all flatV=true→flatEq xs xs=true
 | [],_=>rfl
 | x::xs,h=>by
  rw [List.all_cons,Bool.and_eq_true]at h
  show (eqV x x && flatEq xs xs)=true
  rw [eqV_self h.1,flatEq_self h.2];rfl
end L2
namespace L2
noncomputable abbrev g3(K:PySem.W.Frag):Blk→TG:=fun _=>gTup K 3 (gCons (gName 0) (gCons (gName 1) (gCons (gName 2) gNil)))
noncomputable abbrev tComp3(K:PySem.W.Frag)(wi:TI)(fs:List Nat)(te:Blk→TE):TE:=tComp wi 3 fs (g3 K) (fun _=>tYes) te
section
variable {K:PySem.W.Frag} {tail:St} {te:Blk→TE} {Q:VK} {H1:Hp} {σ:St} {H:Hp}
theorem rd_comp3{wi:TI}{fs:List Nat}:tComp3 K wi fs te σ H Q=wi σ H (CompTail (none::none::none::fs.map fun j=>σ.getD j none) (g3 K) (fun _=>tYes) te Q):=rfl
end
end L2
namespace N8
open L2 N1 N5 N08
theorem put_keys{kvs:List (Key×V)}{ks:List Str}{z:Str}{v:V}(h:kvs.map (·.1)=ks.map Sum.inr)(nz:¬z∈ks):(putK kvs (Sum.inr z) v).map (·.1)=(ks++[z]).map Sum.inr:=by
 have hv:valV kvs (Sum.inr z:Key)=none:=by
  have:=key_mem (z:=z) h
  rw [decide_eq_false nz]at this
  cases h:valV kvs (Sum.inr z:Key) with
  | none=>rfl
  | some v=>rw [h]at this;cases this
 rw [putK_new _ hv,List.map_append,h]
 simp
end N8
namespace N12
open L2 N1 N5 N4 N6
noncomputable def sp12_names:Sp:=fun vs H Q _=>∃(i:Int) (m:Nat),vs=[.int i,.int m]∧m≤26∧∀(p:Addr) (ys:List Str) (H':Hp),H p=none→Same H H'→H' p=some (.lst (ys.map V.str))→ys.length≤m→m≤ys.length→ys.Nodup→(∀y∈ys,nameB y.cps.toList=true)→Q (.ref p) H'
noncomputable def rmOf(ts:List Th)(z:Str):Int:=match ts.find? (fun t=>decide (t.1=z)) with
 | some t=>t.2.2
 | none=>0
theorem rmOf_is{ts:List Th}(nd:(ts.map (·.1)).Nodup){t:Th}(h:t∈ts):rmOf ts t.1=t.2.2:=by
 unfold rmOf
 induction ts with
 | nil=>cases h
 | cons a ts ih=>
  rw [List.map_cons,List.nodup_cons]at nd
  by_cases e:a.1=t.1
  · rw [List.find?_cons_of_pos (by simpa using e)]
    rcases List.mem_cons.mp h with rfl | h'
    · rfl
    · exact absurd (List.mem_map.mpr ⟨t,h',e.symm⟩) nd.1
  · rw [List.find?_cons_of_neg (by simpa using e)]
    rcases List.mem_cons.mp h with rfl | h'
    · exact absurd rfl e
    · exact ih nd.2 h'
theorem rm_some{ts:List Th}{z:Str}(h:z∈ts.map (·.1)):valV (ts.map fun t=>((Sum.inr t.1:Key),V.int t.2.2)) (Sum.inr z)=some (.int (rmOf ts z)):=by
 unfold rmOf
 induction ts with
 | nil=>cases h
 | cons a ts ih=>
  by_cases e:a.1=z
  · subst e
    rw [List.find?_cons_of_pos (by simp)]
    simp [valV]
  · rw [List.find?_cons_of_neg (by simpa using e)]
    have h2:=ih ((List.mem_cons.mp (by rw [List.map_cons]at h;exact h)).resolve_left fun z=>e z.symm)
    rw [← h2]
    simp [valV,e]
end N12
namespace N6
open L2 N1 N5 N4
noncomputable def sp_thingG(K:PySem.W.Frag)(C:Addr):Sp:=fun vs H Q _=>∃(p:Addr) (ts:List Th) (z:Str),vs=[.ref p,.str z]∧StockAt K C H p ts∧(ts.map (·.1)).Nodup∧z∈ts.map (·.1)∧∀(i:Nat) (t:Th),ts[i]?=some t→t.1=z→∀a,SqT K H a [.int i,.int t.2.1,.int t.2.2]→Q (.ref a) H
noncomputable def sp_roomG(K:PySem.W.Frag)(C:Addr):Sp:=fun vs H Q _=>∃(p:Addr) (ts:List Th) (z:Str),vs=[.ref p,.str z]∧StockAt K C H p ts∧(ts.map (·.1)).Nodup∧z∈ts.map (·.1)∧∀(i:Nat) (t:Th),ts[i]?=some t→t.1=z→Q (.int t.2.2) H
noncomputable def sp_putG(K:PySem.W.Frag)(C S:Addr):Sp:=fun vs H Q _=>∃(q p d:Addr) (n:Int) (ls:Ly) (ts:List Th) (z:Str) (r:Int),vs=[.ref q,.str z]∧ShelfAt S H q p d n ls∧StockX K C H p ts d∧(ts.map (·.1)).Nodup∧ls.length≤1000∧
 z∈ts.map (·.1)∧(∀t∈ts,t.1=z→t.2.2=r)∧¬z∈lyN ls∧r≤n - lyS ls∧∀H',SameBut d H H'→ShelfAt S H' q p d n (ls++[(z,r)])→Q .non H'
noncomputable def sp_castG(S:Addr):Sp:=fun vs H Q _=>∃(q p d:Addr) (n:Int) (ls:Ly) (z:Str),vs=[.ref q,.str z]∧ShelfAt S H q p d n ls∧z∈lyN ls∧∀H',SameBut d H H'→ShelfAt S H' q p d n (lyD ls z)→Q .non H'
end N6
namespace L2
open PySem.W
noncomputable def rSumL(K:PySem.W.Frag):List V→Hp→VK→Prop:=fun xs H Q=>∃(p:Addr) (is:List Int),xs=[.ref p]∧SqL K H p (is.map V.int)∧Q (.int is.sum) H
theorem preSum_is(is:List Int):preSum (fun i=>is.getD i 0) is.length=is.sum:=by
 have key:∀n,n≤is.length→preSum (fun i=>is.getD i 0) n=(is.take n).sum:=by
  intro n
  induction n with
  | zero=>intro _;rfl
  | succ n ih=>
   intro h
   have e:is.take (n+1)=is.take n++[is.getD n 0]:=by
    rw [List.take_add_one,List.getD_eq_getElem?_getD,List.getElem?_eq_getElem (by omega)]
    rfl
   rw [preSum,ih (by omega),e,List.sum_append]
   simp
 have:=key is.length (Nat.le_refl _)
 rwa [List.take_length]at this
section
variable {X:Cx}
theorem call_sumL(hc:X.calm=true):CallR X (.builtin "sum") (rSumL X.K):=by
 intro pins s σ H xs us Q I r h
 obtain ⟨p,is,rfl,hp,q⟩:=h
 obtain ⟨u,rfl,ru⟩:=vals1 r
 cases ru
 obtain ⟨its,r,pl,hz⟩:=I.list hp
 have hlt:p < s.heap.objs.size:=by obtain ⟨o,n,e,_⟩:=pl;exact Heap.lt_size e
 have hlen:=r.length
 rw [List.length_map]at hlen
 refine call_sum_walkAnyS (wpAny_pyIter_list pl.isList ⟨s.heap.objs.size,_,_,_,_,_,_,fun i=>is.getD i 0,rfl,(Walks.list (show X.A.in1.handled=none from I.ok.hd hc) s.heap.objs.size p (Nat.ne_of_lt hlt) its.toArray).toS,⟨⟨_,Heap.get?_push_size _ rfl,rfl,rfl⟩,pl.isList.push _⟩,fun b hb=>?_,fun i v hP=>?_,fun s' t' hmv=>?_⟩)
 · show b < (s.heap.push _).objs.size
   rw [Heap.size_push]
   rcases List.mem_cons.mp hb with e | hb
   · rw [e];exact Nat.lt_succ_self _
   · rw [List.mem_singleton.mp hb];exact Nat.lt_succ_of_lt hlt
 · have hP:its.toArray[i]?=some v:=hP
   have hi:i < is.length:=by
    have:=(Array.getElem?_eq_some_iff.mp hP).1
    rw [List.size_toArray]at this
    omega
   obtain ⟨u,hu,ru⟩:=r.get (i:=i) (x:=V.int (is[i])) (by simp [hi])
   have e:u=v:=by
    have:its[i]?=some v:=by simpa using hP
    rw [hu]at this;exact Option.some.inj this
   subst e
   show ∃t,u=Value.int (is.getD i 0) t
   rw [List.getD_eq_getElem?_getD,List.getElem?_eq_getElem hi]
   exact ru
 · have hk:∀b o,s.heap.get? b=some o→s'.heap.get? b=some o:=fun b o e=>
    hmv.heap b o (fun hI=>absurd (Heap.lt_size e) (by rw [List.mem_singleton.mp hI];exact Nat.lt_irrefl _)) (Heap.get?_push_of_some _ e)
   rw [Moved.eq_with hmv]
   refine ⟨.int is.sum,H,I.kept (t':=s'.toks) hk,⟨t',?_⟩,q⟩
   rw [List.size_toArray,← hlen,preSum_is]
end
section
variable {σ:St} {H:Hp} {Q:VK} {D:Ends} {K:PySem.W.Frag} {xs:List V} {x y:V}
theorem rd_sumL:rSumL K xs H Q=∃(p:Addr) (is:List Int),xs=[.ref p]∧SqL K H p (is.map V.int)∧Q (.int is.sum) H:=rfl
theorem rd_ipI{f:Int→Int→Int}:ipI f x y H Q=∃i j,x= .int i∧y= .int j∧Q (.int (f i j)) H:=rfl
end
section
open PySem.W
variable {K:Frag} {C D:Addr} {cd:ClassData}
theorem kit_own{b:Bool}(self:subIn K (.ref C) (.ref C)=some true)(cl:clsIn K D=some cd)(ty:typeIn K (.ref D)=some (.type "type"))(s:subIn K (.ref C) (.ref D)=some b):kitOne K (.ref C) (.ref D)=some b:=by
 by_cases e:C=D
 · subst e
   rw [self]at s
   cases s
   unfold kitOne
   rw [if_pos (by simp)]
 · unfold kitOne kitCls
   rw [if_neg (by simp [e])]
   dsimp only
   rw [cl,ty]
   exact s
end
end L2
namespace N31
open L2 N1 N5
end N31
namespace N32
open L2 N1 N5 N31
noncomputable def lastIx(ys:List Str)(z:Str):Nat→Option Nat
 | 0=>none
 | n+1=>if ys.getD n Str.empty=z then some n else lastIx ys z n
noncomputable def ear(ys:List Str)(i:Nat):Option Nat:=lastIx ys (ys.getD i Str.empty) i
noncomputable def W(R:Str→Int)(ys:List Str)(n j:Nat):Int:=if lastIx ys (ys.getD j Str.empty) n=some j then R (ys.getD j Str.empty) else 0
noncomputable def tl(f:Nat→Int)(b n:Nat):Int:=((List.range' b (n - b)).map f).sum
noncomputable def dep(R:Str→Int)(ys:List Str)(n:Nat):Option Int:=(ear ys n).map fun b=>tl (W R ys n) b n
noncomputable def optV:Option Int→V
 | none=> .non
 | some i=> .int i
noncomputable def earV(ys:List Str)(i:Nat):V:=optV ((ear ys i).map fun j=>(j:Int))
end N32
namespace N32
open L2 N1 N5 N31 N4
noncomputable def rm(ts:List Th)(z:Str):Int:=((ts.find? fun t=>decide (t.1=z)).map (·.2.2)).getD 0
theorem rm_at{ts:List Th}(nd:(ts.map (·.1)).Nodup){i:Nat}{t:Th}(h:ts[i]?=some t):rm ts t.1=t.2.2:=by
 induction ts generalizing i with
 | nil=>simp at h
 | cons u r ih=>
  rw [List.map_cons,List.nodup_cons]at nd
  cases i with
  | zero=>
   rw [List.getElem?_cons_zero]at h
   cases h
   simp [rm]
  | succ i=>
   rw [List.getElem?_cons_succ]at h
   have ne:¬u.1=t.1:=fun e=>nd.1 (by rw [e];exact List.mem_map.mpr ⟨t,List.mem_of_getElem? h,rfl⟩)
   have:=ih nd.2 h
   unfold rm at this ⊢
   rw [List.find?_cons_of_neg (by simpa using ne)]
   exact this
noncomputable def sp32_check:Sp:=fun vs H Q _=>∃(i:Int),vs=[.int i]∧1≤i∧i≤1000000∧Q .non H
noncomputable def sp32_thing(K:PySem.W.Frag)(C:Addr):Sp:=fun vs H Q _=>∃(p:Addr) (ts:List Th) (z:Str),vs=[.ref p,.str z]∧StockAt K C H p ts∧(ts.map (·.1)).Nodup∧z∈ts.map (·.1)∧∀(i:Nat) (t:Th),ts[i]?=some t→t.1=z→∀a,SqT K H a [.int i,.int t.2.1,.int t.2.2]→Q (.ref a) H
noncomputable def sp32_room(K:PySem.W.Frag)(C:Addr):Sp:=fun vs H Q _=>∃(p:Addr) (ts:List Th) (z:Str),vs=[.ref p,.str z]∧StockAt K C H p ts∧(ts.map (·.1)).Nodup∧z∈ts.map (·.1)∧Q (.int (rm ts z)) H
noncomputable def sp32_early(K:PySem.W.Frag):Sp:=fun vs H Q _=>∃(a:Addr) (ys:List Str),vs=[.ref a]∧SqL K H a (ys.map V.str)∧ys.length≤200∧∀p H',H p=none→Same H H'→H' p=some (.lst ((List.range ys.length).map (earV ys)))→Q (.ref p) H'
section
variable {K:PySem.W.Frag} {σ:L2.St} {H:Hp} {Q:VK}
theorem rd_dget1{td ty:TE}:tDGet1 td ty σ H Q=td σ H fun x H1=>∃a,x= .ref a∧IsD H1 a∧ty σ H1 fun y H2=>∃o,DGet H2 a y o∧Q (o.getD .non) H2:=rfl
theorem rd_disp1{tk tv:TE}:tDisp [(tk,tv)] σ H Q=∀p,H p=none→tk σ (upd H p (.dK [])) fun x H1=>tv σ H1 fun y H2=>H2 p=some (.dK [])∧∃kvs:List (Key×V),[(x,y)]=kvs.map (fun kv=>(kV kv.1,kv.2))∧kvs.length≤15∧Q (.ref p) (upd H2 p (.dK (mergeK [] kvs))):=rfl
end
end N32
namespace K03
theorem gcd_step{x y i j:Int}(hx:0≤x)(hy:0 < y)(h:Int.gcd x y=Int.gcd i j):Int.gcd y (x % y)=Int.gcd i j:=by
 rw [← h,Int.gcd_comm x y]
 first
  | exact Int.gcd_emod ..
  | simp [Int.gcd_emod]
  | (show Nat.gcd y.natAbs (x % y).natAbs=Nat.gcd y.natAbs x.natAbs
     obtain ⟨a,rfl⟩:=Int.eq_ofNat_of_zero_le hx
     obtain ⟨b,rfl⟩:=Int.eq_ofNat_of_zero_le (Int.le_of_lt hy)
     rw [← Int.natCast_emod]
     simp only [Int.natAbs_natCast]
     rw [Nat.gcd_comm b (a % b),← Nat.gcd_rec,])
theorem gcd_zero_right'{x:Int}(hx:0≤x):((Int.gcd x 0:Nat):Int)=x:=by
 show ((Nat.gcd x.natAbs 0:Nat):Int)=x
 rw [Nat.gcd_zero_right];omega
theorem gcd_abs(i j:Int):Int.gcd (if i < 0 then -i else i) (if j < 0 then -j else j)=Int.gcd i j:=by
 show Nat.gcd _ _=Nat.gcd _ _
 congr 1
 · split <;> omega
 · split <;> omega
theorem gcd_abs1(i j:Int):Int.gcd (if i < 0 then -i else i) j=Int.gcd i j:=by
 show Nat.gcd _ _=Nat.gcd _ _
 congr 1
 split <;> omega
theorem exact_fdiv{n d:Int}(h:d ∣ n)(hd:d≠0):d * n.fdiv d=n:=by
 obtain ⟨q,rfl⟩:=h
 rw [Int.mul_fdiv_cancel_left _ hd]
theorem lowest{n m d:Int}(hm:m≠0)(hd:d.natAbs=Int.gcd n m)(hs:0 < d↔0 < m):
 n.fdiv d * m=n * m.fdiv d∧0 < m.fdiv d∧Int.gcd (n.fdiv d) (m.fdiv d)=1∧(n.fdiv d).natAbs≤n.natAbs∧(m.fdiv d).natAbs≤m.natAbs:=by
 have hg:0 < Int.gcd n m:=Nat.pos_of_ne_zero fun z=>hm (Int.gcd_eq_zero_iff.mp z).2
 have hd0:d≠0:=by intro z;subst z;simp at hd;omega
 have dn:d ∣ n:=by
  rw [← Int.natAbs_dvd_natAbs,hd];exact Nat.gcd_dvd_left n.natAbs m.natAbs
 have dm:d ∣ m:=by
  rw [← Int.natAbs_dvd_natAbs,hd];exact Nat.gcd_dvd_right n.natAbs m.natAbs
 have e1:=exact_fdiv dn hd0
 have e2:=exact_fdiv dm hd0
 generalize n.fdiv d=t at *
 generalize m.fdiv d=b at *
 have hb0:b≠0:=by rintro rfl;simp at e2;exact hm e2.symm
 refine ⟨?_,?_,?_,?_,?_⟩
 · rw [← e1,← e2];simp only [Int.mul_assoc,Int.mul_comm,Int.mul_left_comm]
 · by_cases hp:0 < d
   · have:0 < m:=hs.mp hp
     rw [← e2]at this
     rw [Int.mul_comm]at this;exact Int.pos_of_mul_pos_left this hp
   · have hn:¬0 < m:=fun z=>hp (hs.mpr z)
     have hd1:d < 0:=by omega
     rw [← e2]at hn
     refine Decidable.byContradiction fun hb=>?_
     have hb1:b < 0:=by omega
     exact hn (Int.mul_pos_of_neg_of_neg hd1 hb1)
 · have:Int.gcd n m=d.natAbs * Int.gcd t b:=by rw [← e1,← e2,Int.gcd_mul_left]
   rw [← hd]at this
   have hp:0 < d.natAbs:=by omega
   have h2:d.natAbs * Int.gcd t b=d.natAbs * 1:=by omega
   exact Nat.eq_of_mul_eq_mul_left hp h2
 · rw [← e1,Int.natAbs_mul];exact Nat.le_mul_of_pos_left _ (by omega)
 · rw [← e2,Int.natAbs_mul];exact Nat.le_mul_of_pos_left _ (by omega)
end K03
open L2 N1 N5 N31 N4 N32
namespace N41
noncomputable def seg(T:List Int)(a b:Nat):Int:=((T.take b).drop a).sum
noncomputable def leastAt(c r:Str→Int)(T:List Int)(S:Int)(ys:List Str)(n:Nat):Int:=
 match ear ys n with
 | none=>c (ys.getD n Str.empty) * S
 | some e=>min (c (ys.getD n Str.empty) * S) (r (ys.getD n Str.empty) * seg T (e+1) n)
noncomputable def fl(c r:Str→Int)(T:List Int)(S P:Int)(ys:List Str):Nat→Int
 | 0=>0
 | n+1=>fl c r T S P ys n+(leastAt c r T S ys n - T.getD n 0 * (P - r (ys.getD n Str.empty)))
noncomputable def sm(f:Str→Int)(L:List Str):Int:=(L.map f).sum
theorem sm_nil(f:Str→Int):sm f []=0:=rfl
theorem sm_cons(f:Str→Int)(x:Str)(L:List Str):sm f (x::L)=f x+sm f L:=by unfold sm;rw [List.map_cons,List.sum_cons]
end N41
namespace N41
noncomputable def cst(ts:List Th)(z:Str):Int:=((ts.find? fun t=>decide (t.1=z)).map (·.2.1)).getD 0
theorem cst_at{ts:List Th}(nd:(ts.map (·.1)).Nodup){i:Nat}{t:Th}(h:ts[i]?=some t):cst ts t.1=t.2.1:=by
 induction ts generalizing i with
 | nil=>simp at h
 | cons u r ih=>
  rw [List.map_cons,List.nodup_cons]at nd
  cases i with
  | zero=>
   rw [List.getElem?_cons_zero]at h
   cases h
   simp [cst]
  | succ i=>
   rw [List.getElem?_cons_succ]at h
   have ne:¬u.1=t.1:=fun e=>nd.1 (by rw [e];exact List.mem_map.mpr ⟨t,List.mem_of_getElem? h,rfl⟩)
   have:=ih nd.2 h
   unfold cst at this ⊢
   rw [List.find?_cons_of_neg (by simpa using ne)]
   exact this
noncomputable def sp41_div:Sp:=fun vs H Q _=>∃(i j:Int),vs=[.int i,.int j]∧Q (.int (Int.gcd i j)) H
noncomputable def sp41_asks(K:PySem.W.Frag)(C:Addr):Sp:=fun vs H Q _=>∃(p a:Addr) (pl:Int) (ts:List Th) (ys:List Str),vs=[.ref p,.ref a,.int pl]∧StockAt K C H p ts∧(ts.map (·.1)).Nodup∧SqL K H a (ys.map V.str)∧ys.length≤200∧(∀y∈ys,y∈ts.map (·.1))∧(∀y∈ys,rm ts y≤pl)∧1≤pl∧pl≤1000000∧∀H',Same H H'→Q (.bl true) H'
noncomputable def sp41_cost(K:PySem.W.Frag)(C:Addr):Sp:=fun vs H Q _=>∃(p:Addr) (ts:List Th) (z:Str),vs=[.ref p,.str z]∧StockAt K C H p ts∧(ts.map (·.1)).Nodup∧z∈ts.map (·.1)∧Q (.int (cst ts z)) H
theorem lcm_step{S b U:Int}(hS:0 < S)(hb:0 < b)(h1:S ∣ U)(h2:b ∣ U):0 < S.fdiv (Int.gcd S b) * b∧S.fdiv (Int.gcd S b) * b ∣ U∧b ∣ S.fdiv (Int.gcd S b) * b∧S ∣ S.fdiv (Int.gcd S b) * b:=by
 obtain ⟨m,rfl⟩:=Int.eq_ofNat_of_zero_le (Int.le_of_lt hS)
 obtain ⟨n,rfl⟩:=Int.eq_ofNat_of_zero_le (Int.le_of_lt hb)
 have hm:0 < m:=by omega
 have hn:0 < n:=by omega
 have hg:Int.gcd (m:Int) (n:Int)=Nat.gcd m n:=rfl
 rw [hg]
 have hgp:0 < Nat.gcd m n:=Nat.gcd_pos_of_pos_left _ hm
 have e:(m:Int).fdiv (Nat.gcd m n:Nat)=((m / Nat.gcd m n:Nat):Int):=by
  rw [Int.fdiv_eq_ediv_of_nonneg _ (by omega)];rfl
 rw [e]
 have e2:m / Nat.gcd m n * n=Nat.lcm m n:=by
  unfold Nat.lcm
  rw [Nat.mul_comm m n,Nat.mul_div_assoc _ (Nat.gcd_dvd_left m n),Nat.mul_comm]
 have e3:((m / Nat.gcd m n:Nat):Int) * (n:Int)=((Nat.lcm m n:Nat):Int):=by rw [← e2];exact (Int.natCast_mul _ _).symm
 rw [e3]
 have hl:0 < Nat.lcm m n:=Nat.lcm_pos hm hn
 refine ⟨by omega,?_,Int.natCast_dvd_natCast.mpr (Nat.dvd_lcm_right m n),Int.natCast_dvd_natCast.mpr (Nat.dvd_lcm_left m n)⟩
 rw [← Int.dvd_natAbs]
 exact Int.natCast_dvd_natCast.mpr (Nat.lcm_dvd (Int.ofNat_dvd_left.mp h1) (Int.ofNat_dvd_left.mp h2))
theorem gcd_bounds{S b:Int}(hS:0 < S)(hb:0 < b):0 < Int.gcd S b∧(Int.gcd S b:Int)≤S∧(Int.gcd S b:Int)≤b∧0≤S.fdiv (Int.gcd S b)∧S.fdiv (Int.gcd S b)≤S:=by
 have h1:0 < Int.gcd S b:=Nat.pos_of_ne_zero fun z=>by have:=(Int.gcd_eq_zero_iff.mp z).2;omega
 have h2:Int.gcd S b≤S.natAbs:=Nat.le_of_dvd (by omega) (Nat.gcd_dvd_left _ _)
 have h3:Int.gcd S b≤b.natAbs:=Nat.le_of_dvd (by omega) (Nat.gcd_dvd_right _ _)
 rw [Int.fdiv_eq_ediv_of_nonneg _ (by omega)]
 exact ⟨h1,by omega,by omega,Int.ediv_nonneg (by omega) (by omega),Int.ediv_le_self _ (by omega)⟩
end N41
namespace L2
open PySem.W
noncomputable def rMaxL(K:PySem.W.Frag):List V→Hp→VK→Prop:=fun xs H Q=>∃(p:Addr) (is:List Int),xs=[.ref p]∧SqL K H p (is.map V.int)∧is≠[]∧∀v∈is,(∀x∈is,x≤v)→Q (.int v) H
theorem best_gt(val:Nat→Int):∀k,argBest (fun i j=>decide (val i > val j)) k≤k∧∀j,j≤k→val j≤val (argBest (fun i j=>decide (val i > val j)) k):=by
 intro k
 induction k with
 | zero=>exact ⟨Nat.le_refl _,fun j hj=>by rw [Nat.le_zero.mp hj];exact Int.le_refl _⟩
 | succ k ih=>
  unfold argBest
  split
  · rename_i h
    have h:=of_decide_eq_true h
    refine ⟨Nat.le_refl _,fun j hj=>?_⟩
    by_cases e:j=k+1
    · rw [e];exact Int.le_refl _
    · have:=ih.2 j (by omega);omega
  · rename_i h
    have h:¬(val (k+1) > _):=fun z=>h (decide_eq_true z)
    refine ⟨Nat.le_succ_of_le ih.1,fun j hj=>?_⟩
    by_cases e:j=k+1
    · rw [e];omega
    · exact ih.2 j (by omega)
section
variable {X:Cx}
theorem ints_at{is:List Int}{its:List Value}(r:Vals (is.map V.int) its){i:Nat}{v:Value}(hP:its.toArray[i]?=some v):i < is.length∧∃t,v=Value.int (is.getD i 0) t:=by
 have hlen:=r.length
 rw [List.length_map]at hlen
 have hi:i < is.length:=by
  have:=(Array.getElem?_eq_some_iff.mp hP).1
  rw [List.size_toArray]at this
  omega
 obtain ⟨u,hu,ru⟩:=r.get (i:=i) (x:=V.int (is[i])) (by simp [hi])
 have e:u=v:=by
  have:its[i]?=some v:=by simpa using hP
  rw [hu]at this;exact Option.some.inj this
 subst e
 refine ⟨hi,?_⟩
 rw [List.getD_eq_getElem?_getD,List.getElem?_eq_getElem hi]
 exact ru
theorem call_maxL(hc:X.calm=true):CallR X (.builtin "max") (rMaxL X.K):=by
 intro pins s σ H xs us Q I r h
 obtain ⟨p,is,rfl,hp,hne,q⟩:=h
 obtain ⟨u,rfl,ru⟩:=vals1 r
 cases ru
 obtain ⟨its,r,pl,hz⟩:=I.list hp
 have hlt:p < s.heap.objs.size:=by obtain ⟨o,n,e,_⟩:=pl;exact Heap.lt_size e
 have hlen:=r.length
 rw [List.length_map]at hlen
 have hpos:0 < is.length:=List.length_pos_iff.mpr hne
 have hb:=best_gt (fun i=>is.getD i 0) (is.length - 1)
 refine call_max_walkS (wpAny_pyIter_list pl.isList ⟨s.heap.objs.size,_,_,_,_,_,_,fun i j=>decide (is.getD i 0 > is.getD j 0),rfl,(Walks.list (show X.A.in1.handled=none from I.ok.hd hc) s.heap.objs.size p (Nat.ne_of_lt hlt) its.toArray).toS,⟨⟨_,Heap.get?_push_size _ rfl,rfl,rfl⟩,pl.isList.push _⟩,fun b hb=>?_,by rw [List.size_toArray];omega,CmpOf.ints_gt (fun i=>is.getD i 0) (fun i v hP=>(ints_at r hP).2),fun v s' hP hmv=>?_⟩)
 · show b < (s.heap.push _).objs.size
   rw [Heap.size_push]
   rcases List.mem_cons.mp hb with e | hb
   · rw [e];exact Nat.lt_succ_self _
   · rw [List.mem_singleton.mp hb];exact Nat.lt_succ_of_lt hlt
 · have hk:∀b o,s.heap.get? b=some o→s'.heap.get? b=some o:=fun b o e=>
    hmv.heap b o (fun hI=>absurd (Heap.lt_size e) (by rw [List.mem_singleton.mp hI];exact Nat.lt_irrefl _)) (Heap.get?_push_of_some _ e)
   rw [Moved.eq_with hmv]
   rw [List.size_toArray,← hlen]at hP
   obtain ⟨hi,t,rfl⟩:=ints_at r hP
   refine ⟨V.int _,H,I.kept (t':=s'.toks) hk,⟨t,rfl⟩,q _ ?_ fun x hx=>?_⟩
   · rw [List.getD_eq_getElem?_getD,List.getElem?_eq_getElem hi];exact List.getElem_mem hi
   · obtain ⟨j,hj⟩:=List.mem_iff_getElem?.mp hx
     have hjl:=(List.getElem?_eq_some_iff.mp hj).1
     have:=hb.2 j (by omega)
     rw [show is.getD j 0=x by rw [List.getD_eq_getElem?_getD,hj];rfl]at this
     exact this
end
section
variable {K:PySem.W.Frag} {H:Hp} {Q:VK} {xs:List V}
theorem rd_maxL:rMaxL K xs H Q=∃(p:Addr) (is:List Int),xs=[.ref p]∧SqL K H p (is.map V.int)∧is≠[]∧∀v∈is,(∀x∈is,x≤v)→Q (.int v) H:=rfl
end
end L2
namespace L2
theorem rd_augN{σ:St}{H:Hp}{D:Ends}{i:Nat}{te:TE}{ti:TIp}:tAug i te ti D σ H=∃x,σ[i]?=some (some x)∧te σ H fun y H1=>ti x y H1 fun z H2=>D.nx (σ.set i (some z)) H2:=rfl
end L2
namespace N41
open L2 N1 N5 N31 N4 N32
theorem fdiv_in{S b:Int}(hS:0 < S)(hb:0 < b):0≤S.fdiv b∧S.fdiv b≤S:=by
 rw [Int.fdiv_eq_ediv_of_nonneg _ (by omega)]
 exact ⟨Int.ediv_nonneg (by omega) (by omega),Int.ediv_le_self _ (by omega)⟩
theorem getD_s{ys:List Str}{k:Nat}(h:k < ys.length):ys[k]?=some (ys.getD k Str.empty):=by rw [List.getD_eq_getElem?_getD,List.getElem?_eq_getElem h];rfl
end N41
namespace L2
noncomputable def LikeN(K:PySem.W.Frag):Nat→Hp→V→V→Prop
 | 0,_,x,y=>x=y∧flatV x=true
 | n+1,H,x,y=>LikeN K n H x y∨∃a b xs ys,x= .ref a∧y= .ref b∧((SqL K H a xs∧SqL K H b ys)∨(SqT K H a xs∧SqT K H b ys))∧xs.length=ys.length∧∀(i:Nat) (x' y':V),xs[i]?=some x'→ys[i]?=some y'→LikeN K n H x' y'
noncomputable def LikeR(K:PySem.W.Frag)(n:Nat)(H:Hp)(x y:V):Prop:=∃a b xs ys,x= .ref a∧y= .ref b∧((SqL K H a xs∧SqL K H b ys)∨(SqT K H a xs∧SqT K H b ys))∧xs.length=ys.length∧∀(i:Nat) (x' y':V),xs[i]?=some x'→ys[i]?=some y'→LikeN K n H x' y'
theorem LikeN.up{K:PySem.W.Frag}{H:Hp}{n:Nat}{x y:V}(h:LikeN K n H x y):LikeN K (n+1) H x y:=by unfold LikeN;exact .inl h
theorem LikeN.of{K:PySem.W.Frag}{H:Hp}{n:Nat}{x y:V}(h:LikeR K n H x y):LikeN K (n+1) H x y:=by unfold LikeN;exact .inr h
theorem LikeN.flat{K:PySem.W.Frag}{H:Hp}{x:V}(h:flatV x=true):∀{n:Nat},LikeN K n H x x:=by
 intro n
 induction n with
 | zero=>unfold LikeN;exact ⟨rfl,h⟩
 | succ n ih=>exact ih.up
section
variable {X:Cx} {pins:List (Addr×Obj)} {σ:St} {H:Hp} {s:Shared}
theorem items_of{xs ys:List V}{us ws:List Value}{P:V→V→Prop}{R:Value→Value→Prop}(rx:Vals xs us)(ry:Vals ys ws)(hl:xs.length=ys.length)(h:∀(i:Nat) (x y:V),xs[i]?=some x→ys[i]?=some y→P x y)(k:∀x y u w,RelV x u→RelV y w→P x y→R u w):
 ∀j (h1:j < us.toArray.size) (h2:j < ws.toArray.size),R us.toArray[j] ws.toArray[j]:=by
 intro j h1 h2
 have lx:=rx.length
 have ly:=ry.length
 rw [List.size_toArray]at h1 h2
 have hx:j < xs.length:=by omega
 have hy:j < ys.length:=by omega
 obtain ⟨u,hu,ru⟩:=rx.get (i:=j) (x:=xs[j]) (by simp [hx])
 obtain ⟨w,hw,rw'⟩:=ry.get (i:=j) (x:=ys[j]) (by simp [hy])
 have eu:us.toArray[j]=u:=by
  have:=List.getElem?_eq_getElem h1
  rw [this]at hu
  simpa using hu
 have ew:ws.toArray[j]=w:=by
  have:=List.getElem?_eq_getElem h2
  rw [this]at hw
  simpa using hw
 rw [eu,ew]
 exact k _ _ _ _ ru rw' (h j _ _ (List.getElem?_eq_getElem hx) (List.getElem?_eq_getElem hy))
theorem all_true{n:Nat}:((List.range n).all fun _=>true)=true:=by rw [List.all_eq_true];intros;rfl
theorem likeR_rc{n:Nat}{x y:V}{u w:Value}{A:Around}(I:Inv X pins σ H s)(rx:RelV x u)(ry:RelV y w)(h:LikeR X.K n H x y)(hu:A.units < cLine)
 (k:∀x y u w,RelV x u→RelV y w→LikeN X.K n H x y→SeqAt.EqAt A.in1 s u w true):SeqAt.RcAt A s u w true∧SeqAt.RcNeAt A s u w false:=by
 obtain ⟨a,b,xs,ys,rfl,rfl,hq,hl,hall⟩:=h
 cases rx
 cases ry
 rcases hq with ⟨h1,h2⟩ | ⟨h1,h2⟩
 · obtain ⟨us,r1,p1,z1⟩:=I.list h1
   obtain ⟨ws,r2,p2,z2⟩:=I.list h2
   have lx:=r1.length
   have ly:=r2.length
   have he:=items_of r1 r2 hl hall k
   have c1:=SeqAt.RcAt.lists (e:=fun _=>true) p1.isList p2.isList (by simp;omega) hu he
   have c2:=SeqAt.RcNeAt.lists (e:=fun _=>true) p1.isList p2.isList (by simp;omega) hu he
   rw [all_true]at c1 c2
   exact ⟨c1,c2⟩
 · obtain ⟨us,r1,p1,z1⟩:=I.tuple h1
   obtain ⟨ws,r2,p2,z2⟩:=I.tuple h2
   have lx:=r1.length
   have ly:=r2.length
   have he:=items_of r1 r2 hl hall k
   have hsz:us.toArray.size=ws.toArray.size:=by simp;omega
   have c1:=SeqAt.RcAt.tuples (e:=fun _=>true) (show s.heap.IsTuple a us.toArray from p1) (show s.heap.IsTuple b ws.toArray from p2) hu he
   have c2:=SeqAt.RcNeAt.tuples (e:=fun _=>true) (show s.heap.IsTuple a us.toArray from p1) (show s.heap.IsTuple b ws.toArray from p2) hu he
   rw [all_true,hsz,beq_self_eq_true,Bool.and_true]at c1 c2
   exact ⟨c1,c2⟩
theorem likeN_at(I:Inv X pins σ H s):∀(n:Nat) (x y:V) (u w:Value) (A:Around),RelV x u→RelV y w→LikeN X.K n H x y→A.units+n < cLine→SeqAt.EqAt A s u w true:=by
 intro n
 induction n with
 | zero=>
  intro x y u w A rx ry h hu
  unfold LikeN at h
  obtain ⟨rfl,f⟩:=h
  have:=eqAt_V (A:=A) (s:=s) rx ry f f
  rw [show eqV x x=true from eqV_self f]at this
  exact this
 | succ n ih=>
  intro x y u w A rx ry h hu
  unfold LikeN at h
  rcases h with h | h
  · exact ih x y u w A rx ry h (by omega)
  · have c:=likeR_rc I rx ry h (by omega) (fun x y u w r1 r2 k=>ih x y u w A.in1 r1 r2 k (by show A.units+1+n < cLine;omega))
    obtain ⟨a,b,xs,ys,rfl,rfl,_⟩:=h
    cases rx
    cases ry
    by_cases e:a=b
    · subst e;exact SeqAt.EqAt.same _
    · exact SeqAt.EqAt.of_refs e c.1
noncomputable def rEqN(K:PySem.W.Frag)(n:Nat):R2:=fun x y H Q=>LikeR K n H x y∧Q (.bl true) H
noncomputable def rNeN(K:PySem.W.Frag)(n:Nat):R2:=fun x y H Q=>LikeR K n H x y∧Q (.bl false) H
theorem op_neN{k:Nat}(n:Nat)(hr:Room k X.A)(hn:n≤100:=by decide):OpR X (compareOp .NotEq) (rNeN X.K n):=by
 intro pins s σ H x y v u Q I rx ry h
 have hu:X.A.units < cLine:=Nat.lt_of_le_of_lt (by omega) hr.un
 exact (likeR_rc I rx ry h.1 hu (fun x y u w r1 r2 k=>likeN_at I n x y u w X.A.in1 r1 r2 k (by have:=hr.un;show X.A.units+1+n < cLine;omega))).2 X.prog X.w X.xe _ ⟨.bl false,H,I,rfl,h.2⟩
theorem rd_eqN{K:PySem.W.Frag}{H:Hp}{Q:VK}{x y:V}{n:Nat}:rEqN K n x y H Q=(LikeR K n H x y∧Q (.bl true) H):=rfl
theorem rd_neN{K:PySem.W.Frag}{H:Hp}{Q:VK}{x y:V}{n:Nat}:rNeN K n x y H Q=(LikeR K n H x y∧Q (.bl false) H):=rfl
end
end L2
namespace L2
open PySem.W
noncomputable def rMaxV:List V→Hp→VK→Prop:=fun xs H Q=>∃(v d:Addr) (kvs:List (Key×V)) (is:List Int),xs=[.ref v]∧H v=some (viewO v d)∧H d=some (.dK kvs)∧kvs.map (·.2)=is.map V.int∧is≠[]∧∀m∈is,(∀x∈is,x≤m)→Q (.int m) H
section
variable {X:Cx}
theorem rd_maxV{xs:List V}{H:Hp}{Q:VK}:rMaxV xs H Q=∃(v d:Addr) (kvs:List (Key×V)) (is:List Int),xs=[.ref v]∧H v=some (viewO v d)∧H d=some (.dK kvs)∧kvs.map (·.2)=is.map V.int∧is≠[]∧∀m∈is,(∀x∈is,x≤m)→Q (.int m) H:=rfl
end
end L2
namespace N14
open L2 N1 N5 N4 N6 N12 N32
noncomputable abbrev Row:=Str×Bool×List Str
structure BookAt(K:PySem.W.Frag)(H:Hp)(b:Addr)(as gs:List Addr)(rs:List Row):Prop where
 l:SqL K H b (as.map V.ref)
 n:as.length=rs.length
 m:gs.length=rs.length
 t:∀(i:Nat) (a g:Addr) (r:Row),as[i]?=some a→gs[i]?=some g→rs[i]?=some r→SqT K H a [.str r.1,.bl r.2.1,.ref g]∧SqL K H g (r.2.2.map V.str)
theorem BookAt.same{K:PySem.W.Frag}{H H':Hp}{b:Addr}{as gs:List Addr}{rs:List Row}(s:Same H H')(h:BookAt K H b as gs rs):BookAt K H' b as gs rs:=
 ⟨s.seq h.l,h.n,h.m,fun i a g r e1 e2 e3=>⟨s.tup (h.t i a g r e1 e2 e3).1,s.seq (h.t i a g r e1 e2 e3).2⟩⟩
theorem rm_of{ts:List Th}{z:Str}{r:Int}(nd:(ts.map (·.1)).Nodup)(hz:z∈ts.map (·.1))(h:∀t∈ts,t.1=z→t.2.2=r):rm ts z=r:=by
 obtain ⟨i,t,ht,rfl⟩:=mem_nth hz
 rw [rm_at nd ht,h t (List.mem_of_getElem? ht) rfl]
theorem lyD_mem{ls:Ly}{z u:Str}:u∈lyN (lyD ls z)↔u∈lyN ls∧u≠z:=by
 unfold lyN lyD
 simp only [List.mem_map,List.mem_filter,decide_eq_true_eq]
 constructor
 · rintro ⟨x,⟨h1,h2⟩,rfl⟩;exact ⟨⟨x,h1,rfl⟩,h2⟩
 · rintro ⟨⟨x,h1,rfl⟩,h2⟩;exact ⟨x,⟨h1,h2⟩,rfl⟩
theorem new_same{H H':Hp}{x dx:Addr}{o1 o2:HO}(h1:H x=none)(h2:H dx=none)(sb:SameBut x (upd (upd H dx o1) x o2) H'):Same H H':=fun b o e=>by
 have n1:b≠x:=fun h=>by rw [h,h1]at e;cases e
 have n2:b≠dx:=fun h=>by rw [h,h2]at e;cases e
 exact sb _ _ (by rw [upd_ne n1,upd_ne n2];exact e) n1
theorem new_none{H:Hp}{x dx d:Addr}{o1 o2:HO}(h:upd (upd H dx o1) x o2 d=none):H d=none:=by
 by_cases e1:d=x
 · rw [e1,upd_same]at h;cases h
 rw [upd_ne e1]at h
 by_cases e2:d=dx
 · rw [e2,upd_same]at h;cases h
 rw [upd_ne e2]at h;exact h
theorem same_none{H H':Hp}{d:Addr}(s:Same H H')(h:H' d=none):H d=none:=by
 cases e:H d with
 | none=>rfl
 | some o=>rw [s _ _ e]at h;cases h
theorem but_same{H H' H1:Hp}{d:Addr}(s:Same H H')(hd:H d=none)(sb:SameBut d H' H1):Same H H1:=fun b o e=>sb _ _ (s _ _ e) fun h=>by rw [h,hd]at e;cases e
theorem upd_but{H H':Hp}{l:Addr}{o:HO}(s:Same H H')(hl:H l=none):Same H (upd H' l o):=fun b u e=>by
 rw [upd_ne (fun h=>by rw [h,hl]at e;cases e)];exact s _ _ e
structure OkL(R:Str→Int)(ns:List Str)(ls:Ly):Prop where
 nd:(lyN ls).Nodup
 r:∀x∈ls,x.2=R x.1
 s:∀u∈lyN ls,u∈ns
theorem OkL.nil{R:Str→Int}{ns:List Str}:OkL R ns []:=⟨List.nodup_nil,by simp,by simp [lyN]⟩
theorem OkL.drop{R:Str→Int}{ns:List Str}{ls:Ly}{z:Str}(h:OkL R ns ls):OkL R ns (lyD ls z):=
 ⟨by rw [lyD_names h.nd];exact h.nd.erase _,fun x hx=>h.r x (List.mem_filter.mp hx).1,fun u hu=>h.s u (lyD_mem.mp hu).1⟩
theorem OkL.put{R:Str→Int}{ns:List Str}{ls:Ly}{z:Str}(h:OkL R ns ls)(hz:z∉lyN ls)(hn:z∈ns):OkL R ns (ls++[(z,R z)]):=by
 have e:lyN (ls++[(z,R z)])=lyN ls++[z]:=by unfold lyN;rw [List.map_append];rfl
 refine ⟨?_,?_,?_⟩
 · rw [e,List.nodup_append]
   refine ⟨h.nd,by simp,fun y hy u hu=>?_⟩
   rw [List.mem_singleton]at hu
   rw [hu]
   exact fun e=>hz (e▸hy)
 · intro x hx
   rcases List.mem_append.mp hx with h1 | h1
   · exact h.r x h1
   · rw [List.mem_singleton.mp h1]
 · intro u hu
   rw [e]at hu
   rcases List.mem_append.mp hu with h1 | h1
   · exact h.s u h1
   · rw [List.mem_singleton.mp h1];exact hn
noncomputable def Kp(M:List Addr)(H H':Hp):Prop:=∀b o,b∉M→H b=some o→H' b=some o
theorem Kp.trans{M:List Addr}{H H1 H2:Hp}(h1:Kp M H H1)(h2:Kp M H1 H2):Kp M H H2:=fun b o n e=>h2 b o n (h1 b o n e)
theorem Kp.of{M:List Addr}{H H1:Hp}(h:Same H H1):Kp M H H1:=fun b o _ e=>h b o e
theorem Kp.upd{M:List Addr}{H H1:Hp}{p:Addr}{o:HO}(h:Kp M H H1)(hp:p∈M):Kp M H (upd H1 p o):=fun b u n e=>by
 have hb:b≠p:=fun e2=>n (by rw [e2];exact hp)
 rw [upd_ne hb];exact h b u n e
theorem Kp.same{M:List Addr}{H0 H H1:Hp}(s:Same H0 H)(h:Kp M H H1)(hn:∀p∈M,H0 p=none):Same H0 H1:=fun b o e=>h b o (fun hb=>by rw [hn b hb]at e;cases e) (s b o e)
theorem at_snoc{α:Type}{xs:List α}{y z:α}{i:Nat}(h:(xs++[y])[i]?=some z):(i < xs.length∧xs[i]?=some z)∨(i=xs.length∧z=y):=by
 rcases Nat.lt_or_ge i xs.length with h1 | h1
 · rw [List.getElem?_append_left h1]at h;exact .inl ⟨h1,h⟩
 · rw [List.getElem?_append_right h1]at h
   rcases Nat.eq_zero_or_pos (i - xs.length) with e | e
   · rw [e]at h;cases h;exact .inr ⟨by omega,rfl⟩
   · rw [List.getElem?_eq_none (by simp;omega)]at h;cases h
theorem strs_like{K:PySem.W.Frag}{H:Hp}{g g2:Addr}{xs:List Str}(h1:SqL K H g (xs.map V.str))(h2:SqL K H g2 (xs.map V.str)):LikeN K 1 H (.ref g) (.ref g2):=by
 refine LikeN.of ⟨g,g2,_,_,rfl,rfl,.inl ⟨h1,h2⟩,rfl,fun i x y e1 e2=>?_⟩
 rw [e1]at e2
 cases e2
 rw [List.getElem?_map]at e1
 cases e:xs[i]? with
 | none=>rw [e]at e1;cases e1
 | some s=>rw [e]at e1;cases e1;exact LikeN.flat rfl
end N14
namespace L2
structure DefB(P:Program)(w:World)(K:PySem.W.Frag)(mg:Str→Option Value)(base:Heap)(CX:CXT)(k:Nat)(x:Str)(C:Addr)(ps:List Str)(sp:Sp):Prop where
 ex:∃(f:Addr) (fd:FuncData),FnOk P w K mg base CX k f fd ps sp∧Mk K C f∧mg x=some (.ref C)∧Binds K fd ps []∧PySem.W.findCls K (.ref C) (.type "type") "__init__"=some (.val (.ref f))∧PySem.W.keepIn K (.ref f)=true
 sp:PySem.W.specialIn K (.ref C) "__getattribute__"=some (some (.builtin "type.__getattribute__"))
 rd:PySem.W.readsIn K C (.type "type")=true
noncomputable def tCallS(sp:Sp)(EE:St→XK)(t:TA):TE:=fun σ H Q=>t σ H fun vs H1=>sp vs H1 Q (EE σ)
section
variable {X:Cx} {CX:CXT} {k j:Nat} {C:Addr} {ps:List Str} {sp:Sp} {EE:St→XK} {x:Str} {pos apos:Pos} {e o:Expr} {es:List Expr} {t:TA}
theorem pe_initC{pl:Sem Bool}(D:DefB X.prog X.w X.K X.mg X.base CX j x C ps sp)(hr:Room k X.A)(hx:PassesS CX X EE)(he:PE X o (tC (.ref C)))(ha:PA X (e::es) t)(hj:j≤k:=by decide)
 (hst:starEach (e::es) X.env=(false,eval e X.env)::starEach es X.env:=by rfl) (hpl:(backTo pos (starEach es X.env)).any (·.1)=false:=by rfl)
 (ht:eval (.Call (.Attribute o "__init__" apos) (e::es) [] pos) X.env=(do
  let ov ← eval o X.env
  standAt apos.atName
  let (f,first) ← holding [ov] (getMethod ov "__init__" pl)
  callWith pos f first (backTo pos (starEach (e::es) X.env)) (backToKw pos (keywordEach [] X.env))):=by rfl):
 PE X (.Call (.Attribute o "__init__" apos) (e::es) [] pos) (tCallS sp EE t):=by
 obtain ⟨f,fd,F,M,hm,hb,hc,hk⟩:=D.ex
 intro pins s σ H Q I h
 refine PySem.W.methodCall_KW (pl:=pl) (thn (he pins s σ H (fun v H1=>v= .ref C∧t σ H1 fun vs H2=>sp vs H2 Q (EE σ)) I ⟨rfl,h⟩) fun u s1 hq_=>?_) ht
 obtain ⟨x,H1,I1,rx,q⟩:=hq_
 obtain ⟨rfl,q⟩:=q
 obtain rfl:u=Value.ref C:=rx
 refine PySem.W.method_cls I1.kIn D.sp (PySem.W.cls_value I1.kIn D.rd hc rfl ?_)
 have I2:=I1.tok (s1.toks+1)
 exact PySem.W.callWith_K (first:=[]) (h₀:=X.base) I.ok.mod.kin hk (thn (ha pos pins _ σ H1 _ I2 q) fun us s2 ⟨vs,H2,I3,r,q2⟩=>⟨I3.kIn,run_fnS (us:=us) (vs:=vs) (F.mono hj) hr hb hx I3 r q2⟩) hst hpl
theorem rd_callS{σ:St}{H:Hp}{Q:VK}:tCallS sp EE t σ H Q=t σ H fun vs H1=>sp vs H1 Q (EE σ):=rfl
end
end L2
namespace N20
open L2 N1 N5 N4 N6 N12 N32 N14
theorem join_nilL:∀(l:List Nat),Str.join (Str.ofString "") (l.map fun c=>(⟨#[c]⟩:Str))=tx l
 | []=>T_empty
 | [c]=>rfl
 | c::d::r=>by
  have ih:=join_nilL (d::r)
  show (⟨#[c]⟩:Str)++Str.ofString ""++Str.join (Str.ofString "") ((d::r).map fun c=>(⟨#[c]⟩:Str))=tx (c::d::r)
  rw [ih,T_one,T_nil,T_app,T_app]
  rfl
theorem join_ones(l:List Nat):Txt.join (Str.ofString "") (l.map fun c=>(⟨#[c]⟩:Str))=tx l:=by
 rw [← join_nilL]
 exact StrLaws.glued_eq_join _ _
theorem slice_from{l:List Nat}{n:Int}(h0:0≤n)(h1:n≤l.length):Txt.slice (tx l) (some n) none=tx (l.drop n.toNat):=by
 rw [PyProof.Rows.slice_from_eq (b:=((tx l).length:Int)) h0 (by rw [T_len];exact h1) rfl]
 show tx _=tx _
 rw [T_list,T_len,List.take_of_length_le (by rw [List.length_drop];omega)]
noncomputable def nm3(B:List Nat)(at':Nat)(e:Int)(k:Nat):List Nat:=B.take at'++[bc ((e+k) % 26)]++B.drop (at'+1)++List.replicate (k / 26) 122
theorem nm3_len{B:List Nat}{at':Nat}{e:Int}{k:Nat}(h:at' < B.length):(nm3 B at' e k).length=B.length+k / 26:=by
 unfold nm3
 simp only [List.length_append,List.length_take,List.length_drop,List.length_cons,List.length_nil,List.length_replicate]
 omega
theorem nm3_at{B:List Nat}{at':Nat}{e:Int}{k:Nat}(h:at' < B.length):(nm3 B at' e k)[at']?=some (bc ((e+k) % 26)):=by
 unfold nm3
 rw [List.append_assoc,List.append_assoc,List.getElem?_append_right (by rw [List.length_take];omega)]
 rw [List.length_take,show at' - min at' B.length=0 by omega]
 rfl
theorem nm3_inj{B:List Nat}{at':Nat}{e:Int}{k k':Nat}(h:at' < B.length)(he:nm3 B at' e k=nm3 B at' e k'):k=k':=by
 have e1:=congrArg List.length he
 rw [nm3_len h,nm3_len h]at e1
 have e2:=nm3_at (e:=e) (k:=k) h
 rw [he,nm3_at h]at e2
 have e3:=bc_inj (by omega) (by omega) (by omega) (by omega) (Option.some.inj e2)
 omega
theorem nm3_name{B:List Nat}{at':Nat}{e:Int}{k:Nat}(h:at' < B.length)(h6:B.length≤6)(hk:k < 78)(hB:∀c∈B,c∈letters++figures)(hh:∃c r,B=c::r∧c∈letters):nameB (nm3 B at' e k)=true:=by
 have hall:∀x∈nm3 B at' e k,x∈letters++figures:=by
  intro x hx
  unfold nm3 at hx
  rcases List.mem_append.mp hx with hx | hx
  · rcases List.mem_append.mp hx with hx | hx
    · rcases List.mem_append.mp hx with hx | hx
      · exact hB x (List.mem_of_mem_take hx)
      · rw [List.mem_singleton.mp hx];exact List.mem_append_left _ bc_let
    · exact hB x (List.mem_of_mem_drop hx)
  · rw [List.eq_of_mem_replicate hx];decide
 have hl:=nm3_len (e:=e) (k:=k) h
 have hl1:1≤(nm3 B at' e k).length:=by omega
 have hl8:(nm3 B at' e k).length≤8:=by omega
 have hhd:headIn (nm3 B at' e k) letters=true:=by
  obtain ⟨c,r,rfl,hc⟩:=hh
  cases at' with
  | zero=>exact decide_eq_true bc_let
  | succ n=>exact decide_eq_true hc
 unfold nameB
 rw [decide_eq_true hl1,decide_eq_true hl8,hhd]
 simp only [Bool.true_and]
 exact List.all_eq_true.mpr fun x hx=>decide_eq_true (hall x hx)
noncomputable def sp20_stream:Sp:=fun vs H Q _=>∃(c:Int) (m:Nat),vs=[.int c,.int m]∧m≤1000∧∀(p:Addr) (xs:List Int) (H':Hp),H p=none→Same H H'→H' p=some (.lst (xs.map V.int))→xs.length=m→(∀x∈xs,0≤x)→Q (.ref p) H'
noncomputable def sp20_rows(K:PySem.W.Frag):Sp:=fun vs H Q _=>∃(a:Addr) (ns:List Int),vs=[.ref a]∧SqL K H a (ns.map V.int)∧ns.length≤63∧
 ∀(r:Addr) (as:List Addr) (ts:List Th) (H':Hp),Same H H'→H' r=some (.lst (as.map V.ref))→RowsAt K H' r as ts→1≤ts.length→Q (.ref r) H'
noncomputable def sp20_places(K:PySem.W.Frag):Sp:=fun vs H Q _=>∃(r:Addr) (c:Int) (as:List Addr) (ts:List Th),vs=[.ref r,.int c]∧RowsAt K H r as ts∧1≤ts.length∧∀(n:Int) (H':Hp),Same H H'→1≤n→n≤1000000→(∀t∈ts,t.2.2≤n)→Q (.int n) H'
noncomputable def rmK(ts:List Th):List (Key×V):=ts.map fun t=>(Sum.inr t.1,.int t.2.2)
noncomputable def sp20_rooms(K:PySem.W.Frag):Sp:=fun vs H Q _=>∃(r:Addr) (as:List Addr) (ts:List Th),vs=[.ref r]∧RowsAt K H r as ts∧∀(e:Addr) (H':Hp),Same H H'→H' e=some (.dK (rmK ts))→Q (.ref e) H'
noncomputable def sp20_same(K:PySem.W.Frag):Sp:=fun vs H Q _=>∃(x y:Addr) (as gs as2 gs2:List Addr) (rs:List N14.Row),vs=[.ref x,.ref y]∧H x=some (.lst (as.map V.ref))∧(∀(i:Nat) a,as[i]?=some a→∃xs,H a=some (.tup xs))∧BookAt K H x as gs rs∧BookAt K H y as2 gs2 rs∧rs.length≤200∧∀H',Same H H'→Q (.bl true) H'
end N20
namespace N20
open L2 N1 N5 N4 N6 N12 N32 N14
noncomputable def th0:Th:=(Str.empty,0,0)
theorem th_at{ts:List Th}{i:Nat}(h:i < ts.length):ts[i]?=some (ts.getD i th0):=by
 rw [List.getD_eq_getElem?_getD,List.getElem?_eq_getElem h];rfl
theorem rows_ts{K:PySem.W.Frag}{H:Hp}{D:Addr}{yl:List V}{ts:List Th}(hD:H D=some (.lst yl))(hl:yl.length=ts.length)(hm:ts.length≤60)(nd:(ts.map (·.1)).Nodup)(hn:∀t∈ts,nameB t.1.cps.toList=true∧0≤t.2.1∧t.2.1≤10 ^ 30∧1≤t.2.2∧t.2.2≤1000)
 (hall:∀i y,yl[i]?=some y→∃t,y=V.ref t∧SqT K H t [.str (ts.getD i th0).1,.int (ts.getD i th0).2.1,.int (ts.getD i th0).2.2]):∃as,yl=as.map V.ref∧RowsAt K H D as ts:=by
 have e:yl=(yl.map aOf).map V.ref:=by
  rw [List.map_map]
  refine (List.map_id yl).symm.trans (List.map_congr_left fun y hy=>?_)
  obtain ⟨i,hi⟩:=List.mem_iff_getElem?.mp hy
  obtain ⟨t,rfl,_⟩:=hall i y hi
  rfl
 refine ⟨yl.map aOf,e,⟨by rw [← e];exact SqL.of hD,by rw [List.length_map,hl],hm,fun i a t h1 h2=>?_,hn,nd⟩⟩
 rw [List.getElem?_map]at h1
 have hi:i < ts.length:=(List.getElem?_eq_some_iff.mp h2).1
 rw [th_at hi]at h2
 cases h2
 cases hy':yl[i]? with
 | none=>rw [hy']at h1;cases h1
 | some y=>
  rw [hy']at h1
  obtain ⟨t,rfl,hs⟩:=hall i y hy'
  cases h1
  exact hs
noncomputable def lyOf(ts:List Th):Ly:=ts.map fun t=>(t.1,t.2.2)
theorem lyOf_names(ts:List Th):lyN (lyOf ts)=ts.map (·.1):=by unfold lyOf lyN;rw [List.map_map];rfl
theorem lyOf_K(ts:List Th):lyK (lyOf ts)=rmK ts:=by unfold lyOf lyK rmK;rw [List.map_map];rfl
noncomputable def mkTs(ys:List Str)(xs:List Int)(m:Nat)(w:Int):List Th:=(List.range m).map fun k=>(ys.getD k Str.empty,xs.getD k 0 % 1000,1+xs.getD (m+k) 0 % w)
theorem mkTs_len{ys:List Str}{xs:List Int}{m:Nat}{w:Int}:(mkTs ys xs m w).length=m:=by unfold mkTs;rw [List.length_map,List.length_range]
theorem mkTs_at{ys:List Str}{xs:List Int}{m:Nat}{w:Int}{k:Nat}(h:k < m):(mkTs ys xs m w).getD k th0=(ys.getD k Str.empty,xs.getD k 0 % 1000,1+xs.getD (m+k) 0 % w):=by
 unfold mkTs
 rw [List.getD_eq_getElem?_getD,List.getElem?_map,List.getElem?_range h];rfl
theorem mkTs_names{ys:List Str}{xs:List Int}{m:Nat}{w:Int}(h:ys.length=m):(mkTs ys xs m w).map (·.1)=ys:=by
 unfold mkTs
 rw [List.map_map,← h]
 refine List.ext_getElem? fun i=>?_
 rw [List.getElem?_map]
 by_cases hi:i < ys.length
 · rw [List.getElem?_range hi,List.getElem?_eq_getElem hi]
   show some (ys.getD i Str.empty)=_
   rw [List.getD_eq_getElem?_getD,List.getElem?_eq_getElem hi];rfl
 · rw [List.getElem?_eq_none (by rw [List.length_range];omega),List.getElem?_eq_none (by omega)];rfl
theorem cat_ints(a b:List Int):a.map V.int++b.map V.int=(a++b).map V.int:=(List.map_append ..).symm
theorem sum_bounds:∀{l:List Int},(∀x∈l,1≤x∧x≤1000)→(l.length:Int)≤l.sum∧l.sum≤1000 * (l.length:Int)
 | [],_=>by simp
 | x::r,h=>by
  have h1:=h x (List.mem_cons_self ..)
  have h2:=sum_bounds (l:=r) fun y hy=>h y (List.mem_cons_of_mem _ hy)
  rw [List.sum_cons,List.length_cons]
  omega
theorem cut_8_68(ns:List Int):∃cs:List Int,cutV (ns.map V.int) (some 8) (some 68)=cs.map V.int∧cs.length≤ns.length - 8:=by
 unfold cutV
 rw [← List.map_drop,← List.map_take]
 refine ⟨_,rfl,?_⟩
 rw [List.length_take,List.length_drop,List.length_map]
 have e:HT.sIx ns.length 0 (some 8)=min 8 ns.length:=HT.sIx_nat _ _ 8
 rw [e]
 omega
noncomputable def pick1(ts:List Th)(c:Int):Str:=(ts.getD (c % (ts.length:Int)).toNat th0).1
noncomputable def pickV(ts:List Th):V→V
 | .int c=> .str (pick1 ts c)
 | _=> .non
theorem pickV_list{ts:List Th}{cs:List Int}:(cs.map V.int).map (pickV ts)=(cs.map (pick1 ts)).map V.str:=by
 rw [List.map_map,List.map_map];rfl
theorem zz_slice{k:Nat}(h:k < 78):Txt.slice (Str.ofString "zz") none (some ((k:Int) / 26))=tx (List.replicate (k / 26) 122):=by
 have e:Str.ofString "zz"=tx [122,122]:=by decide+kernel
 rw [e,slice_to (by omega) (by simp only [List.length_cons,List.length_nil];omega),show ((k:Int) / 26).toNat=k / 26 by omega]
 have hq:k / 26=0∨k / 26=1∨k / 26=2:=by omega
 rcases hq with e | e | e <;> rw [e] <;> rfl
theorem int_at{xs:List Int}{i:Nat}(h:i < xs.length):xs[i]?=some (xs.getD i 0):=by
 rw [List.getD_eq_getElem?_getD,List.getElem?_eq_getElem h];rfl
theorem row_like{K:PySem.W.Frag}{H:Hp}{p p2 g g2:Addr}{row:N14.Row}(t1:SqT K H p [.str row.1,.bl row.2.1,.ref g])(t2:SqT K H p2 [.str row.1,.bl row.2.1,.ref g2])(l1:SqL K H g (row.2.2.map V.str))(l2:SqL K H g2 (row.2.2.map V.str)):LikeR K 1 H (.ref p) (.ref p2):=by
 refine ⟨p,p2,_,_,rfl,rfl,.inr ⟨t1,t2⟩,rfl,fun j x y e1 e2=>?_⟩
 match j with
 | 0=>cases e1;cases e2;exact LikeN.flat rfl
 | 1=>cases e1;cases e2;exact LikeN.flat rfl
 | 2=>cases e1;cases e2;exact strs_like l1 l2
 | j+3=>simp at e1
end N20
namespace NQ
open K03
noncomputable def rt(U v:Int):Int×Int:=(v.fdiv (Int.gcd v U:Nat),U.fdiv (Int.gcd v U:Nat))
section
variable {U W v w i x y:Int}
theorem rt_all(h:0 < U):(rt U v).1 * U=v * (rt U v).2∧0 < (rt U v).2∧Int.gcd (rt U v).1 (rt U v).2=1∧(rt U v).1.natAbs≤v.natAbs∧(rt U v).2.natAbs≤U.natAbs:=by
 have hg:0 < Int.gcd v U:=Nat.pos_of_ne_zero fun z=>by have:=(Int.gcd_eq_zero_iff.mp z).2;omega
 exact lowest (d:=((Int.gcd v U:Nat):Int)) (by omega) (Int.natAbs_natCast _) ⟨fun _=>h,fun _=>by omega⟩
theorem dvd_cop{a b c:Int}(h:b ∣ a * c)(g:Int.gcd a b=1):b ∣ c:=by
 rw [← Int.natAbs_dvd_natAbs]at h ⊢
 rw [Int.natAbs_mul]at h
 exact Nat.Coprime.dvd_of_dvd_mul_left (show Nat.gcd b.natAbs a.natAbs=1 by rw [Nat.gcd_comm];exact g) h
theorem rt_uniq{p:Int×Int}(h:0 < U)(h1:0 < p.2)(h2:Int.gcd p.1 p.2=1)(h3:p.1 * U=v * p.2):p=rt U v:=by
 obtain ⟨c1,c2,c3,_⟩:=rt_all (v:=v) h
 generalize rt U v=q at c1 c2 c3
 have e:p.1 * q.2=q.1 * p.2:=by
  have:(p.1 * q.2) * U=(q.1 * p.2) * U:=by
   have a1:(p.1 * q.2) * U=(p.1 * U) * q.2:=by simp only [Int.mul_assoc,Int.mul_comm,Int.mul_left_comm]
   have a2:(q.1 * p.2) * U=(q.1 * U) * p.2:=by simp only [Int.mul_assoc,Int.mul_comm,Int.mul_left_comm]
   rw [a1,a2,h3,c1]
   simp only [Int.mul_assoc,Int.mul_comm,Int.mul_left_comm]
  exact Int.eq_of_mul_eq_mul_right (by omega) this
 have d1:p.2 ∣ q.2:=by
  have:p.2 ∣ p.1 * q.2:=by rw [e];exact Int.dvd_mul_left ..
  exact dvd_cop this h2
 have d2:q.2 ∣ p.2:=by
  have:q.2 ∣ q.1 * p.2:=by rw [← e];exact Int.dvd_mul_left ..
  exact dvd_cop this c3
 have e2:p.2=q.2:=Int.dvd_antisymm (by omega) (by omega) d1 d2
 have e1:p.1=q.1:=by
  rw [e2]at e
  exact Int.eq_of_mul_eq_mul_right (by omega) e
 exact Prod.ext e1 e2
theorem rt_eq(hU:0 < U)(hW:0 < W)(h:i * U=v * W):rt W i=rt U v:=by
 obtain ⟨c1,c2,c3,_⟩:=rt_all (v:=i) hW
 refine rt_uniq hU c2 c3 ?_
 have:((rt W i).1 * U) * W=(v * (rt W i).2) * W:=by
  have a1:((rt W i).1 * U) * W=((rt W i).1 * W) * U:=by simp only [Int.mul_assoc,Int.mul_comm,Int.mul_left_comm]
  rw [a1,c1]
  have a2:i * (rt W i).2 * U=(i * U) * (rt W i).2:=by simp only [Int.mul_assoc,Int.mul_comm,Int.mul_left_comm]
  rw [a2,h]
  simp only [Int.mul_assoc,Int.mul_comm,Int.mul_left_comm]
 exact Int.eq_of_mul_eq_mul_right (by omega) this
theorem rt_zero(hU:0 < U):rt U 0=(0,1):=(rt_uniq hU (p:=(0,1)) (by decide) (by decide) (by simp)).symm
theorem rt_plus(hU:0 < U):rt ((rt U x).2 * (rt U y).2) ((rt U x).1 * (rt U y).2+(rt U y).1 * (rt U x).2)=rt U (x+y):=by
 obtain ⟨a1,a2,_⟩:=rt_all (v:=x) hU
 obtain ⟨b1,b2,_⟩:=rt_all (v:=y) hU
 refine rt_eq hU (Int.mul_pos a2 b2) ?_
 rw [Int.add_mul,Int.add_mul,show (rt U x).1 * (rt U y).2 * U=((rt U x).1 * U) * (rt U y).2 by simp only [Int.mul_assoc,Int.mul_comm,Int.mul_left_comm],show (rt U y).1 * (rt U x).2 * U=((rt U y).1 * U) * (rt U x).2 by simp only [Int.mul_assoc,Int.mul_comm,Int.mul_left_comm],a1,b1]
 simp only [Int.mul_assoc,Int.mul_comm,Int.mul_left_comm]
theorem rt_minus(hU:0 < U):rt ((rt U x).2 * (rt U y).2) ((rt U x).1 * (rt U y).2 - (rt U y).1 * (rt U x).2)=rt U (x - y):=by
 obtain ⟨a1,a2,_⟩:=rt_all (v:=x) hU
 obtain ⟨b1,b2,_⟩:=rt_all (v:=y) hU
 refine rt_eq hU (Int.mul_pos a2 b2) ?_
 rw [Int.sub_mul,Int.sub_mul,show (rt U x).1 * (rt U y).2 * U=((rt U x).1 * U) * (rt U y).2 by simp only [Int.mul_assoc,Int.mul_comm,Int.mul_left_comm],show (rt U y).1 * (rt U x).2 * U=((rt U y).1 * U) * (rt U x).2 by simp only [Int.mul_assoc,Int.mul_comm,Int.mul_left_comm],a1,b1]
 simp only [Int.mul_assoc,Int.mul_comm,Int.mul_left_comm]
theorem rt_of(hU:0 < U)(hW:0 < W)(h:W ∣ U):rt W i=rt U (i * (U / W)):=by
 refine rt_eq hU hW ?_
 rw [Int.mul_assoc,Int.ediv_mul_cancel h]
theorem rt_under(hU:0 < U):(rt U x).1 * (rt U y).2 < (rt U y).1 * (rt U x).2↔x < y:=by
 obtain ⟨a1,a2,_⟩:=rt_all (v:=x) hU
 obtain ⟨b1,b2,_⟩:=rt_all (v:=y) hU
 have e1:((rt U x).1 * (rt U y).2) * U=x * ((rt U x).2 * (rt U y).2):=by
  rw [show (rt U x).1 * (rt U y).2 * U=((rt U x).1 * U) * (rt U y).2 by simp only [Int.mul_assoc,Int.mul_comm,Int.mul_left_comm],a1,Int.mul_assoc]
 have e2:((rt U y).1 * (rt U x).2) * U=y * ((rt U x).2 * (rt U y).2):=by
  rw [show (rt U y).1 * (rt U x).2 * U=((rt U y).1 * U) * (rt U x).2 by simp only [Int.mul_assoc,Int.mul_comm,Int.mul_left_comm],b1]
  simp only [Int.mul_assoc,Int.mul_comm,Int.mul_left_comm]
 have hp:=Int.mul_pos a2 b2
 constructor
 · intro h
   have:=Int.mul_lt_mul_of_pos_right h hU
   rw [e1,e2]at this
   exact Int.lt_of_mul_lt_mul_right this (by omega)
 · intro h
   have:=Int.mul_lt_mul_of_pos_right h hp
   rw [← e1,← e2]at this
   exact Int.lt_of_mul_lt_mul_right this (by omega)
end
end NQ
namespace L2
noncomputable def Itk(o:Obj)(d:Addr):It:=
 ⟨fun i H=>∃kvs p,H d=some (.frz o (.dK kvs))∧kvs[i]?=some p,fun i H v H'=>H'=H∧∀kvs,H d=some (.frz o (.dK kvs))→∃p,kvs[i]?=some p∧v=kV p.1,
  fun i H=>∃kvs,H d=some (.frz o (.dK kvs))∧kvs.length≤i⟩
section
variable {X:Cx}
noncomputable def iDict(tl:TE):TI:=fun σ H R=>tl σ H fun x H1=>∃d kvs,x= .ref d∧((H1 d=some (.dK kvs)∧∀o,R (Itk o d) (upd H1 d (.frz o (.dK kvs))))∨∃o,H1 d=some (.frz o (.dK kvs))∧R (Itk o d) H1)
end
section
variable {σ:St} {H:Hp} {D:Ends}
theorem rd_idict{tl:TE}{R:It→Hp→Prop}:iDict tl σ H R=tl σ H fun x H1=>∃d kvs,x= .ref d∧((H1 d=some (.dK kvs)∧∀o,R (Itk o d) (upd H1 d (.frz o (.dK kvs))))∨∃o,H1 d=some (.frz o (.dK kvs))∧R (Itk o d) H1):=rfl
end
end L2
namespace L2
section
variable {X:Cx} {pins:List (Addr×Obj)} {σ:St} {H:Hp} {s:Shared}
noncomputable def Thw(H0:Hp)(R:Hp→Prop)(H:Hp):Prop:=R H∨∃d o u,H d=some (.frz o u)∧(∀o' u',H0 d≠some (.frz o' u'))∧R (upd H d u)
noncomputable def tThaw(H0:Hp)(t:TS):TS:=fun D σ H=>t {D with nx:=fun σ H=>Thw H0 (D.nx σ) H,rt:=fun v H=>Thw H0 (D.rt v) H} σ H
end
theorem rd_thaw{H0:Hp}{t:TS}{D:Ends}{σ:St}{H:Hp}:tThaw H0 t D σ H=t {D with nx:=fun σ H=>Thw H0 (D.nx σ) H,rt:=fun v H=>Thw H0 (D.rt v) H} σ H:=rfl
end L2
namespace L2
noncomputable def CHug(i j:Int):Prop:=i.natAbs < 10 ^ 1000∧j.natAbs < 10 ^ 1000
theorem hug_pow:(10:Nat) ^ 1000≤2 ^ 4000:=by decide+kernel
theorem bits_hug{i:Int}(h:i.natAbs < 10 ^ 1000):Builtin.Int.intBits i≤2 ^ 20:=by
 have h1:Builtin.Int.intBits i≤4000:=by
  unfold Builtin.Int.intBits
  split
  · omega
  · rename_i hne
    have:=(Nat.log2_lt (n:=i.natAbs) (k:=4000) (by simpa using hne)).mpr (Nat.lt_of_lt_of_le h hug_pow)
    omega
 exact Nat.le_trans h1 (by decide)
section
variable {X:Cx}
theorem op_mulH:OpR X (binaryOp .Mult) (rI CHug fun i j=> .int (i * j)):=opI fun _ _ _ _ _ _ _ hc q=>mul_int q (.of_bits (bits_hug hc.1) (bits_hug hc.2))
theorem op_fdivH:OpR X (binaryOp .FloorDiv) (rI (fun _ j=>j≠0∧j.natAbs < 10 ^ 1000) fun i j=> .int (i.fdiv j)):=opI fun i j _ _ _ _ _ hc q=>by
 refine floordiv_int hc.1 q (.inl (PyProof.noPylong_of_log2 ?_))
 have h0:j.natAbs≠0:=by have:=hc.1;omega
 exact Nat.lt_trans ((Nat.log2_lt h0).mpr (Nat.lt_of_lt_of_le hc.2 hug_pow)) (by decide)
end
end L2
namespace N57
open L2 N1 N5 N4 N6 N12 N32 N14 N20 NQ
noncomputable def RtA(H:Hp)(a:Addr)(U v:Int):Prop:=H a=some (.tup [.int (rt U v).1,.int (rt U v).2])
noncomputable def RtsA(H:Hp)(us:List Addr)(U:Int)(rs:List Int):Prop:=us.length=rs.length∧∀(i:Nat) (a:Addr) (v:Int),us[i]?=some a→rs[i]?=some v→RtA H a U v
structure Un(U:Int)(ts:List Th):Prop where
 p:0 < U
 b:U≤10 ^ 180
 r:∀t∈ts,1≤t.2.2∧t.2.2≤1000∧t.2.2 ∣ U
 c:∀t∈ts,0≤t.2.1∧t.2.1≤10 ^ 30
noncomputable def Bd(v:Int):Prop:=0≤v∧v≤10 ^ 230
noncomputable def sh(U:Int)(ts:List Th)(z:Str):Int:=N41.cst ts z * (U / rm ts z)
noncomputable def N74s{α:Type}(f:Str→α)(z:Str)(v:α):Str→α:=fun y=>if y=z then v else f y
structure DuX where
 rp:Addr
 dd:Addr
 rr:Addr
structure DuS where
 r:Int
 ks:List Str
 f:Str→Int
 rs:List Int
structure Dfs(p:Addr)(n:Int)(x:DuX)(fs:List (Str×V)):Prop where
 st:fs.lookup (Str.ofString "stock")=some (.ref p)
 pl:fs.lookup (Str.ofString "places")=some (.int n)
 re:fs.lookup (Str.ofString "reached")=some (.ref x.rp)
 du:fs.lookup (Str.ofString "dues")=some (.ref x.dd)
 ri:fs.lookup (Str.ofString "rises")=some (.ref x.rr)
 n:fs.length < 500
 m:∀m∈[Str.ofString "asked",Str.ofString "owe",Str.ofString "choice",Str.ofString "gone",Str.ofString "came",Str.ofString "level",Str.ofString "due_of",Str.ofString "prices",Str.ofString "nests"],fs.lookup m=none
theorem putF_same{f:Str}{v:V}:∀{fs:List (Str×V)},(fs.lookup f).isSome=true→(putF f v fs).length=fs.length:=by
 intro fs
 induction fs with
 | nil=>intro h;cases h
 | cons a r ih=>
  obtain ⟨g,y⟩:=a
  intro h
  show (if g=f then (g,v)::r else (g,y)::putF f v r).length=_
  by_cases e:g=f
  · rw [if_pos e];rfl
  · rw [if_neg e]
    have h2:(r.lookup f).isSome=true:=by
     rw [List.lookup_cons]at h
     rw [show (f==g)=false from by simpa using fun k=>e k.symm]at h
     exact h
    rw [List.length_cons,ih h2];rfl
theorem Dfs.reach{p:Addr}{n:Int}{x:DuX}{fs:List (Str×V)}{a:Addr}(h:Dfs p n x fs):Dfs p n {x with rp:=a} (putF (Str.ofString "reached") (.ref a) fs):=by
 have ne:∀f,f≠Str.ofString "reached"→(putF (Str.ofString "reached") (V.ref a) fs).lookup f=fs.lookup f:=fun f hf=>by rw [lookup_putF,if_neg hf]
 refine ⟨by rw [ne _ (by decide)];exact h.st,by rw [ne _ (by decide)];exact h.pl,by rw [lookup_putF,if_pos rfl],by rw [ne _ (by decide)];exact h.du,by rw [ne _ (by decide)];exact h.ri,?_,fun m hm=>?_⟩
 · rw [putF_same (by rw [h.re];rfl)];exact h.n
 · rw [ne m (fun e=>by rw [e]at hm;revert hm;decide)];exact h.m m hm
structure DuAt(C:Addr)(U:Int)(H:Hp)(q p:Addr)(n:Int)(x:DuX)(s:DuS):Prop where
 o:∃dx fs,H q=some (.ins C dx fs)∧Dfs p n x fs
 rp:RtA H x.rp U s.r
 dd:∃kvs,H x.dd=some (.dK kvs)∧kvs.map (·.1)=s.ks.map Sum.inr∧∀y∈s.ks,∃a,valV kvs (Sum.inr y)=some (.ref a)∧RtA H a U (s.f y)
 rr:∃us,H x.rr=some (.lst (us.map V.ref))∧RtsA H us U s.rs
 nd:s.ks.Nodup
 b:Bd s.r∧(∀y∈s.ks,Bd (s.f y))∧(∀v∈s.rs,Bd v)
 l:s.ks.length≤100∧s.rs.length≤1000
section
variable {C:Addr} {U:Int} {H H':Hp} {q p:Addr} {n:Int} {x:DuX} {s:DuS} {us:List Addr} {rs:List Int} {ts:List Th}
theorem RtsA.keep(h:RtsA H us U rs)(k:∀v e,H v=some (.tup e)→H' v=some (.tup e)):RtsA H' us U rs:=⟨h.1,fun i a v h1 h2=>k _ _ (h.2 i a v h1 h2)⟩
noncomputable def DuM(q:Addr)(x:DuX):List Addr:=[q,x.dd,x.rr]
theorem DuAt.keep(h:DuAt C U H q p n x s)(k1:∀b∈DuM q x,∀o,H b=some o→H' b=some o)(k:∀v e,H v=some (.tup e)→H' v=some (.tup e)):DuAt C U H' q p n x s:=by
 obtain ⟨dx,fs,ho,hf⟩:=h.o
 obtain ⟨kvs,d1,d2,d3⟩:=h.dd
 obtain ⟨us,r1,r2⟩:=h.rr
 exact ⟨⟨dx,fs,k1 _ (by simp [DuM]) _ ho,hf⟩,k _ _ h.rp,⟨kvs,k1 _ (by simp [DuM]) _ d1,d2,fun y hy=>by obtain ⟨a,e1,e2⟩:=d3 y hy;exact ⟨a,e1,k _ _ e2⟩⟩,⟨us,k1 _ (by simp [DuM]) _ r1,r2.keep k⟩,h.nd,h.b,h.l⟩
theorem DuAt.same(h:DuAt C U H q p n x s)(m:Same H H'):DuAt C U H' q p n x s:=h.keep (fun b _ o e=>m _ _ e) fun v e hv=>m _ _ hv
theorem Un.sh(h:Un U ts)(nd:(ts.map (·.1)).Nodup){z:Str}(hz:z∈ts.map (·.1)):0≤sh U ts z∧sh U ts z≤10 ^ 210∧1≤rm ts z∧rm ts z≤1000∧rm ts z ∣ U∧0≤N41.cst ts z∧N41.cst ts z≤10 ^ 30:=by
 obtain ⟨i,t,ht,e⟩:=mem_nth hz
 have hm:=List.mem_of_getElem? ht
 obtain ⟨r1,r2,r3⟩:=h.r t hm
 obtain ⟨c1,c2⟩:=h.c t hm
 have e1:rm ts z=t.2.2:=by rw [← e];exact rm_at nd ht
 have e2:N41.cst ts z=t.2.1:=by rw [← e];exact N41.cst_at nd ht
 unfold N57.sh
 rw [e1,e2]
 have hd:0≤U / t.2.2:=Int.ediv_nonneg (by have:=h.p;omega) (by omega)
 have hd2:U / t.2.2≤U:=Int.ediv_le_self _ (by have:=h.p;omega)
 have hb:=h.b
 refine ⟨Int.mul_nonneg c1 hd,?_,r1,r2,r3,c1,c2⟩
 calc t.2.1 * (U / t.2.2)≤10 ^ 30 * 10 ^ 180:=Int.mul_le_mul c2 (by omega) hd (by decide)
  _=10 ^ 210:=by decide
end
theorem drop_keys{kvs:List (Key×V)}{ks:List Str}{z:Str}(h:kvs.map (·.1)=ks.map Sum.inr)(nd:ks.Nodup):(dropK kvs (Sum.inr z)).map (·.1)=(ks.erase z).map Sum.inr:=by
 unfold dropK
 rw [nd.erase_eq_filter]
 clear nd
 induction kvs generalizing ks with
 | nil=>
  cases ks with
  | nil=>rfl
  | cons k ks=>cases h
 | cons p kvs ih=>
  cases ks with
  | nil=>cases h
  | cons k ks=>
  rw [List.map_cons,List.map_cons]at h
  have h1:p.1=Sum.inr k:=(List.cons.inj h).1
  have h2:=ih (List.cons.inj h).2
  by_cases e:k=z
  · rw [List.filter_cons_of_neg (by rw [h1,e];simp),List.filter_cons_of_neg (by rw [e];simp)];exact h2
  · rw [List.filter_cons_of_pos (by rw [h1];simpa using e),List.filter_cons_of_pos (by simpa using e),List.map_cons,List.map_cons,h1,h2]
theorem drop_val{kvs:List (Key×V)}{k j:Key}(n:j≠k):valV (dropK kvs k) j=valV kvs j:=by
 induction kvs with
 | nil=>rfl
 | cons p r ih=>
  unfold dropK at ih ⊢
  by_cases e:p.1=k
  · rw [List.filter_cons_of_neg (by simpa using e),ih,valV_neg (fun h=>n (by rw [← h,e]))]
  · rw [List.filter_cons_of_pos (by simpa using e)]
    by_cases e2:p.1=j
    · rw [valV_pos e2,valV_pos e2]
    · rw [valV_neg e2,valV_neg e2,ih]
theorem keys_val{kvs:List (Key×V)}{ks:List Str}(h:kvs.map (·.1)=ks.map Sum.inr)(z:Str):(valV kvs (Sum.inr z)).isSome=decide (z∈ks):=by
 induction kvs generalizing ks with
 | nil=>
  cases ks with
  | nil=>rfl
  | cons k ks=>cases h
 | cons p kvs ih=>
  cases ks with
  | nil=>cases h
  | cons k ks=>
  rw [List.map_cons,List.map_cons]at h
  have h1:p.1=Sum.inr k:=(List.cons.inj h).1
  have h2:=ih (List.cons.inj h).2
  by_cases e:z=k
  · rw [valV_pos (by rw [h1,e]),e];simp
  · rw [valV_neg (by rw [h1];exact fun k'=>e (Sum.inr.inj k').symm),h2]
    simp [e]
section
variable {C:Addr} {U:Int} {H H':Hp} {q p:Addr} {n:Int} {x:DuX} {s:DuS} {us:List Addr} {rs:List Int} {ts:List Th} {z:Str} {a:Addr}
theorem DuAt.nq(h:DuAt C U H q p n x s):q≠x.dd∧q≠x.rr∧x.dd≠x.rr:=by
 obtain ⟨dx,fs,ho,_⟩:=h.o
 obtain ⟨kvs,d1,_⟩:=h.dd
 obtain ⟨us,r1,_⟩:=h.rr
 exact ⟨ne_of ho d1 (by intro z;cases z),ne_of ho r1 (by intro z;cases z),ne_of d1 r1 (by intro z;cases z)⟩
theorem DuAt.put(h:DuAt C U H q p n x s){kvs:List (Key×V)}(hk:H x.dd=some (.dK kvs)){v:Int}(ha:RtA H a U v)(hz:z∉s.ks)(hv:Bd v)(hl:s.ks.length < 100):DuAt C U (upd H x.dd (.dK (putK kvs (Sum.inr z) (.ref a)))) q p n x ⟨s.r,s.ks++[z],N74s s.f z v,s.rs⟩:=by
 obtain ⟨dx,fs,ho,hf⟩:=h.o
 obtain ⟨kvs',d1,d2,d3⟩:=h.dd
 obtain ⟨us,r1,r2⟩:=h.rr
 rw [hk]at d1
 cases d1
 obtain ⟨e1,e2,e3⟩:=h.nq
 have kt:∀v e,H v=some (.tup e)→upd H x.dd (.dK (putK kvs (Sum.inr z) (.ref a))) v=some (.tup e):=fun v e hv=>by rw [upd_ne (ne_of hv hk (by intro z;cases z))];exact hv
 refine ⟨⟨dx,fs,by rw [upd_ne e1];exact ho,hf⟩,kt _ _ h.rp,⟨_,upd_same,N8.put_keys d2 hz,fun y hy=>?_⟩,⟨us,by rw [upd_ne e3.symm];exact r1,r2.keep kt⟩,?_,⟨h.b.1,fun y hy=>?_,h.b.2.2⟩,?_,h.l.2⟩
 · by_cases e:y=z
   · refine ⟨a,by rw [valV_put,if_pos (by rw [e])],?_⟩
     show RtA _ a U (N74s s.f z v y)
     rw [show N74s s.f z v y=v from if_pos e];exact kt _ _ ha
   · obtain ⟨b,k1,k2⟩:=d3 y ((List.mem_append.mp hy).resolve_right fun k=>e (List.mem_singleton.mp k))
     refine ⟨b,by rw [valV_put,if_neg (fun k=>e (Sum.inr.inj k))];exact k1,?_⟩
     show RtA _ b U (N74s s.f z v y)
     rw [show N74s s.f z v y=s.f y from if_neg e];exact kt _ _ k2
 · exact List.nodup_append.mpr ⟨h.nd,by simp,fun a ha b hb e=>hz (by rw [← List.mem_singleton.mp hb,← e];exact ha)⟩
 · by_cases e:y=z
   · show Bd (N74s s.f z v y);rw [show N74s s.f z v y=v from if_pos e];exact hv
   · show Bd (N74s s.f z v y);rw [show N74s s.f z v y=s.f y from if_neg e];exact h.b.2.1 y ((List.mem_append.mp hy).resolve_right fun k=>e (List.mem_singleton.mp k))
 · show (s.ks++[z]).length≤100
   rw [List.length_append];simp only [List.length_cons,List.length_nil];omega
theorem DuAt.drop(h:DuAt C U H q p n x s){kvs:List (Key×V)}(hk:H x.dd=some (.dK kvs)):DuAt C U (upd H x.dd (.dK (dropK kvs (Sum.inr z)))) q p n x ⟨s.r,s.ks.erase z,s.f,s.rs⟩:=by
 obtain ⟨dx,fs,ho,hf⟩:=h.o
 obtain ⟨kvs',d1,d2,d3⟩:=h.dd
 obtain ⟨us,r1,r2⟩:=h.rr
 rw [hk]at d1
 cases d1
 obtain ⟨e1,e2,e3⟩:=h.nq
 have kt:∀v e,H v=some (.tup e)→upd H x.dd (.dK (dropK kvs (Sum.inr z))) v=some (.tup e):=fun v e hv=>by rw [upd_ne (ne_of hv hk (by intro z;cases z))];exact hv
 refine ⟨⟨dx,fs,by rw [upd_ne e1];exact ho,hf⟩,kt _ _ h.rp,⟨_,upd_same,drop_keys d2 h.nd,fun y hy=>?_⟩,⟨us,by rw [upd_ne e3.symm];exact r1,r2.keep kt⟩,h.nd.erase z,⟨h.b.1,fun y hy=>h.b.2.1 y (List.mem_of_mem_erase hy),h.b.2.2⟩,?_,h.l.2⟩
 · have hyz:y≠z:=((List.Nodup.mem_erase_iff h.nd).mp hy).1
   obtain ⟨b,k1,k2⟩:=d3 y (List.mem_of_mem_erase hy)
   exact ⟨b,by rw [drop_val (fun k=>hyz (Sum.inr.inj k))];exact k1,kt _ _ k2⟩
 · exact Nat.le_trans (List.length_erase_le) h.l.1
theorem RtsA.set{us:List Addr}{rs:List Int}{k:Nat}{v:Int}(h:RtsA H us U rs)(ha:RtA H a U v):RtsA H (us.set k a) U (rs.set k v):=⟨by rw [List.length_set,List.length_set,h.1],fun i b w h1 h2=>by
 rw [List.getElem?_set]at h1 h2
 by_cases e:k=i
 · rw [if_pos e]at h1 h2
   split at h1
   · split at h2
     · cases h1;cases h2;exact ha
     · cases h2
   · cases h1
 · rw [if_neg e]at h1 h2
   exact h.2 i b w h1 h2⟩
theorem DuAt.reach(h:DuAt C U H q p n x s){dx:Addr}{fs:List (Str×V)}(ho:H q=some (.ins C dx fs))(hf:Dfs p n x fs){v:Int}(ha:RtA H a U v)(hv:Bd v):DuAt C U (upd H q (.ins C dx (putF (Str.ofString "reached") (.ref a) fs))) q p n {x with rp:=a} ⟨v,s.ks,s.f,s.rs⟩:=by
 obtain ⟨kvs,d1,d2,d3⟩:=h.dd
 obtain ⟨us,r1,r2⟩:=h.rr
 obtain ⟨e1,e2,e3⟩:=h.nq
 have kt:∀v e,H v=some (.tup e)→upd H q (.ins C dx (putF (Str.ofString "reached") (.ref a) fs)) v=some (.tup e):=fun v e hv=>by rw [upd_ne (ne_of hv ho (by intro z;cases z))];exact hv
 exact ⟨⟨dx,_,upd_same,hf.reach⟩,kt _ _ ha,⟨kvs,by rw [upd_ne e1.symm];exact d1,d2,fun y hy=>by obtain ⟨b,k1,k2⟩:=d3 y hy;exact ⟨b,k1,kt _ _ k2⟩⟩,⟨us,by rw [upd_ne e2.symm];exact r1,r2.keep kt⟩,h.nd,⟨hv,h.b.2.1,h.b.2.2⟩,h.l⟩
theorem DuAt.rise(h:DuAt C U H q p n x s){us':List Addr}{rs':List Int}(hr:RtsA H us' U rs')(hb:∀v∈rs',Bd v)(hl:rs'.length≤1000):DuAt C U (upd H x.rr (.lst (us'.map V.ref))) q p n x ⟨s.r,s.ks,s.f,rs'⟩:=by
 obtain ⟨dx,fs,ho,hf⟩:=h.o
 obtain ⟨kvs,d1,d2,d3⟩:=h.dd
 obtain ⟨us,r1,r2⟩:=h.rr
 obtain ⟨e1,e2,e3⟩:=h.nq
 have kt:∀v e,H v=some (.tup e)→upd H x.rr (.lst (us'.map V.ref)) v=some (.tup e):=fun v e hv=>by rw [upd_ne (ne_of hv r1 (by intro z;cases z))];exact hv
 exact ⟨⟨dx,fs,by rw [upd_ne e2];exact ho,hf⟩,kt _ _ h.rp,⟨kvs,by rw [upd_ne e3];exact d1,d2,fun y hy=>by obtain ⟨b,k1,k2⟩:=d3 y hy;exact ⟨b,k1,kt _ _ k2⟩⟩,⟨us',upd_same,hr.keep kt⟩,h.nd,⟨h.b.1,h.b.2.1,hb⟩,h.l.1,hl⟩
end
noncomputable def sp57_ratio:Sp:=fun vs H Q _=>∃(i j:Int),vs=[.int i,.int j]∧0 < j∧j < 10 ^ 1000∧∀p,H p=none→Q (.ref p) (upd H p (.tup [.int (rt j i).1,.int (rt j i).2]))
noncomputable def sp57_plus:Sp:=fun vs H Q _=>∃(a b:Addr) (U x y:Int),vs=[.ref a,.ref b]∧RtA H a U x∧RtA H b U y∧0 < U∧U≤10 ^ 180∧(x.natAbs≤10 ^ 240∧y.natAbs≤10 ^ 240)∧∀p,H p=none→Q (.ref p) (upd H p (.tup [.int (rt U (x+y)).1,.int (rt U (x+y)).2]))
noncomputable def sp57_minus:Sp:=fun vs H Q _=>∃(a b:Addr) (U x y:Int),vs=[.ref a,.ref b]∧RtA H a U x∧RtA H b U y∧0 < U∧U≤10 ^ 180∧(x.natAbs≤10 ^ 240∧y.natAbs≤10 ^ 240)∧∀p,H p=none→Q (.ref p) (upd H p (.tup [.int (rt U (x - y)).1,.int (rt U (x - y)).2]))
noncomputable def sp57_under:Sp:=fun vs H Q _=>∃(a b:Addr) (U x y:Int),vs=[.ref a,.ref b]∧RtA H a U x∧RtA H b U y∧0 < U∧U≤10 ^ 180∧(x.natAbs≤10 ^ 240∧y.natAbs≤10 ^ 240)∧Q (.bl (decide (x < y))) H
noncomputable def sp57_owe(K:PySem.W.Frag)(C S:Addr):Sp:=fun vs H Q _=>∃(q p:Addr) (n U:Int) (x:DuX) (s:DuS) (z:Str) (ts:List Th),vs=[.ref q,.str z]∧DuAt C U H q p n x s∧StockAt K S H p ts∧(ts.map (·.1)).Nodup∧z∈ts.map (·.1)∧z∉s.ks∧Un U ts∧s.ks.length < 100∧s.r≤10 ^ 229∧
 ∀H',Kp (DuM q x) H H'→DuAt C U H' q p n x ⟨s.r,s.ks++[z],N74s s.f z (s.r+sh U ts z),s.rs⟩→Q .non H'
noncomputable def askS(U:Int)(ts:List Th)(s:DuS)(z:Str):DuS:=if z∈s.ks then ⟨s.r,s.ks.erase z++[z],N74s s.f z (s.r+sh U ts z),s.rs++[0]⟩ else ⟨s.r,s.ks,s.f,s.rs++[0]⟩
noncomputable def goneS(s:DuS)(z:Str):DuS:=⟨s.f z,s.ks.erase z,s.f,s.rs.set (s.rs.length - 1) (s.rs.getLastD 0+(s.f z - s.r))⟩
noncomputable def sp57_asked(K:PySem.W.Frag)(C S:Addr):Sp:=fun vs H Q _=>∃(q p:Addr) (n U:Int) (x:DuX) (s:DuS) (z:Str) (ts:List Th),vs=[.ref q,.str z]∧DuAt C U H q p n x s∧StockAt K S H p ts∧(∀H',Kp (DuM q x) H H'→StockAt K S H' p ts)∧(ts.map (·.1)).Nodup∧z∈ts.map (·.1)∧Un U ts∧s.rs.length < 1000∧s.r≤10 ^ 229∧
 ∀H',Kp (DuM q x) H H'→DuAt C U H' q p n x (askS U ts s z)→Q .non H'
noncomputable def sp57_gone(C:Addr):Sp:=fun vs H Q _=>∃(q p:Addr) (n U:Int) (x:DuX) (s:DuS) (z:Str),vs=[.ref q,.str z]∧DuAt C U H q p n x s∧0 < U∧U≤10 ^ 180∧z∈s.ks∧1≤s.rs.length∧Bd (s.rs.getLastD 0+(s.f z - s.r))∧
 ∀(a:Addr) (H':Hp),Kp (DuM q x) H H'→DuAt C U H' q p n {x with rp:=a} (goneS s z)→Q .non H'
noncomputable def sp57_level(C:Addr):Sp:=fun vs H Q _=>∃(q p:Addr) (n U:Int) (x:DuX) (s:DuS),vs=[.ref q]∧DuAt C U H q p n x s∧Q (.ref x.rp) H
noncomputable def sp57_prices(C:Addr):Sp:=fun vs H Q _=>∃(q p:Addr) (n U:Int) (x:DuX) (s:DuS),vs=[.ref q]∧DuAt C U H q p n x s∧∀(l:Addr) (us:List Addr),H l=none→RtsA H us U s.rs→Q (.ref l) (upd H l (.lst (us.map V.ref)))
noncomputable def sp57_whole:Sp:=fun vs H Q _=>∃i:Int,vs=[.int i]∧Q (.bl true) H
noncomputable def sp57_shared:Sp:=fun vs H Q _=>∃(i j:Int),vs=[.int i,.int j]∧0≤j∧Q (.int (Int.gcd i j)) H
noncomputable def sp57_lratio:Sp:=fun vs H Q _=>∃(a:Addr) (U v:Int),vs=[.ref a]∧RtA H a U v∧0 < U∧Q (.bl true) H
theorem _root_.N4.RowsAt.snoc{K:PySem.W.Frag}{H H':Hp}{l a:Addr}{as:List Addr}{ts:List Th}{t:Th}{xs:List V}(h:RowsAt K H l as ts)(hl:H l=some (.lst xs))(sb:SameBut l H H')(hl':H' l=some (.lst ((as++[a]).map V.ref)))(ha:SqT K H' a [.str t.1,.int t.2.1,.int t.2.2])(ok:nameB t.1.cps.toList=true∧0≤t.2.1∧t.2.1≤10 ^ 30∧1≤t.2.2∧t.2.2≤1000)(hn:t.1∉ts.map (·.1))(hm:ts.length < 60):RowsAt K H' l (as++[a]) (ts++[t]):=by
 refine ⟨SqL.of hl',by rw [List.length_append,List.length_append,h.n];rfl,by rw [List.length_append];simp only [List.length_cons,List.length_nil];omega,fun i b u e1 e2=>?_,fun u hu=>?_,?_⟩
 · by_cases hi:i < as.length
   · rw [List.getElem?_append_left hi]at e1
     rw [List.getElem?_append_left (by rw [← h.n];exact hi)]at e2
     exact SqT.butL sb hl (h.at_ i b u e1 e2)
   · rw [List.getElem?_append_right (by omega)]at e1
     rw [List.getElem?_append_right (by rw [← h.n];omega)]at e2
     have h0:i - as.length=0:=by
      have:=(List.getElem?_eq_some_iff.mp e1).1
      simp at this;omega
     rw [h0]at e1
     rw [← h.n,h0]at e2
     cases e1
     cases e2
     exact ha
 · rcases List.mem_append.mp hu with hu | hu
   · exact h.ok u hu
   · rw [List.mem_singleton.mp hu];exact ok
 · rw [List.map_append]
   exact List.nodup_append.mpr ⟨h.nd,by simp,fun x hx y hy e=>hn (by have h1:y=t.1:=List.mem_singleton.mp hy;rw [← h1,← e];exact hx)⟩
structure Low(k:Int)(s:DuS):Prop where
 a:0≤s.r
 b:s.r≤k * 10 ^ 210
 c:∀y∈s.ks,s.r≤s.f y∧s.f y≤k * 10 ^ 210
theorem split_last{α:Type}{us:List α}{n:Nat}(h:us.length=n+1):∃pre u,us=pre++[u]∧pre.length=n:=by
 refine ⟨us.dropLast,us.getLast (fun e=>by rw [e]at h;cases h),(List.dropLast_concat_getLast _).symm,by rw [List.length_dropLast];omega⟩
theorem sm_perm{f:Str→Int}{a b:List Str}(h:a.Perm b):N41.sm f a=N41.sm f b:=by
 induction h with
 | nil=>rfl
 | cons x _ ih=>rw [N41.sm_cons,N41.sm_cons,ih]
 | swap x y l=>rw [N41.sm_cons,N41.sm_cons,N41.sm_cons,N41.sm_cons];omega
 | trans _ _ i1 i2=>rw [i1,i2]
theorem pow_up(n:Nat):∀k:Nat,(1000:Int) ^ n≤1000 ^ (n+k):=by
 intro k
 induction k with
 | zero=>exact Int.le_refl _
 | succ k ih=>
  rw [← Nat.add_assoc,Int.pow_succ]
  have:(0:Int)≤1000 ^ (n+k):=Int.pow_nonneg (by decide)
  omega
end N57
namespace N71
open L2 N1 N5 N4 N6 N12
theorem valV_drop_same(kvs:List (Key×V))(k:Key):valV (dropK kvs k) k=none:=by
 induction kvs with
 | nil=>rfl
 | cons p r ih=>
  by_cases e:p.1=k
  · have:dropK (p::r) k=dropK r k:=by unfold dropK;rw [List.filter_cons_of_neg (by simp [e])]
    rw [this];exact ih
  · have:dropK (p::r) k=p::dropK r k:=by unfold dropK;rw [List.filter_cons_of_pos (by simp [e])]
    rw [this,valV_neg e];exact ih
theorem valV_dropK{kvs:List (Key×V)}{k j:Key}(n:j≠k):valV (dropK kvs k) j=valV kvs j:=by
 induction kvs with
 | nil=>rfl
 | cons p r ih=>
  by_cases e:p.1=k
  · have h1:dropK (p::r) k=dropK r k:=by unfold dropK;rw [List.filter_cons_of_neg (by simp [e])]
    rw [h1,ih,valV_neg (fun z=>n (by rw [← z,e]))]
  · have h1:dropK (p::r) k=p::dropK r k:=by unfold dropK;rw [List.filter_cons_of_pos (by simp [e])]
    rw [h1]
    by_cases e2:p.1=j
    · rw [valV_pos e2,valV_pos e2]
    · rw [valV_neg e2,valV_neg e2];exact ih
structure TwA where
 st:Addr
 si:Addr
 ro:Addr
 he:Addr
 la:Addr
 so:Addr
 en:Addr
 fi:Addr
structure TwS where
 zs:List Int
 R:List Str
 kh:List (Key×V)
 kl:List (Key×V)
 ks:List (Key×V)
 es:List V
 ff:List Int
 pd:Int
noncomputable def own(t:Addr)(x:TwA):List Addr:=[t,x.ro,x.he,x.la,x.so,x.en,x.fi]
noncomputable def pre(zs:List Int)(i:Nat):Int:=(zs.take i).sum
noncomputable def f1(x:TwA):List (Str×V):=putF (Str.ofString "sizes") (.ref x.si) (putF (Str.ofString "stock") (.ref x.st) [])
noncomputable def f3(x:TwA):List (Str×V):=putF (Str.ofString "late") (.ref x.la) (putF (Str.ofString "held") (.ref x.he) (putF (Str.ofString "row") (.ref x.ro) (f1 x)))
noncomputable def f6(x:TwA):List (Str×V):=putF (Str.ofString "paid") (.int 0) (putF (Str.ofString "finds") (.ref x.fi) (putF (Str.ofString "entries") (.ref x.en) (putF (Str.ofString "store") (.ref x.so) (f3 x))))
end N71
namespace N53
open L2 N1 N5
noncomputable def NumV(K:PySem.W.Frag)(H:Hp)(v:V):Prop:=∃b c,Isi K H v "int" b∧(b=true→Isi K H v "bool" c)∧((b && !c)=true→∃i,v= .int i)∧((b && !c)=false→∀i,v≠ .int i)
theorem NumV.flat{K:PySem.W.Frag}{H:Hp}{v:V}(h:flatV v=true):NumV K H v:=num_isi h
theorem NumV.lst{K:PySem.W.Frag}{H:Hp}{a:Addr}{xs:List V}(h:H a=some (.lst xs)):NumV K H (.ref a):=⟨false,false,isi_lsti h,fun h=>by (cases h),fun h=>by (cases h),fun _ i h=>by cases h⟩
theorem NumV.tup{K:PySem.W.Frag}{H:Hp}{a:Addr}{xs:List V}(h:H a=some (.tup xs)):NumV K H (.ref a):=⟨false,false,isi_tupi h,fun h=>by (cases h),fun h=>by (cases h),fun _ i h=>by cases h⟩
theorem NumV.same{K:PySem.W.Frag}{H H':Hp}{v:V}(s:Same H H')(h:NumV K H v):NumV K H' v:=let ⟨b,c,h1,h2,h3,h4⟩:=h;⟨b,c,h1.same s,fun e=>(h2 e).same s,h3,h4⟩
theorem wIn_one{lo hi:Int}{v:V}(h:wIn lo hi v=true):∃i:Int,v= .int i∧lo≤i∧i≤hi:=by
 cases v with
 | int i=>
  simp only [wIn,Bool.and_eq_true,decide_eq_true_eq]at h
  exact ⟨i,rfl,h.1,h.2⟩
 | _=>cases h
theorem wIn_is{lo hi i:Int}(h1:lo≤i)(h2:i≤hi):wIn lo hi (.int i)=true:=by
 simp only [wIn,Bool.and_eq_true,decide_eq_true_eq];exact ⟨h1,h2⟩
noncomputable def sp53_within(K:PySem.W.Frag):Sp:=fun vs H Q _=>∃(v:V) (lo hi:Int),vs=[v,.int lo,.int hi]∧NumV K H v∧Q (.bl (wIn lo hi v)) H
end N53
namespace N18
open L2 N1 N5 N4 N6 N12 N32 N14
noncomputable abbrev Row:=N14.Row
end N18
namespace N18
open L2 N1 N5 N4 N6 N12 N32 N14
structure RunB(M:List Addr)(H:Hp)(as gs:List Addr)(rs:List Row):Prop where
 n:as.length=rs.length
 m:gs.length=rs.length
 t:∀(i:Nat) (a g:Addr) (r:Row),as[i]?=some a→gs[i]?=some g→rs[i]?=some r→a∉M∧g∉M∧H a=some (.tup [.str r.1,.bl r.2.1,.ref g])∧H g=some (.lst (r.2.2.map V.str))
theorem RunB.nil{M:List Addr}{H:Hp}:RunB M H [] [] []:=⟨rfl,rfl,by simp⟩
theorem RunB.kp{M:List Addr}{H H':Hp}{as gs:List Addr}{rs:List Row}(s:Kp M H H')(h:RunB M H as gs rs):RunB M H' as gs rs:=
 ⟨h.n,h.m,fun i a g r e1 e2 e3=>let ⟨n1,n2,h1,h2⟩:=h.t i a g r e1 e2 e3;⟨n1,n2,s _ _ n1 h1,s _ _ n2 h2⟩⟩
theorem RunB.add{M:List Addr}{H:Hp}{as gs:List Addr}{rs:List Row}{a g:Addr}{r:Row}(h:RunB M H as gs rs)(n1:a∉M)(n2:g∉M)(h1:H a=some (.tup [.str r.1,.bl r.2.1,.ref g]))(h2:H g=some (.lst (r.2.2.map V.str))):RunB M H (as++[a]) (gs++[g]) (rs++[r]):=by
 have k1:=h.n
 have k2:=h.m
 refine ⟨by simp [k1],by simp [k2],?_⟩
 intro i a' g' r' e1 e2 e3
 rcases at_snoc e1 with ⟨l1,c1⟩ | ⟨l1,c1⟩
 · rcases at_snoc e2 with ⟨l2,c2⟩ | ⟨l2,c2⟩
   · rcases at_snoc e3 with ⟨l3,c3⟩ | ⟨l3,c3⟩
     · exact h.t i a' g' r' c1 c2 c3
     · omega
   · omega
 · rcases at_snoc e2 with ⟨l2,c2⟩ | ⟨l2,c2⟩
   · omega
   · rcases at_snoc e3 with ⟨l3,c3⟩ | ⟨l3,c3⟩
     · omega
     · rw [c1,c2,c3];exact ⟨n1,n2,h1,h2⟩
end N18
namespace N25
open L2 N1 N5 N4 N6 N12 N32 N14 N20
noncomputable def hgo(R:Str→Int)(n need:Int):Nat→List Str→List Str→List Str→List Str×List Str×List Str
 | 0,L,D,w=>(L,D,w)
 | _+1,[],D,w=>([],D,w)
 | k+1,f::r,D,w=>if need≤n - N41.sm R (f::r) then (f::r,D,w) else if f∈D then hgo R n need k (r++[f]) (D.erase f) w else hgo R n need k r D (w++[f])
noncomputable def hfin(R:Str→Int)(n need:Int)(L D w:List Str):List Str×List Str×List Str:=hgo R n need (L.length+D.length) L D w
noncomputable def mkD(D:List Str)(z:Str):List Str:=if z∈D then D else D++[z]
noncomputable def hask(R:Str→Int)(n:Int)(s:List Str×List Str)(z:Str):(List Str×List Str)×N14.Row:=
 if z∈s.1 then ((s.1,mkD s.2 z),(z,true,[])) else (((hfin R n (R z) s.1 s.2 []).1++[z],mkD (hfin R n (R z) s.1 s.2 []).2.1 z),(z,false,(hfin R n (R z) s.1 s.2 []).2.2))
noncomputable def hst(R:Str→Int)(n:Int)(ys:List Str)(i:Nat):List Str×List Str:=(ys.take i).foldl (fun s z=>(hask R n s z).1) ([],[])
noncomputable def hrow(R:Str→Int)(n:Int)(ys:List Str)(i:Nat):N14.Row:=(hask R n (hst R n ys i) (ys.getD i Str.empty)).2
theorem inr_ne'{y z:Str}(h:y≠z):(Sum.inr y:Key)≠Sum.inr z:=fun e=>h (by injection e)
noncomputable def sp25_nests(C:Addr):Sp:=fun vs H Q _=>∃(q:Addr),vs=[.ref q]∧Q (.bl false) H
theorem length_dropK(kvs:List (Key×V))(k:Key):(dropK kvs k).length≤kvs.length:=by
 unfold dropK
 exact List.length_filter_le _ _
theorem sm_perm{f:Str→Int}:∀{L M:List Str},L.Perm M→N41.sm f L=N41.sm f M:=by
 intro L M h
 induction h with
 | nil=>rfl
 | cons x _ ih=>rw [N41.sm_cons,N41.sm_cons,ih]
 | swap x y l=>rw [N41.sm_cons,N41.sm_cons,N41.sm_cons,N41.sm_cons];omega
 | trans _ _ a b=>rw [a,b]
theorem okl_sum{R:Str→Int}{ns:List Str}:∀{ls:Ly},(∀x∈ls,x.2=R x.1)→lyS ls=N41.sm R (lyN ls)
 | [],_=>rfl
 | x::r,h=>by
  have ih:=okl_sum (R:=R) (ns:=ns) (ls:=r) fun y hy=>h y (List.mem_cons_of_mem _ hy)
  have h1:=h x (List.mem_cons_self ..)
  unfold lyS at ih ⊢
  unfold lyN at ih ⊢
  rw [List.map_cons,List.sum_cons,List.map_cons,N41.sm_cons,ih,h1]
end N25
namespace N25
open L2 N1 N5 N4 N6 N12 N32 N14 N20
theorem kp_of_but{M:List Addr}{a:Addr}{H H':Hp}(s:SameBut a H H')(h:a∈M):Kp M H H':=fun b o n e=>s b o e (fun e2=>n (e2▸h))
theorem kp_none{M:List Addr}{H H':Hp}{b:Addr}(k:Kp M H H')(hb:b∉M)(h:H' b=none):H b=none:=by
 cases e:H b with
 | none=>rfl
 | some o=>rw [k b o hb e]at h;cases h
theorem kp_new{M:List Addr}{H H':Hp}{w:Addr}{o:HO}(k:Kp M H H')(hw:H w=none):Kp M H (upd H' w o):=fun b u n e=>by
 rw [upd_ne (fun h=>by rw [h,hw]at e;cases e)];exact k b u n e
theorem nd_len{L M:List Str}(h:L.Nodup)(hs:∀z∈L,z∈M):L.length≤M.length:=by
 induction L generalizing M with
 | nil=>exact Nat.zero_le _
 | cons x r ih=>
  obtain ⟨hx,hr⟩:=List.nodup_cons.mp h
  have hm:=hs x (List.mem_cons_self ..)
  have:=ih (M:=M.erase x) hr fun z hz=>(List.mem_erase_of_ne (fun e=>hx (by rw [← e];exact hz))).mpr (hs z (List.mem_cons_of_mem _ hz))
  rw [List.length_erase_of_mem hm]at this
  have hp:0 < M.length:=List.length_pos_of_mem hm
  rw [List.length_cons]
  omega
end N25
namespace N25
open L2 N1 N5 N4 N6 N12 N32 N14 N20
theorem rmK_val{ts:List Th}{z:Str}(nd:(ts.map (·.1)).Nodup)(h:z∈ts.map (·.1)):valV (N20.rmK ts) (Sum.inr z)=some (.int (rm ts z)):=by
 have e:=rm_some h
 obtain ⟨i,t,ht,rfl⟩:=mem_nth h
 unfold N20.rmK
 rw [e,rmOf_is nd (List.mem_of_getElem? ht),rm_at nd ht]
end N25
namespace N25
open L2 N1 N5 N4 N6 N12 N32 N14 N20 N18
theorem RunB.wide{M:List Addr}{H:Hp}{as gs:List Addr}{rs:List N14.Row}{w:Addr}(h:RunB M H as gs rs)(hw:H w=none):RunB (w::M) H as gs rs:=
 ⟨h.n,h.m,fun i a g r e1 e2 e3=>by
  obtain ⟨n1,n2,k1,k2⟩:=h.t i a g r e1 e2 e3
  refine ⟨fun hm=>?_,fun hm=>?_,k1,k2⟩
  · rcases List.mem_cons.mp hm with e | e
    · rw [e,hw]at k1;cases k1
    · exact n1 e
  · rcases List.mem_cons.mp hm with e | e
    · rw [e,hw]at k2;cases k2
    · exact n2 e⟩
theorem RunB.narrow{M:List Addr}{H:Hp}{as gs:List Addr}{rs:List N14.Row}{w:Addr}(h:RunB (w::M) H as gs rs):RunB M H as gs rs:=
 ⟨h.n,h.m,fun i a g r e1 e2 e3=>let ⟨n1,n2,k1,k2⟩:=h.t i a g r e1 e2 e3;⟨fun hm=>n1 (List.mem_cons_of_mem _ hm),fun hm=>n2 (List.mem_cons_of_mem _ hm),k1,k2⟩⟩
end N25
namespace NR
open L2 N1 N5 N4 N6 N12 N32 N14 N20 N18 N25
structure RuleT where
 C:Addr
 St:Type
 At:Hp→List Addr→Addr→Addr→Int→St→Prop
 asked:Int→St→Str→St
 pick:Int→St→List Str→St×Str
 gone:Int→St→Str→St
 came:Int→St→Str→St
 inv:List Str→Int→St→List Str→Prop
 mid:List Str→Int→Str→St→List Str→Prop
 dep:∀{H H':Hp} {M:List Addr} {q p:Addr} {n:Int} {s:St},(∀m∈M,∀o,H m=some o→H' m=some o)→At H M q p n s→At H' M q p n s
 live:∀{H:Hp} {M:List Addr} {q p:Addr} {n:Int} {s:St},At H M q p n s→∀m∈M,H m≠none
 obj:∀{H:Hp} {M:List Addr} {q p:Addr} {n:Int} {s:St},At H M q p n s→∃dx fs,H q=some (.ins C dx fs)∧fs.lookup ("stock":Str)=some (.ref p)∧fs.lookup ("places":Str)=some (.int n)∧fs.lookup ("asked":Str)=none∧fs.lookup ("choice":Str)=none∧fs.lookup ("gone":Str)=none∧fs.lookup ("came":Str)=none∧fs.lookup ("nests":Str)=none
 i_hit:∀{ns:List Str} {n:Int} {s:St} {l:List Str} {z:Str},inv ns n s l→z∈ns→z∈l→inv ns n (asked n s z) l
 i_mid:∀{ns:List Str} {n:Int} {s:St} {l:List Str} {z:Str},inv ns n s l→z∈ns→z∉l→mid ns n z (asked n s z) l
 i_pick:∀{ns:List Str} {n:Int} {s:St} {l:List Str} {z:Str},mid ns n z s l→l≠[]→(pick n s l).2∈l∧mid ns n z (gone n (pick n s l).1 (pick n s l).2) (l.erase (pick n s l).2)
 i_came:∀{ns:List Str} {n:Int} {s:St} {l:List Str} {z:Str},mid ns n z s l→z∈ns→z∉l→inv ns n (came n s z) (l++[z])
 cnt:St→Nat:=fun _=>0
 c_ask:∀n s z,cnt (asked n s z)≤cnt s+1:=by exact fun _ _ _=>Nat.zero_le _
 c_pick:∀n s l,cnt (pick n s l).1≤cnt s:=by exact fun _ _ _=>Nat.zero_le _
 c_gone:∀n s z,cnt (gone n s z)≤cnt s:=by exact fun _ _ _=>Nat.zero_le _
 c_came:∀n s z,cnt (came n s z)≤cnt s:=by exact fun _ _ _=>Nat.zero_le _
noncomputable def gfin(T:RuleT)(R:Str→Int)(n need:Int):Nat→T.St→List Str→List Str→T.St×List Str×List Str
 | 0,s,l,w=>(s,l,w)
 | k+1,s,l,w=>if need≤n - N41.sm R l then (s,l,w) else gfin T R n need k (T.gone n (T.pick n s l).1 (T.pick n s l).2) (l.erase (T.pick n s l).2) (w++[(T.pick n s l).2])
noncomputable def gf(T:RuleT)(R:Str→Int)(n need:Int)(s:T.St)(l w:List Str):T.St×List Str×List Str:=gfin T R n need l.length s l w
section
variable {T:RuleT} {R:Str→Int} {n need:Int} {s:T.St} {l w ns:List Str} {z:Str}
theorem gf_end(h:need≤n - N41.sm R l):gf T R n need s l w=(s,l,w):=by
 unfold gf
 cases hk:l.length with
 | zero=>rfl
 | succ k=>
  show (if _ then _ else _)=_
  rw [if_pos h]
theorem gf_go(h:¬need≤n - N41.sm R l)(hp:(T.pick n s l).2∈l):gf T R n need s l w=gf T R n need (T.gone n (T.pick n s l).1 (T.pick n s l).2) (l.erase (T.pick n s l).2) (w++[(T.pick n s l).2]):=by
 unfold gf
 have hl:=List.length_erase_of_mem hp
 have h0:0 < l.length:=List.length_pos_of_mem hp
 rw [show l.length=(l.erase (T.pick n s l).2).length+1 by omega]
 show (if _ then _ else _)=_
 rw [if_neg h]
theorem gf_pos:∀(k:Nat) (s:T.St) (l w:List Str),l.length=k→T.mid ns n z s l→need≤n→T.mid ns n z (gf T R n need s l w).1 (gf T R n need s l w).2.1∧need≤n - N41.sm R (gf T R n need s l w).2.1∧(∀u∈(gf T R n need s l w).2.1,u∈l)∧(l.Nodup→(gf T R n need s l w).2.1.Nodup)∧(gf T R n need s l w).2.1.length≤l.length:=by
 intro k
 induction k with
 | zero=>
  intro s l w hk hm hn
  have hL:l=[]:=List.length_eq_zero_iff.mp hk
  subst hL
  have he:need≤n - N41.sm R []:=by rw [N41.sm_nil];omega
  rw [gf_end he]
  exact ⟨hm,he,fun z hz=>hz,id,Nat.le_refl _⟩
 | succ k ih=>
  intro s l w hk hm hn
  by_cases he:need≤n - N41.sm R l
  · rw [gf_end he]
    exact ⟨hm,he,fun z hz=>hz,id,Nat.le_refl _⟩
  · have hne:l≠[]:=fun e=>by rw [e]at hk;cases hk
    obtain ⟨hp,hm2⟩:=T.i_pick hm hne
    rw [gf_go he hp]
    have hl:=List.length_erase_of_mem hp
    obtain ⟨a,b,c,d,e⟩:=ih _ _ (w++[(T.pick n s l).2]) (by omega) hm2 hn
    exact ⟨a,b,fun u hu=>List.mem_of_mem_erase (c u hu),fun hnd=>d (hnd.erase _),by omega⟩
end
noncomputable def gask(T:RuleT)(R:Str→Int)(n:Int)(s:T.St×List Str)(z:Str):(T.St×List Str)×N14.Row:=
 if z∈s.2 then ((T.asked n s.1 z,s.2),(z,true,[]))
 else ((T.came n (gf T R n (R z) (T.asked n s.1 z) s.2 []).1 z,(gf T R n (R z) (T.asked n s.1 z) s.2 []).2.1++[z]),(z,false,(gf T R n (R z) (T.asked n s.1 z) s.2 []).2.2))
noncomputable def gst(T:RuleT)(R:Str→Int)(n:Int)(s0:T.St)(ys:List Str)(i:Nat):T.St×List Str:=(ys.take i).foldl (fun s z=>(gask T R n s z).1) (s0,[])
noncomputable def grow(T:RuleT)(R:Str→Int)(n:Int)(s0:T.St)(ys:List Str)(i:Nat):N14.Row:=(gask T R n (gst T R n s0 ys i) (ys.getD i Str.empty)).2
noncomputable def grows(T:RuleT)(R:Str→Int)(n:Int)(s0:T.St)(ys:List Str)(i:Nat):List N14.Row:=(List.range i).map (grow T R n s0 ys)
section
variable {T:RuleT} {R:Str→Int} {n:Int} {s0:T.St} {ys ns:List Str} {i:Nat} {z:Str}
theorem gst_succ(h:ys[i]?=some z):gst T R n s0 ys (i+1)=(gask T R n (gst T R n s0 ys i) z).1:=by
 unfold gst
 rw [List.take_add_one,h,List.foldl_append];rfl
theorem grow_at(h:ys[i]?=some z):grow T R n s0 ys i=(gask T R n (gst T R n s0 ys i) z).2:=by
 unfold grow
 rw [List.getD_eq_getElem?_getD,h];rfl
theorem grows_succ(h:ys[i]?=some z):grows T R n s0 ys (i+1)=grows T R n s0 ys i++[(gask T R n (gst T R n s0 ys i) z).2]:=by
 unfold grows
 rw [List.range_succ,List.map_append]
 show _++[grow T R n s0 ys i]=_
 rw [grow_at h]
theorem grows_len:(grows T R n s0 ys i).length=i:=by unfold grows;rw [List.length_map,List.length_range]
theorem mem_eq{u v:Str}{l:List Str}(e:u=v)(h:u∈l):v∈l:=e▸h
structure GI(T:RuleT)(ns:List Str)(n:Int)(s:T.St×List Str):Prop where
 i:T.inv ns n s.1 s.2
 nd:s.2.Nodup
 s:∀u∈s.2,u∈ns
theorem GI.ask{s:T.St×List Str}(h:GI T ns n s)(hz:z∈ns)(hR:R z≤n):GI T ns n (gask T R n s z).1:=by
 unfold gask
 split
 · rename_i hm
   exact ⟨T.i_hit h.i hz hm,h.nd,h.s⟩
 · rename_i hm
   obtain ⟨a,b,c,d,e⟩:=gf_pos (R:=R) _ _ _ [] rfl (T.i_mid h.i hz hm) hR
   have hm2:z∉(gf T R n (R z) (T.asked n s.1 z) s.2 []).2.1:=fun hh=>hm (c z hh)
   refine ⟨T.i_came a hz hm2,?_,fun u hu=>?_⟩
   · show ((gf T R n (R z) (T.asked n s.1 z) s.2 []).2.1++[z]).Nodup
     rw [List.nodup_append]
     refine ⟨d h.nd,by simp,fun y hy u hu e=>hm2 (mem_eq (e.trans (List.mem_singleton.mp hu)) hy)⟩
   · rcases List.mem_append.mp hu with hu | hu
     · exact h.s u (c u hu)
     · rw [List.mem_singleton.mp hu];exact hz
theorem gst_inv(h0:T.inv ns n s0 [])(hin:∀y∈ys,y∈ns)(hR:∀y∈ys,R y≤n):∀i,i≤ys.length→GI T ns n (gst T R n s0 ys i)
 | 0,_=>⟨h0,List.nodup_nil,by simp [gst]⟩
 | i+1,h=>by
  have hz:=List.getElem?_eq_getElem (show i < ys.length by omega)
  have hm:=List.mem_of_getElem? hz
  rw [gst_succ hz]
  exact (gst_inv h0 hin hR i (by omega)).ask (hin _ hm) (hR _ hm)
end
theorem gfin_cnt{T:RuleT}{R:Str→Int}{n need:Int}:∀(k:Nat) (s:T.St) (l w:List Str),T.cnt (gfin T R n need k s l w).1≤T.cnt s:=by
 intro k
 induction k with
 | zero=>intro s l w;exact Nat.le_refl _
 | succ k ih=>
  intro s l w
  unfold gfin
  split
  · exact Nat.le_refl _
  · exact Nat.le_trans (ih _ _ _) (Nat.le_trans (T.c_gone _ _ _) (T.c_pick _ _ _))
theorem gask_cnt{T:RuleT}{R:Str→Int}{n:Int}{s:T.St×List Str}{z:Str}:T.cnt (gask T R n s z).1.1≤T.cnt s.1+1:=by
 unfold gask
 split
 · exact T.c_ask _ _ _
 · exact Nat.le_trans (T.c_came _ _ _) (Nat.le_trans (gfin_cnt _ _ _ _) (T.c_ask _ _ _))
theorem gst_cnt{T:RuleT}{R:Str→Int}{n:Int}{s0:T.St}{ys:List Str}:∀i,i≤ys.length→T.cnt (gst T R n s0 ys i).1≤T.cnt s0+i
 | 0,_=>Nat.le_refl _
 | i+1,h=>by
  have hz:=List.getElem?_eq_getElem (show i < ys.length by omega)
  rw [gst_succ hz]
  have:=gst_cnt (T:=T) (R:=R) (n:=n) (s0:=s0) (ys:=ys) i (by omega)
  have h2:=gask_cnt (T:=T) (R:=R) (n:=n) (s:=gst T R n s0 ys i) (z:=ys[i])
  omega
section
variable {T:RuleT} {K:PySem.W.Frag} {C S:Addr} {H0 H H' H1 H2:Hp} {q p sh d w:Addr} {M:List Addr} {n:Int} {ts:List Th} {ls:Ly} {s s':T.St}
theorem kp_cons{M:List Addr}{d:Addr}{H H':Hp}(k:Kp M H H'):Kp (d::M) H H':=fun b o n e=>k b o (fun h=>n (List.mem_cons_of_mem _ h)) e
theorem SqL_kp{a:Addr}{xs:List V}(h:SqL K H a xs)(k:Kp M H H')(na:a∉M):SqL K H' a xs:=by
 rcases h with (h | ⟨o,h⟩) | h
 · exact .inl (.inl (k _ _ na h))
 · exact .inl (.inr ⟨o,k _ _ na h⟩)
 · exact .inr h
end
end NR
namespace N58
open L2 N1 N5 N4 N6 N12 N32 N14 N20 N18 N25 NR NQ N57
noncomputable def lst1(f:Str→Int)(ks:List Str):Str:=ks.foldl (fun b y=>if f y < f b then y else b) (ks.headD Str.empty)
theorem lst1_go(f:Str→Int):∀(ks:List Str) (b:Str),(ks.foldl (fun b y=>if f y < f b then y else b) b=b∨ks.foldl (fun b y=>if f y < f b then y else b) b∈ks)∧f (ks.foldl (fun b y=>if f y < f b then y else b) b)≤f b∧∀y∈ks,f (ks.foldl (fun b y=>if f y < f b then y else b) b)≤f y:=by
 intro ks
 induction ks with
 | nil=>intro b;exact ⟨.inl rfl,Int.le_refl _,fun y hy=>by cases hy⟩
 | cons a r ih=>
  intro b
  rw [List.foldl_cons]
  obtain ⟨h1,h2,h3⟩:=ih (if f a < f b then a else b)
  have h4:f (if f a < f b then a else b)≤f b∧f (if f a < f b then a else b)≤f a:=by split <;> omega
  refine ⟨?_,Int.le_trans h2 h4.1,fun y hy=>?_⟩
  · rcases h1 with h1 | h1
    · rw [h1]
      split
      · exact .inr List.mem_cons_self
      · exact .inl rfl
    · exact .inr (List.mem_cons_of_mem _ h1)
  · rcases List.mem_cons.mp hy with e | e
    · rw [e];exact Int.le_trans h2 h4.2
    · exact h3 y e
theorem lst1_mem{f:Str→Int}{ks:List Str}(h:ks≠[]):lst1 f ks∈ks:=by
 cases ks with
 | nil=>exact absurd rfl h
 | cons a r=>
  rcases (lst1_go f (a::r) a).1 with e | e
  · show List.foldl _ _ _∈_
    rw [show (a::r).headD Str.empty=a from rfl,e];exact List.mem_cons_self
  · exact e
theorem lst1_le{f:Str→Int}{ks:List Str}{y:Str}(h:y∈ks):f (lst1 f ks)≤f y:=(lst1_go f ks _).2.2 y h
structure DI(U:Int)(ts:List Th)(ns:List Str)(s:DuS)(l:List Str):Prop where
 u:Un U ts
 nt:(ts.map (·.1)).Nodup
 sub:∀y∈ns,y∈ts.map (·.1)
 pm:s.ks.Perm l
 nd:s.ks.Nodup
 kn:∀y∈s.ks,y∈ns
 lo:Low s.rs.length s
 sm:s.rs.sum=s.r
 nn:∀v∈s.rs,0≤v
section
variable {U:Int} {ts:List Th} {ns l:List Str} {s:DuS} {z:Str}
theorem DI.hit(h:DI U ts ns s l)(hz:z∈ns)(hl:z∈l):DI U ts ns (askS U ts s z) l:=by
 have hzs:z∈s.ks:=h.pm.mem_iff.mpr hl
 obtain ⟨s0,s1,_⟩:=h.u.sh h.nt (h.sub z hz)
 have hb:=h.lo.b
 have ha:=h.lo.a
 have eL:((s.rs++[(0:Int)]).length:Int)=s.rs.length+1:=by rw [List.length_append];rfl
 unfold askS
 rw [if_pos hzs]
 refine ⟨h.u,h.nt,h.sub,?_,?_,fun y hy=>?_,⟨ha,?_,fun y hy=>?_⟩,?_,fun v hv=>?_⟩
 · exact ((List.perm_append_singleton z _).trans (List.perm_cons_erase hzs).symm).trans h.pm
 · exact ((List.perm_append_singleton z _).trans (List.perm_cons_erase hzs).symm).nodup_iff.mpr h.nd
 · rcases List.mem_append.mp hy with e | e
   · exact h.kn y (List.mem_of_mem_erase e)
   · rw [List.mem_singleton.mp e];exact hz
 · show s.r≤((s.rs++[(0:Int)]).length:Int) * _
   rw [eL];omega
 · show s.r≤N74s s.f z (s.r+sh U ts z) y∧N74s s.f z (s.r+sh U ts z) y≤((s.rs++[(0:Int)]).length:Int) * _
   rw [eL]
   by_cases e:y=z
   · rw [show N74s s.f z (s.r+sh U ts z) y=s.r+sh U ts z from if_pos e];omega
   · rw [show N74s s.f z (s.r+sh U ts z) y=s.f y from if_neg e]
     have hys:y∈s.ks:=by
      rcases List.mem_append.mp hy with k | k
      · exact List.mem_of_mem_erase k
      · exact absurd (List.mem_singleton.mp k) e
     obtain ⟨c1,c2⟩:=h.lo.c y hys
     omega
 · show (s.rs++[(0:Int)]).sum=s.r
   rw [List.sum_append,h.sm];simp
 · rcases List.mem_append.mp hv with k | k
   · exact h.nn v k
   · rw [List.mem_singleton.mp k];exact Int.le_refl 0
theorem DI.miss(h:DI U ts ns s l)(hl:z∉l):DI U ts ns (askS U ts s z) l:=by
 have hzs:z∉s.ks:=fun k=>hl (h.pm.mem_iff.mp k)
 have hb:=h.lo.b
 have ha:=h.lo.a
 have eL:((s.rs++[(0:Int)]).length:Int)=s.rs.length+1:=by rw [List.length_append];rfl
 unfold askS
 rw [if_neg hzs]
 refine ⟨h.u,h.nt,h.sub,h.pm,h.nd,h.kn,⟨ha,?_,fun y hy=>?_⟩,?_,fun v hv=>?_⟩
 · show s.r≤((s.rs++[(0:Int)]).length:Int) * _
   rw [eL];omega
 · show s.r≤s.f y∧s.f y≤((s.rs++[(0:Int)]).length:Int) * _
   rw [eL]
   obtain ⟨c1,c2⟩:=h.lo.c y hy
   omega
 · show (s.rs++[(0:Int)]).sum=s.r
   rw [List.sum_append,h.sm];simp
 · rcases List.mem_append.mp hv with k | k
   · exact h.nn v k
   · rw [List.mem_singleton.mp k];exact Int.le_refl 0
theorem DI.gone(h:DI U ts ns s l)(h1:1≤s.rs.length)(hl:l≠[]):lst1 s.f s.ks∈l∧DI U ts ns (goneS s (lst1 s.f s.ks)) (l.erase (lst1 s.f s.ks)):=by
 have hks:s.ks≠[]:=fun e=>by
  have:=h.pm.length_eq
  rw [e]at this
  exact hl (List.length_eq_zero_iff.mp this.symm)
 have hm:=lst1_mem (f:=s.f) hks
 have hle:∀y∈s.ks,s.f (lst1 s.f s.ks)≤s.f y:=fun y hy=>lst1_le hy
 generalize lst1 s.f s.ks=z at hm hle ⊢
 obtain ⟨c1,c2⟩:=h.lo.c z hm
 have ha:=h.lo.a
 obtain ⟨pre,u,he,hpl⟩:=split_last (us:=s.rs) (n:=s.rs.length - 1) (by omega)
 have hsm:=h.sm
 have eR:s.rs.set (s.rs.length - 1) (s.rs.getLastD 0+(s.f z - s.r))=pre++[u+(s.f z - s.r)]:=by
  rw [← hpl,he,List.getLastD_concat,List.set_append_right _ _ (Nat.le_refl _),Nat.sub_self];rfl
 have eLen:(pre++[u+(s.f z - s.r)]).length=s.rs.length:=by rw [he,List.length_append,List.length_append];rfl
 refine ⟨h.pm.mem_iff.mp hm,h.u,h.nt,h.sub,h.pm.erase z,h.nd.erase z,fun y hy=>h.kn y (List.mem_of_mem_erase hy),?_,?_,?_⟩
 · show Low ((s.rs.set (s.rs.length - 1) (s.rs.getLastD 0+(s.f z - s.r))).length:Int) _
   rw [eR,eLen]
   exact ⟨by show 0≤s.f z;omega,c2,fun y hy=>⟨hle y (List.mem_of_mem_erase hy),(h.lo.c y (List.mem_of_mem_erase hy)).2⟩⟩
 · show (s.rs.set (s.rs.length - 1) (s.rs.getLastD 0+(s.f z - s.r))).sum=s.f z
   rw [eR]
   rw [he]at hsm
   rw [List.sum_append]at hsm ⊢
   simp only [List.sum_cons,List.sum_nil]at hsm ⊢
   omega
 · show ∀v∈(s.rs.set (s.rs.length - 1) (s.rs.getLastD 0+(s.f z - s.r))),0≤v
   rw [eR]
   intro v hv
   rcases List.mem_append.mp hv with k | k
   · exact h.nn v (by rw [he];exact List.mem_append_left _ k)
   · rw [List.mem_singleton.mp k]
     have:=h.nn u (by rw [he];simp)
     omega
theorem DI.came(h:DI U ts ns s l)(h1:1≤s.rs.length)(hz:z∈ns)(hl:z∉l)(hr:s.r≤(s.rs.length - 1:Int) * 10 ^ 210):DI U ts ns ⟨s.r,s.ks++[z],N74s s.f z (s.r+sh U ts z),s.rs⟩ (l++[z]):=by
 have hzs:z∉s.ks:=fun k=>hl (h.pm.mem_iff.mp k)
 obtain ⟨s0,s1,_⟩:=h.u.sh h.nt (h.sub z hz)
 refine ⟨h.u,h.nt,h.sub,h.pm.append_right [z],?_,fun y hy=>?_,⟨h.lo.a,h.lo.b,fun y hy=>?_⟩,h.sm,h.nn⟩
 · rw [List.nodup_append]
   exact ⟨h.nd,by simp,fun a ha b hb e=>hzs (by rw [← List.mem_singleton.mp hb,← e];exact ha)⟩
 · rcases List.mem_append.mp hy with e | e
   · exact h.kn y e
   · rw [List.mem_singleton.mp e];exact hz
 · show s.r≤N74s s.f z (s.r+sh U ts z) y∧N74s s.f z (s.r+sh U ts z) y≤(s.rs.length:Int) * _
   by_cases e:y=z
   · rw [show N74s s.f z (s.r+sh U ts z) y=s.r+sh U ts z from if_pos e];omega
   · rw [show N74s s.f z (s.r+sh U ts z) y=s.f y from if_neg e]
     have hys:y∈s.ks:=by
      rcases List.mem_append.mp hy with k | k
      · exact k
      · exact absurd (List.mem_singleton.mp k) e
     exact h.lo.c y hys
end
structure DM(U:Int)(ts:List Th)(ns:List Str)(z:Str)(s:DuS)(l:List Str):Prop where
 i:DI U ts ns s l
 n:1≤s.rs.length
 r:s.r≤(s.rs.length - 1:Int) * 10 ^ 210
 c:∀y∈s.ks,s.f y≤(s.rs.length - 1:Int) * 10 ^ 210
 z:z∉l
theorem goneS_len{s:DuS}{z:Str}:(goneS s z).rs.length=s.rs.length:=List.length_set ..
theorem askS_len{U:Int}{ts:List Th}{s:DuS}{z:Str}:(askS U ts s z).rs.length=s.rs.length+1:=by
 unfold askS
 split <;> exact List.length_append
noncomputable abbrev TD(C:Addr)(U:Int)(ts:List Th):RuleT where
 C:=C
 St:=DuS
 At:=fun _ _ _ _ _ _=>False
 asked:=fun _ s z=>askS U ts s z
 pick:=fun _ s _=>(s,lst1 s.f s.ks)
 gone:=fun _ s z=>goneS s z
 came:=fun _ s z=>⟨s.r,s.ks++[z],N74s s.f z (s.r+sh U ts z),s.rs⟩
 inv:=fun ns _ s l=>DI U ts ns s l
 mid:=fun ns _ z s l=>DM U ts ns z s l
 dep:=fun _ h=>h
 live:=fun h=>h.elim
 obj:=fun h=>h.elim
 i_hit:=fun h hz hl=>h.hit hz hl
 i_mid:=fun {ns n s l z} h hz hl=>by
  have hzs:z∉s.ks:=fun k=>hl (h.pm.mem_iff.mp k)
  have e:((askS U ts s z).rs.length:Int) - 1=s.rs.length:=by rw [askS_len];omega
  have e1:(askS U ts s z).r=s.r∧(askS U ts s z).ks=s.ks∧(askS U ts s z).f=s.f:=by unfold askS;rw [if_neg hzs];exact ⟨rfl,rfl,rfl⟩
  refine ⟨h.miss hl,by rw [askS_len];omega,by rw [e,e1.1];exact h.lo.b,fun y hy=>?_,hl⟩
  rw [e,e1.2.2]
  rw [e1.2.1]at hy
  exact (h.lo.c y hy).2
 i_pick:=fun {ns n s l z} h hl=>by
  obtain ⟨a,b⟩:=h.i.gone h.n hl
  refine ⟨a,b,by rw [goneS_len];exact h.n,?_,fun y hy=>?_,fun k=>h.z (List.mem_of_mem_erase k)⟩
  · rw [goneS_len]
    exact h.c _ (h.i.pm.mem_iff.mpr a)
  · rw [goneS_len]
    exact h.c y (List.mem_of_mem_erase hy)
 i_came:=fun h hz hl=>h.i.came h.n hz hl h.r
 cnt:=fun s=>s.rs.length
 c_ask:=fun _ s z=>Nat.le_of_eq askS_len
 c_pick:=fun _ _ _=>Nat.le_refl _
 c_gone:=fun _ _ _=>Nat.le_of_eq goneS_len
 c_came:=fun _ _ _=>Nat.le_refl _
noncomputable def slk(R:Str→Int)(s:DuS):Int:=N41.sm (fun y=>R y * (s.f y - s.r)) s.ks
theorem smp{f:Str→Int}{a b:List Str}(h:a.Perm b):N41.sm f a=N41.sm f b:=N57.sm_perm h
theorem sum_nn{T:List Int}(h:∀t∈T,0≤t):0≤T.sum:=by
 induction T with
 | nil=>exact Int.le_refl _
 | cons a r ih=>
  rw [List.sum_cons]
  have h1:=h a List.mem_cons_self
  have h2:=ih fun t ht=>h t (List.mem_cons_of_mem _ ht)
  omega
structure PI(U:Int)(ts:List Th)(ns ys:List Str)(F P:Int)(i:Nat)(s:DuS)(l:List Str)(paid:Int):Prop where
 di:DI U ts ns s l
 rl:s.rs.length=i
 la:∀y∈s.ks,∃j,lastIx ys y i=some j∧s.f y=(s.rs.take (j+1)).sum+sh U ts y
 out:∀y,y∉s.ks→∀j,lastIx ys y i=some j→(s.rs.take (j+1)).sum+sh U ts y≤s.r
 psi:(P - F+1) * (paid * U)+(F - 1) * slk (rm ts) s≤P * N41.fl (N41.cst ts) (rm ts) s.rs U F ys i
section
variable {C:Addr} {U:Int} {ts:List Th} {ns ys l:List Str} {F P:Int} {i:Nat} {s:DuS} {paid:Int} {z:Str}
theorem PI.start(hU:Un U ts)(nd:(ts.map (·.1)).Nodup)(hs:∀y∈ns,y∈ts.map (·.1)):PI U ts ns ys F P 0 ⟨0,[],fun _=>0,[]⟩ [] 0:=
 ⟨⟨hU,nd,hs,List.Perm.refl _,List.nodup_nil,(fun y h=>by cases h),⟨Int.le_refl _,by simp,fun y h=>by cases h⟩,rfl,fun v h=>by cases h⟩,rfl,(fun y h=>by cases h),(fun y _ j h=>by cases h),by
   show (P - F+1) * (0 * U)+(F - 1) * N41.sm _ []≤P * 0
   rw [N41.sm_nil];simp⟩
end
noncomputable def AtD(D:Addr)(U:Int)(H:Hp)(M:List Addr)(q p:Addr)(n:Int)(s:DuS):Prop:=∃x:DuX,DuM q x=M∧DuAt D U H q p n x s
theorem AtD.keep{D:Addr}{U:Int}{H H':Hp}{M:List Addr}{q p:Addr}{n:Int}{s:DuS}(h:AtD D U H M q p n s)(k1:∀m∈M,∀o,H m=some o→H' m=some o)(k:∀v e,H v=some (.tup e)→H' v=some (.tup e)):AtD D U H' M q p n s:=by
 obtain ⟨x,e,h⟩:=h
 exact ⟨x,e,h.keep (by rw [e];exact k1) k⟩
theorem AtD.same{D:Addr}{U:Int}{H H':Hp}{M:List Addr}{q p:Addr}{n:Int}{s:DuS}(h:AtD D U H M q p n s)(m:Same H H'):AtD D U H' M q p n s:=h.keep (fun b _ o e=>m _ _ e) fun v e hv=>m _ _ hv
theorem AtD.live{D:Addr}{U:Int}{H:Hp}{M:List Addr}{q p:Addr}{n:Int}{s:DuS}(h:AtD D U H M q p n s):∀m∈M,H m≠none:=by
 obtain ⟨x,e,h⟩:=h
 obtain ⟨dx,fs,ho,_⟩:=h.o
 obtain ⟨kvs,d1,_⟩:=h.dd
 obtain ⟨us,r1,_⟩:=h.rr
 intro m hm
 rw [← e]at hm
 have hm':m=q∨m=x.dd∨m=x.rr:=by simpa [DuM] using hm
 rcases hm' with k | k | k <;> rw [k]
 · rw [ho];exact fun k=>by cases k
 · rw [d1];exact fun k=>by cases k
 · rw [r1];exact fun k=>by cases k
structure RunD(D:Addr)(U:Int)(K:PySem.W.Frag)(C S:Addr)(H0 H:Hp)(q p sh d:Addr)(M:List Addr)(n:Int)(ts:List Th)(ls:Ly)(s:DuS):Prop where
 h:AtD D U H M q p n s
 shf:ShelfAt S H sh p d n ls
 st:StockAt K C H0 p ts
 sm:Same H0 H
 n0:∀m∈M,H0 m=none
 nd:H0 d=none
 nsh:sh∉M
 ndm:d∉M
 ok:OkL (rm ts) (ts.map (·.1)) ls
section
variable {D:Addr} {U:Int} {K:PySem.W.Frag} {C S:Addr} {H0 H H' H1 H2:Hp} {q p sh d w:Addr} {M:List Addr} {n:Int} {ts:List Th} {ls:Ly} {s s':DuS}
theorem RunD.same(r:RunD D U K C S H0 H q p sh d M n ts ls s)(e:Same H H'):RunD D U K C S H0 H' q p sh d M n ts ls s:=
 ⟨r.h.same e,r.shf.same e,r.st,r.sm.trans e,r.n0,r.nd,r.nsh,r.ndm,r.ok⟩
theorem RunD.x(r:RunD D U K C S H0 H q p sh d M n ts ls s):StockX K C H p ts d:=(StockX.of r.st r.nd).same r.sm
theorem RunD.left(r:RunD D U K C S H0 H q p sh d M n ts ls s):n - lyS ls=n - N41.sm (rm ts) (lyN ls):=by rw [okl_sum (ns:=ts.map (·.1)) r.ok.r]
theorem RunD.rule(r:RunD D U K C S H0 H q p sh d M n ts ls s)(k:Kp M H H')(h:AtD D U H' M q p n s'):RunD D U K C S H0 H' q p sh d M n ts ls s':=
 ⟨h,⟨r.shf.o.imp fun _ e=>k _ _ r.nsh e,k _ _ r.ndm r.shf.d,r.shf.nd⟩,r.st,Kp.same r.sm k r.n0,r.n0,r.nd,r.nsh,r.ndm,r.ok⟩
theorem RunD.shelf{ls':Ly}(r:RunD D U K C S H0 H q p sh d M n ts ls s)(k:SameBut d H H')(hs:ShelfAt S H' sh p d n ls')(ok:OkL (rm ts) (ts.map (·.1)) ls'):RunD D U K C S H0 H' q p sh d M n ts ls' s:=
 ⟨r.h.keep (fun m hm o e=>k m o e (fun e2=>r.ndm (e2▸hm))) (fun v e hv=>k v _ hv (fun e2=>by have:=r.shf.d;rw [← e2,hv]at this;cases this)),hs,r.st,but_same r.sm r.nd k,r.n0,r.nd,r.nsh,r.ndm,ok⟩
theorem RunD.lst{zs:List V}(r:RunD D U K C S H0 H q p sh d M n ts ls s)(k:SameBut w H H')(hw:H w=some (.lst zs))(hm:w∉M)(h0:H0 w=none):RunD D U K C S H0 H' q p sh d M n ts ls s:=
 ⟨r.h.keep (fun m hm' o e=>k m o e (fun e2=>hm (e2▸hm'))) (fun v e hv=>k v _ hv (fun e2=>by rw [e2,hw]at hv;cases hv)),r.shf.butL k hw,r.st,but_same r.sm h0 k,r.n0,r.nd,r.nsh,r.ndm,r.ok⟩
theorem RunD.free{b:Addr}(r:RunD D U K C S H0 H q p sh d M n ts ls s)(hb:H b=none):b∉d::M:=fun hm=>by
 rcases List.mem_cons.mp hm with e | e
 · rw [e,r.shf.d]at hb;cases hb
 · exact r.h.live b e hb
theorem RunD.stk(r:RunD D U K C S H0 H q p sh d M n ts ls s):StockAt K C H p ts∧∀H',Kp M H H'→StockAt K C H' p ts:=⟨r.st.same r.sm,fun H' k=>r.st.same (Kp.same r.sm k r.n0)⟩
end
noncomputable def sp58_choice(D:Addr):Sp:=fun vs H Q _=>∃(q p l:Addr) (n U:Int) (x:DuX) (s:DuS),vs=[.ref q,.ref l]∧DuAt D U H q p n x s∧0 < U∧U≤10 ^ 180∧s.ks≠[]∧∀(H':Hp),Same H H'→Q (.str (lst1 s.f s.ks)) H'
noncomputable def sp58_room(D:Addr)(K:PySem.W.Frag)(C S:Addr):Sp:=fun vs H Q _=>∃(H0:Hp) (q p sh d:Addr) (M:List Addr) (n need U:Int) (ts:List Th) (ls:Ly) (s:DuS) (z:Str),vs=[.ref q,.ref sh,.int need]∧RunD D U K C S H0 H q p sh d M n ts ls s∧DM U ts (ts.map (·.1)) z s (lyN ls)∧need≤n∧ls.length≤60∧ts.length≤60∧s.rs.length≤300∧
 ∀(w:Addr) (ls':Ly) (H':Hp),Kp (d::M) H H'→H w=none→H' w=some (.lst ((gf (TD D U ts) (rm ts) n need s (lyN ls) []).2.2.map V.str))→lyN ls'=(gf (TD D U ts) (rm ts) n need s (lyN ls) []).2.1→RunD D U K C S H0 H' q p sh d M n ts ls' (gf (TD D U ts) (rm ts) n need s (lyN ls) []).1→Q (.ref w) H'
noncomputable def sp58_row(D:Addr)(K:PySem.W.Frag)(C S:Addr):Sp:=fun vs H Q _=>∃(H0:Hp) (q p sh d:Addr) (M:List Addr) (n U:Int) (ts:List Th) (ls:Ly) (s:DuS) (z:Str),vs=[.ref q,.ref sh,.str z]∧RunD D U K C S H0 H q p sh d M n ts ls s∧DI U ts (ts.map (·.1)) s (lyN ls)∧(ts.map (·.1)).Nodup∧ts.length≤60∧z∈ts.map (·.1)∧rm ts z≤n∧s.rs.length≤299∧
 ∀(t g:Addr) (ls':Ly) (H':Hp),Kp (d::M) H H'→H t=none→H g=none→H' t=some (.tup [.str (gask (TD D U ts) (rm ts) n (s,lyN ls) z).2.1,.bl (gask (TD D U ts) (rm ts) n (s,lyN ls) z).2.2.1,.ref g])→H' g=some (.lst ((gask (TD D U ts) (rm ts) n (s,lyN ls) z).2.2.2.map V.str))→lyN ls'=(gask (TD D U ts) (rm ts) n (s,lyN ls) z).1.2→RunD D U K C S H0 H' q p sh d M n ts ls' (gask (TD D U ts) (rm ts) n (s,lyN ls) z).1.1→Q (.ref t) H'
noncomputable def sp58_book(D:Addr)(K:PySem.W.Frag)(C S:Addr):Sp:=fun vs H Q _=>∃(H0:Hp) (q p a:Addr) (M:List Addr) (n U:Int) (ts:List Th) (ys:List Str) (s0:DuS),vs=[.ref q,.ref a]∧AtD D U H M q p n s0∧DI U ts (ts.map (·.1)) s0 []∧StockAt K C H0 p ts∧Same H0 H∧(∀m∈M,H0 m=none)∧(ts.map (·.1)).Nodup∧ts.length≤60∧SqL K H a (ys.map V.str)∧a∉M∧ys.length≤200∧(∀y∈ys,y∈ts.map (·.1))∧(∀y∈ys,rm ts y≤n)∧1≤n∧n≤1000000∧s0.rs.length≤50∧
 ∀(b:Addr) (as gs:List Addr) (H':Hp),Kp M H H'→H' b=some (.lst (as.map V.ref))→(∀(i:Nat) a,as[i]?=some a→∃xs,H' a=some (.tup xs))→BookAt K H' b as gs (grows (TD D U ts) (rm ts) n s0 ys ys.length)→AtD D U H' M q p n (gst (TD D U ts) (rm ts) n s0 ys ys.length).1→Q (.ref b) H'
open N41 in
open N41 in
theorem nat_lt{x:Int}{a:Nat}(h0:0≤x)(h1:x≤10 ^ a)(ha:a < 1000):x.natAbs < 10 ^ 1000:=by
 have e:((10 ^ a:Nat):Int)=(10:Int) ^ a:=by norm_cast
 have h2:x.natAbs≤10 ^ a:=by
  have h3:(x.natAbs:Int)=x:=by omega
  have h4:(x.natAbs:Int)≤((10 ^ a:Nat):Int):=by rw [h3,e];exact h1
  exact Int.ofNat_le.mp h4
 exact Nat.lt_of_le_of_lt h2 (Nat.pow_lt_pow_right (by decide) ha)
end N58
namespace N13
open L2 N1 N5 N4 N6 N12
open N53 (NumV)
noncomputable def bad(ts:List Th)(n:Int):List Str→Nat→Option (Bool×Str×Nat)
 | [],_=>none
 | y::ys,i=>if y∈ts.map (·.1) then (if n < rmOf ts y then some (false,y,i) else bad ts n ys (i+1)) else some (true,y,i)
theorem bad_step{ts:List Th}{n:Int}{ys:List Str}{i:Nat}{y:Str}(h:ys[i]?=some y):bad ts n (ys.drop i) i=if y∈ts.map (·.1) then (if n < rmOf ts y then some (false,y,i) else bad ts n (ys.drop (i+1)) (i+1)) else some (true,y,i):=by
 obtain ⟨hi,e⟩:=List.getElem?_eq_some_iff.mp h
 rw [List.drop_eq_getElem_cons hi,e]
 rfl
noncomputable def askD(ts:List Th)(v:V)(ys:List Str):Str×Option (Str×Nat):=
 if wIn 1 1000000 v=true then
  if 200 < ys.length then (Str.ofString "many",none)
  else match bad ts (iOf v) ys 0 with
   | some (true,z,i)=>(Str.ofString "unknown",some (z,i))
   | some (false,z,i)=>(Str.ofString "wide",some (z,i))
   | none=>(Str.ofString "fine",none)
 else (Str.ofString "number",none)
noncomputable def sp13_check(K:PySem.W.Frag)(x:Addr):Sp:=fun vs H Q E=>∃(v:V),vs=[v]∧NumV K H v∧(wIn 1 1000000 v=true→Q .non H)∧(wIn 1 1000000 v=false→∀H' y,Same H H'→H y=none→Err0 x H' y→E (.ref x) (some y) H')
noncomputable def sp13_asks(K:PySem.W.Frag)(C xN xM xU xW:Addr):Sp:=fun vs H Q E=>∃(p a:Addr) (v:V) (ts:List Th) (ys:List Str),vs=[.ref p,.ref a,v]∧StockAt K C H p ts∧(ts.map (·.1)).Nodup∧SqL K H a (ys.map V.str)∧ys.length≤250∧NumV K H v∧
 (askD ts v ys=(Str.ofString "fine",none)→∀H',Same H H'→Q (.bl true) H')∧
 (askD ts v ys=(Str.ofString "number",none)→∀H' y,Same H H'→H y=none→Err0 xN H' y→E (.ref xN) (some y) H')∧
 (askD ts v ys=(Str.ofString "many",none)→∀H' y,Same H H'→H y=none→Err0 xM H' y→E (.ref xM) (some y) H')∧
 (∀z i,askD ts v ys=(Str.ofString "unknown",some (z,i))→∀H' y,Same H H'→H y=none→ErrU xU H' y (.str z) (.int i)→E (.ref xU) (some y) H')∧
 (∀z i,askD ts v ys=(Str.ofString "wide",some (z,i))→∀H' y,Same H H'→H y=none→ErrU xW H' y (.str z) (.int i)→E (.ref xW) (some y) H')
end N13
namespace N56
open L2 N1 N5 N4 N6 N12 N32 N14 N20 N18 N25 NR NQ N57 N58 N13 N53
theorem lst1_fst(f:Str→Int):∀(ks:List Str) (b r:Str),ks.foldl (fun b y=>if f y < f b then y else b) b=r→(r=b∧∀y∈ks,f b≤f y)∨∃pre post,ks=pre++r::post∧f r < f b∧∀y∈pre,f r < f y:=by
 intro ks
 induction ks with
 | nil=>intro b r h;exact .inl ⟨h.symm,fun y hy=>by cases hy⟩
 | cons a t ih=>
  intro b r h
  rw [List.foldl_cons]at h
  by_cases hab:f a < f b
  · rw [if_pos hab]at h
    rcases ih a r h with ⟨h1,h2⟩ | ⟨pre,post,h1,h2,h3⟩
    · exact .inr ⟨[],t,by rw [h1];rfl,by rw [h1];exact hab,fun y hy=>by cases hy⟩
    · refine .inr ⟨a::pre,post,by rw [h1];rfl,by omega,fun y hy=>?_⟩
      rcases List.mem_cons.mp hy with e | e
      · rw [e];exact h2
      · exact h3 y e
  · rw [if_neg hab]at h
    rcases ih b r h with ⟨h1,h2⟩ | ⟨pre,post,h1,h2,h3⟩
    · refine .inl ⟨h1,fun y hy=>?_⟩
      rcases List.mem_cons.mp hy with e | e
      · rw [e];omega
      · exact h2 y e
    · refine .inr ⟨a::pre,post,by rw [h1];rfl,h2,fun y hy=>?_⟩
      rcases List.mem_cons.mp hy with e | e
      · rw [e];omega
      · exact h3 y e
noncomputable def Pu(f g:Str→Int)(L:List Str)(p:Str):Prop:=p∈L∧∀u∈L,f p < f u∨(f p=f u∧g p≤g u)
theorem pick_eq{f g:Str→Int}{ks L:List Str}{p:Str}(hp:Pu f g L p)(pm:ks.Perm L)(o:ks.Pairwise fun x y=>g x < g y):lst1 f ks=p:=by
 have hpk:p∈ks:=pm.mem_iff.mpr hp.1
 have hne:ks≠[]:=List.ne_nil_of_mem hpk
 have hrm:=lst1_mem (f:=f) hne
 have hr:=hp.2 _ (pm.mem_iff.mp hrm)
 have hle:=lst1_le (f:=f) hpk
 have hf:f (lst1 f ks)=f p∧g p≤g (lst1 f ks):=by omega
 cases ks with
 | nil=>exact absurd rfl hne
 | cons a t=>
 rcases lst1_fst f (a::t) a (lst1 f (a::t)) rfl with ⟨h1,h2⟩ | ⟨pre,post,h1,h2,h3⟩
 · rw [h1]at hf ⊢
   rcases List.mem_cons.mp hpk with e | e
   · exact e.symm
   · have:=(List.pairwise_cons.mp o).1 p e
     omega
 · generalize lst1 f (a::t)=r at *
   rw [h1]at hpk o
   rcases List.mem_append.mp hpk with e | e
   · have:=h3 p e;omega
   · rcases List.mem_cons.mp e with e | e
     · exact e.symm
     · have:=(List.pairwise_cons.mp (List.pairwise_append.mp o).2.1).1 p e
       omega
structure LawU(s:DuS)(l:List Str)(i:Nat)(kd kl:List (Key×V))(g:Str→Int):Prop where
 d:∀z,valV kd (Sum.inr z)=if z∈l then some (.int (s.f z)) else none
 m:∀z∈l,valV kl (Sum.inr z)=some (.int (g z))
 o:s.ks.Pairwise fun x y=>g x < g y
 b:∀z∈l,g z < i
section
variable {U:Int} {ts:List Th} {ns l:List Str} {s:DuS} {i:Nat} {kd kl:List (Key×V)} {g:Str→Int} {z p:Str}
theorem n74_same{α:Type}{f:Str→α}{z:Str}{v:α}:N74s f z v z=v:=if_pos rfl
theorem n74_ne{α:Type}{f:Str→α}{z y:Str}{v:α}(h:y≠z):N74s f z v y=f y:=if_neg h
theorem LawU.nil:LawU ⟨0,[],fun _=>0,[]⟩ [] 0 [] [] fun _=>0:=⟨fun z=>by simp [valV],by simp,List.Pairwise.nil,by simp⟩
theorem LawU.hit(h:LawU s l i kd kl g)(hd:DI U ts ns s l)(hz:z∈l):LawU (askS U ts s z) l (i+1) (putK kd (Sum.inr z) (.int (s.r+sh U ts z))) (putK kl (Sum.inr z) (.int (i:Int))) (N74s g z i):=by
 have hzs:z∈s.ks:=hd.pm.mem_iff.mpr hz
 have eA:askS U ts s z=⟨s.r,s.ks.erase z++[z],N74s s.f z (s.r+sh U ts z),s.rs++[0]⟩:=if_pos hzs
 rw [eA]
 refine ⟨fun u=>?_,fun u hu=>?_,?_,fun u hu=>?_⟩
 · show _=if u∈l then some (V.int (N74s s.f z (s.r+sh U ts z) u)) else none
   rw [valV_put]
   by_cases e:u=z
   · rw [e,if_pos rfl,if_pos hz,n74_same]
   · rw [if_neg (inr_ne' e),h.d u,n74_ne e]
 · rw [valV_put]
   by_cases e:u=z
   · rw [e,if_pos rfl,n74_same]
   · rw [if_neg (inr_ne' e),h.m u hu,n74_ne e]
 · show (s.ks.erase z++[z]).Pairwise _
   have hne:∀y∈s.ks.erase z,y≠z:=fun y hy e=>by rw [e]at hy;exact (List.Nodup.not_mem_erase hd.nd) hy
   refine List.pairwise_append.mpr ⟨?_,List.pairwise_singleton _ _,fun a ha b hb=>?_⟩
   · refine List.Pairwise.imp_of_mem (fun {a b} ha hb hab=>?_) (h.o.sublist (List.erase_sublist))
     rw [n74_ne (hne a ha),n74_ne (hne b hb)];exact hab
   · rw [List.mem_singleton.mp hb,n74_same,n74_ne (hne a ha)]
     exact h.b a (hd.pm.mem_iff.mp (List.mem_of_mem_erase ha))
 · by_cases e:u=z
   · rw [e,n74_same];omega
   · rw [n74_ne e];have:=h.b u hu;omega
theorem LawU.mid(h:LawU s l i kd kl g)(hzs:z∉s.ks)(hz:z∉l):LawU (askS U ts s z) l i kd (putK kl (Sum.inr z) (.int (i:Int))) g:=by
 have eA:askS U ts s z=⟨s.r,s.ks,s.f,s.rs++[0]⟩:=if_neg hzs
 rw [eA]
 refine ⟨h.d,fun u hu=>?_,h.o,h.b⟩
 rw [valV_put,if_neg (inr_ne' (fun e=>hz (by rw [← e];exact hu)))]
 exact h.m u hu
theorem LawU.pop(h:LawU s l i kd kl g)(nd:l.Nodup):LawU (goneS s p) (l.erase p) i (dropK kd (Sum.inr p)) kl g:=by
 refine ⟨fun u=>?_,fun u hu=>h.m u (List.mem_of_mem_erase hu),h.o.sublist List.erase_sublist,fun u hu=>h.b u (List.mem_of_mem_erase hu)⟩
 show _=if u∈l.erase p then some (V.int (s.f u)) else none
 by_cases e:u=p
 · rw [e,N71.valV_drop_same,if_neg (List.Nodup.not_mem_erase nd)]
 · rw [N71.valV_dropK (inr_ne' e),h.d u]
   by_cases hu:u∈l
   · rw [if_pos hu,if_pos ((List.mem_erase_of_ne e).mpr hu)]
   · rw [if_neg hu,if_neg (fun k=>hu (List.mem_of_mem_erase k))]
theorem LawU.come(h:LawU s l i kd kl g)(pm:s.ks.Perm l)(hz:z∉l)(hk:valV kl (Sum.inr z)=some (.int (i:Int))):LawU ⟨s.r,s.ks++[z],N74s s.f z (s.r+sh U ts z),s.rs⟩ (l++[z]) (i+1) (putK kd (Sum.inr z) (.int (s.r+sh U ts z))) kl (N74s g z i):=by
 have hne:∀y∈l,y≠z:=fun y hy e=>hz (by rw [← e];exact hy)
 refine ⟨fun u=>?_,fun u hu=>?_,?_,fun u hu=>?_⟩
 · show _=if u∈l++[z] then some (V.int (N74s s.f z (s.r+sh U ts z) u)) else none
   rw [valV_put]
   by_cases e:u=z
   · rw [e,if_pos rfl,if_pos (by simp),n74_same]
   · rw [if_neg (inr_ne' e),h.d u,n74_ne e]
     by_cases hu:u∈l
     · rw [if_pos hu,if_pos (List.mem_append_left _ hu)]
     · rw [if_neg hu,if_neg (fun k=>(List.mem_append.mp k).elim hu (fun k=>e (List.mem_singleton.mp k)))]
 · by_cases e:u=z
   · rw [e,n74_same];exact hk
   · rw [n74_ne e]
     exact h.m u ((List.mem_append.mp hu).resolve_right (fun k=>e (List.mem_singleton.mp k)))
 · show (s.ks++[z]).Pairwise _
   refine List.pairwise_append.mpr ⟨?_,List.pairwise_singleton _ _,fun a ha b hb=>?_⟩
   · refine List.Pairwise.imp_of_mem (fun {a b} ha hb hab=>?_) h.o
     rw [n74_ne (hne a (pm.mem_iff.mp ha)),n74_ne (hne b (pm.mem_iff.mp hb))];exact hab
   · rw [List.mem_singleton.mp hb,n74_same,n74_ne (hne a (pm.mem_iff.mp ha))]
     exact h.b a (pm.mem_iff.mp ha)
 · by_cases e:u=z
   · rw [e,n74_same];omega
   · rw [n74_ne e]
     have:=h.b u ((List.mem_append.mp hu).resolve_right (fun k=>e (List.mem_singleton.mp k)))
     omega
end
noncomputable def nmB6(c:Int):List Nat:=[bc (c / 36 % 26)]++((List.range 7).map fun j:Nat=>bc ((c / 36+5 * (1+(j:Int)) * (1+(j:Int))) % 36)).take ((1+c / 4 % 6).toNat - 1)
noncomputable def nmF(c:Int)(k:Nat):Str:=if c % 4=3 then tx (nm1 (c / 4) (fun j:Nat=>c / 36+5 * (1+(j:Int)) * (1+(j:Int))) k) else tx (nm3 (nmB6 c) (c / 24 % (1+c / 4 % 6)).toNat (c / 1296) k)
noncomputable def nmL(c:Int)(m:Nat):List Str:=(List.range m).map (nmF c)
noncomputable def sp56_names:Sp:=fun vs H Q _=>∃(c:Int) (m:Nat),vs=[.int c,.int m]∧m≤61∧∀(p:Addr) (H':Hp),H p=none→Same H H'→H' p=some (.lst ((nmL c m).map V.str))→(nmL c m).Nodup→(∀y∈nmL c m,nameB y.cps.toList=true)→Q (.ref p) H'
noncomputable def sp56_rows(K:PySem.W.Frag):Sp:=fun vs H Q _=>∃(a:Addr) (ns:List Int),vs=[.ref a]∧SqL K H a (ns.map V.int)∧ns.length≤63∧
 ∀(r:Addr) (as:List Addr) (ts:List Th) (H':Hp),Same H H'→H' r=some (.lst (as.map V.ref))→RowsAt K H' r as ts→1≤ts.length→(∀t∈ts,t.2.1 < 1000)→ts.map (·.1)=nmL (ns.getD 1 0) ts.length→Q (.ref r) H'
noncomputable def sp56_priced(K:PySem.W.Frag):Sp:=fun vs H Q _=>∃(r:Addr) (c:Int) (as:List Addr) (ts:List Th),vs=[.ref r,.int c]∧RowsAt K H r as ts∧1≤ts.length∧(∀t∈ts,t.2.1 < 1000)∧
 ∀(r':Addr) (as':List Addr) (ts':List Th) (H':Hp),Same H H'→H' r'=some (.lst (as'.map V.ref))→RowsAt K H' r' as' ts'→1≤ts'.length→ts'.map (·.1)=ts.map (·.1)→Q (.ref r') H'
theorem nmL_len{c:Int}{m:Nat}:(nmL c m).length=m:=by unfold nmL;rw [List.length_map,List.length_range]
theorem nmL_new{c:Int}{m:Nat}(nd:(nmL c (m+1)).Nodup):nmF c m∉nmL c m:=by
 unfold nmL at nd ⊢
 rw [List.range_succ,List.map_append,List.nodup_append]at nd
 exact fun h=>nd.2.2 _ h _ (by simp) rfl
noncomputable def sp56_rinit(K:PySem.W.Frag)(C xN:Addr):Sp:=fun vs H Q E=>∃(q dx p:Addr) (v:V),vs=[.ref q,.ref p,v]∧H q=some (.ins C dx [])∧NumV K H v∧(∀n,v= .int n→wIn 1 1000000 v=true→∀H',SameBut q H H'→H' q=some (.ins C dx [(Str.ofString "stock",.ref p),(Str.ofString "places",.int n)])→Q .non H')∧(wIn 1 1000000 v=false→∀H' y,Same H H'→H y=none→Err0 xN H' y→E (.ref xN) (some y) H')
noncomputable def sp56_init(K:PySem.W.Frag)(C xN:Addr):Sp:=fun vs H Q E=>∃(q dx p:Addr) (v:V) (U:Int),vs=[.ref q,.ref p,v]∧H q=some (.ins C dx [])∧NumV K H v∧0 < U∧(∀n,v= .int n→wIn 1 1000000 v=true→∀(x:DuX) (H':Hp),SameBut q H H'→(∀b∈[x.dd,x.rr],H b=none)→DuAt C U H' q p n x ⟨0,[],fun _=>0,[]⟩→Q .non H')∧(wIn 1 1000000 v=false→∀H' y,Same H H'→H y=none→Err0 xN H' y→E (.ref xN) (some y) H')
section
variable {ts:List Th} {n:Int} {z:Str}
theorem rm_rmOf:rm ts z=rmOf ts z:=by
 unfold rm rmOf
 cases ts.find? (fun t=>decide (t.1=z)) <;> rfl
theorem bad_app{tl:List Str}:∀{ys:List Str} {i:Nat},(∀y∈ys,y∈ts.map (·.1))→(∀y∈ys,rm ts y≤n)→bad ts n (ys++tl) i=bad ts n tl (i+ys.length):=by
 intro ys
 induction ys with
 | nil=>intro i _ _;rfl
 | cons y r ih=>
  intro i h1 h2
  show (if y∈ts.map (·.1) then (if n < rmOf ts y then some (false,y,i) else bad ts n (r++tl) (i+1)) else some (true,y,i))=_
  have h3:=h2 y List.mem_cons_self
  rw [if_pos (h1 y List.mem_cons_self),← rm_rmOf,if_neg (by omega),ih (fun u hu=>h1 u (List.mem_cons_of_mem _ hu)) (fun u hu=>h2 u (List.mem_cons_of_mem _ hu))]
  congr 1
  rw [List.length_cons];omega
theorem fine_ask{ys:List Str}(h1:1≤n)(h2:n≤1000000)(h3:ys.length≤200)(h4:∀y∈ys,y∈ts.map (·.1))(h5:∀y∈ys,rm ts y≤n):askD ts (.int n) ys=(Str.ofString "fine",none):=by
 unfold askD
 rw [if_pos (N53.wIn_is h1 h2),if_neg (by omega)]
 show (match bad ts n ys 0 with | some (true,z,i)=>_ | some (false,z,i)=>_ | none=>_)=_
 have e:=bad_app (tl:=[]) (i:=0) h4 h5
 rw [List.append_nil]at e
 rw [e]
 rfl
theorem unk_ask{ys:List Str}(h1:1≤n)(h2:n≤1000000)(h3:ys.length < 200)(h4:∀y∈ys,y∈ts.map (·.1))(h5:∀y∈ys,rm ts y≤n)(hz:z∉ts.map (·.1)):askD ts (.int n) (ys++[z])=(Str.ofString "unknown",some (z,ys.length)):=by
 unfold askD
 rw [if_pos (N53.wIn_is h1 h2),if_neg (by rw [List.length_append];simp only [List.length_cons,List.length_nil];omega)]
 show (match bad ts n (ys++[z]) 0 with | some (true,z,i)=>_ | some (false,z,i)=>_ | none=>_)=_
 rw [bad_app (tl:=[z]) (i:=0) h4 h5]
 show (match (if z∈ts.map (·.1) then (if n < rmOf ts z then some (false,z,0+ys.length) else bad ts n [] (0+ys.length+1)) else some (true,z,0+ys.length)) with | some (true,z,i)=>_ | some (false,z,i)=>_ | none=>_)=_
 rw [if_neg hz,Nat.zero_add]
end
section
variable {K:PySem.W.Frag} {C xN xM xU xW:Addr} {vs:List V} {H:Hp} {Q:VK} {E:XK}
theorem im_places:sp32_check vs H Q E→sp13_check K xN vs H Q E:=fun ⟨i,e,h1,h2,q⟩=>⟨.int i,e,NumV.flat rfl,fun _=>q,fun h=>by rw [N53.wIn_is h1 h2]at h;cases h⟩
end
section
variable {P:Program} {w:World} {K:PySem.W.Frag} {mg:Str→Option Value} {base:Heap} {CX:CXT} {k:Nat} {C:Addr} {m:Str} {ps:List Str} {sp sp':Sp}
theorem Def.wk{x:Str}(D:Def P w K mg base CX k x ps sp)(h:∀vs H Q E,sp' vs H Q E→sp vs H Q E):Def P w K mg base CX k x ps sp':=by
 obtain ⟨f,fd,F,hm⟩:=D
 exact ⟨f,fd,F.imp h,hm⟩
end
noncomputable def sp56_book(D:Addr)(K:PySem.W.Frag)(C S xU:Addr):Sp:=fun vs H Q E=>∃(q a:Addr),vs=[.ref q,.ref a]∧(sp58_book D K C S [.ref q,.ref a] H Q E∨∃(p:Addr) (M:List Addr) (n U:Int) (ts:List Th) (ys:List Str) (s0:DuS) (z:Str),AtD D U H M q p n s0∧StockAt K C H p ts∧(ts.map (·.1)).Nodup∧SqL K H a ((ys++[z]).map V.str)∧ys.length < 200∧(∀y∈ys,y∈ts.map (·.1))∧(∀y∈ys,rm ts y≤n)∧z∉ts.map (·.1)∧1≤n∧n≤1000000∧∀H' y,Same H H'→H y=none→ErrU xU H' y (.str z) (.int ys.length)→E (.ref xU) (some y) H')
noncomputable def sp56_due(C N:Addr):Sp:=fun vs H Q E=>∃(q p:Addr) (n U:Int) (x:DuX) (s:DuS) (z:Str),vs=[.ref q,.str z]∧DuAt C U H q p n x s∧(reprText z).length≤1000∧(z∈s.ks→∀a,RtA H a U (s.f z)→Q (.ref a) H)∧(z∉s.ks→∀H' y,Same H H'→H y=none→Err0 N H' y→E (.ref N) (some y) H')
noncomputable def sp56_scale(K:PySem.W.Frag):Sp:=fun vs H Q _=>∃(r:Addr) (as:List Addr) (ts:List Th),vs=[.ref r]∧RowsAt K H r as ts∧∀S:Int,0 < S→S≤10 ^ 180→(∀t∈ts,t.2.2 ∣ S)→Q (.int S) H
noncomputable def sp56_least:Sp:=fun vs H Q _=>∃(ly co la:Addr) (L:List Str) (kc kl:List (Key×V)) (c m:Str→Int),vs=[.ref ly,.ref co,.ref la]∧H ly=some (.lst (L.map V.str))∧L≠[]∧H co=some (.dK kc)∧H la=some (.dK kl)∧(∀z∈L,valV kc (Sum.inr z)=some (.int (c z)))∧(∀z∈L,valV kl (Sum.inr z)=some (.int (m z)))∧∀p,Pu c m L p→Q (.str p) H
noncomputable def sp56_run(K:PySem.W.Frag)(C:Addr):Sp:=fun vs H Q _=>∃(e se a:Addr) (n U:Int) (ts:List Th) (ys:List Str) (ks:List (Key×V)),vs=[.ref e,.ref se,.ref a,.int n]∧H e=some (.dK (N20.rmK ts))∧H se=some (.dK ks)∧(∀y∈ts.map (·.1),valV ks (Sum.inr y)=some (.int (sh U ts y)))∧Un U ts∧(ts.map (·.1)).Nodup∧ts.length≤60∧SqL K H a (ys.map V.str)∧ys.length≤200∧(∀y∈ys,y∈ts.map (·.1))∧(∀y∈ys,rm ts y≤n)∧
 ∀(t b dd:Addr) (as gs:List Addr) (kd:List (Key×V)) (H':Hp),Same H H'→H' t=some (.tup [.ref b,.int (gst (TD C U ts) (rm ts) n ⟨0,[],fun _=>0,[]⟩ ys ys.length).1.r,.ref dd])→BookAt K H' b as gs (grows (TD C U ts) (rm ts) n ⟨0,[],fun _=>0,[]⟩ ys ys.length)→H' dd=some (.dK kd)→(∀z,valV kd (Sum.inr z)=if z∈(gst (TD C U ts) (rm ts) n ⟨0,[],fun _=>0,[]⟩ ys ys.length).1.ks then some (.int ((gst (TD C U ts) (rm ts) n ⟨0,[],fun _=>0,[]⟩ ys ys.length).1.f z)) else none)→Q (.ref t) H'
noncomputable def sp56_told(C:Addr):Sp:=fun vs H Q _=>∃(q p dd:Addr) (n U:Int) (x:DuX) (s:DuS) (z:Str) (kd:List (Key×V)),vs=[.ref q,.str z,.ref dd,.int U]∧DuAt C U H q p n x s∧0 < U∧U≤10 ^ 180∧(reprText z).length≤1000∧H dd=some (.dK kd)∧(∀z,valV kd (Sum.inr z)=if z∈s.ks then some (.int (s.f z)) else none)∧∀H',Same H H'→Q (.bl true) H'
noncomputable def sp56_refused(K:PySem.W.Frag)(C S:Addr):Sp:=fun vs H Q _=>∃(p a:Addr) (n c U:Int) (ts:List Th) (ys:List Str) (z:Str),vs=[.ref p,.int n,.ref a,.str z,.int c]∧StockAt K S H p ts∧(ts.map (·.1)).Nodup∧H a=some (.lst (ys.map V.str))∧ys.length < 200∧(∀y∈ys,y∈ts.map (·.1))∧(∀y∈ys,rm ts y≤n)∧z∉ts.map (·.1)∧1≤n∧n≤1000000∧0 < U∧
 ∀(q:Addr) (x:DuX) (H':Hp),Same H H'→(∀b∈DuM q x,H b=none)→DuAt C U H' q p n x ⟨0,[],fun _=>0,[]⟩→Q (.ref q) H'
noncomputable def sp56_asks(K:PySem.W.Frag):Sp:=fun vs H Q _=>∃(a r:Addr) (ns:List Int) (as:List Addr) (ts:List Th),vs=[.ref a,.ref r]∧SqL K H a (ns.map V.int)∧ns.length≤63∧RowsAt K H r as ts∧1≤ts.length∧
 ∀(p:Addr) (ys:List Str) (H':Hp),Same H H'→H' p=some (.lst (ys.map V.str))→ys.length≤195→(∀y∈ys,y∈ts.map (·.1))→Q (.ref p) H'
end N56
namespace L2
open PySem.W
noncomputable def rIsiO(K:PySem.W.Frag):List V→Hp→VK→Prop:=fun xs H Q=>∃(p C dx D:Addr) (fs:List (Str×V)),xs=[.ref p,.ref D]∧H p=some (.ins C dx fs)∧PySem.W.kitOne K (.ref C) (.ref D)=some true∧Q (.bl true) H
section
variable {X:Cx}
theorem call_isiO:CallR X (.builtin "isinstance") (rIsiO X.K):=by
 intro pins s σ H xs us Q I r h
 obtain ⟨p,C,dx,D,fs,rfl,hp,e,q⟩:=h
 obtain ⟨u,c,rfl,r1,r2⟩:=vals2 r
 cases r1
 cases r2
 obtain ⟨mA,ob,_⟩:=ins_get I.hok hp
 refine call_isinstance (S:=fun _ R s=>(X.K.In s.heap∧∃ob,s.heap.get? p=some ob∧ob.cls= .ref C)∧∀tk,R (.ok (.ret (.bool true))) {s with toks:=tk})
  (fun prog w A R s hs=>isinstance_outer (ans_yes (G:=fun h=>∃ob,h.get? p=some ob∧ob.cls= .ref C) (fun M h _ gp=>match gp with | ⟨ob,e1,e2⟩=>e2▸(Looks.ld e1).andThen .now) e 0 _ prog w A R s hs) (by intro z;cases z)) ⟨⟨I.kIn,_,ob.obj,rfl⟩,fun tk=>⟨.bl true,H,I.tok _,rfl,q⟩⟩
end
theorem rd_isiO{K:PySem.W.Frag}{xs:List V}{H:Hp}{Q:VK}:rIsiO K xs H Q=∃(p C dx D:Addr) (fs:List (Str×V)),xs=[.ref p,.ref D]∧H p=some (.ins C dx fs)∧PySem.W.kitOne K (.ref C) (.ref D)=some true∧Q (.bl true) H:=rfl
end L2
open PySem PySem.W PyProof.Rows
namespace L2
structure Bs(P:Program)(w:World)(K:PySem.W.Frag)(mg:Str→Option Value)(base:Heap):Prop where
 ex:∃h:Heap,K.In h∧h.Ns mainGlobals mg
theorem lc{α:Type}{us:List α}{n:Nat}(h:us.length=n+1):∃u r,us=u::r∧r.length=n:=by
 cases us with
 | nil=>cases h
 | cons u r=>exact ⟨u,r,rfl,Nat.succ.inj h⟩
theorem l0{α:Type}{us:List α}(h:us.length=0):us=[]:=by
 cases us with
 | nil=>rfl
 | cons u r=>cases h
section
variable {P:Program} {w:World} {K:PySem.W.Frag} {mg:Str→Option Value} {base:Heap} {CX:CXT} {k:Nat} {sp:Sp} {ps:List Str} {x qual n p1 p2 p3 p4 p5 p6 p7:Str} {st:Stmt} {f C:Addr} {fd:FuncData}
theorem Fun.d(F:Fun K x qual st f fd)(B:Bs P w K mg base)(a:PySem.W.nsIn K mainGlobals x=some (some (.ref f)))(o:FnOk P w K mg base CX k f fd ps sp)(b:Binds K fd ps []):Def P w K mg base CX k x ps sp:=
 let ⟨_,X,G⟩:=B.ex;⟨f,fd,o,PySem.W.mg_of X G a,F.kp,b⟩
theorem Fun.m(F:Fun K x qual st f fd)(B:Bs P w K mg base)(M:Meth K C x f)(o:FnOk P w K mg base CX k f fd ps sp)(b:Binds K fd ps []):DefM P w K mg base CX k C x ps sp:=
 ⟨f,fd,o,M,b⟩
theorem Fun.i(F:Fun K x qual st f fd)(B:Bs P w K mg base)(M:Mk K C f)(a:PySem.W.nsIn K mainGlobals n=some (some (.ref C)))(o:FnOk P w K mg base CX k f fd ps sp)(b:Binds K fd ps []):DefI P w K mg base CX k n C ps sp:=
 let ⟨_,X,G⟩:=B.ex;⟨f,fd,o,M,PySem.W.mg_of X G a,b⟩
theorem Fun.e1(F:Fun K x qual st f fd)(h:∀(kV doc pm:Value) (an:Option Addr) (cdv ct u:Value),bindArgs (PySem.W.fnOf x qual (defArgs st) (defBody st) (defScope st) .none kV doc pm an cdv ct) ⟨[u],[]⟩=pure [(p1,u)]):Binds K fd [p1] []:=
 F.binds (ps:=[p1]) fun kV doc pm an cdv ct us hl=>by
  obtain ⟨u,us,rfl,h1⟩:=lc hl
  cases l0 h1
  exact h kV doc pm an cdv ct u
theorem Fun.e2(F:Fun K x qual st f fd)(h:∀(kV doc pm:Value) (an:Option Addr) (cdv ct u v:Value),bindArgs (PySem.W.fnOf x qual (defArgs st) (defBody st) (defScope st) .none kV doc pm an cdv ct) ⟨[u,v],[]⟩=pure [(p1,u),(p2,v)]):Binds K fd [p1,p2] []:=
 F.binds (ps:=[p1,p2]) fun kV doc pm an cdv ct us hl=>by
  obtain ⟨u,us,rfl,h1⟩:=lc hl
  obtain ⟨v,us,rfl,h2⟩:=lc h1
  cases l0 h2
  exact h kV doc pm an cdv ct u v
theorem Fun.e3(F:Fun K x qual st f fd)(h:∀(kV doc pm:Value) (an:Option Addr) (cdv ct u v w:Value),bindArgs (PySem.W.fnOf x qual (defArgs st) (defBody st) (defScope st) .none kV doc pm an cdv ct) ⟨[u,v,w],[]⟩=pure [(p1,u),(p2,v),(p3,w)]):Binds K fd [p1,p2,p3] []:=
 F.binds (ps:=[p1,p2,p3]) fun kV doc pm an cdv ct us hl=>by
  obtain ⟨u,us,rfl,h1⟩:=lc hl
  obtain ⟨v,us,rfl,h2⟩:=lc h1
  obtain ⟨w,us,rfl,h3⟩:=lc h2
  cases l0 h3
  exact h kV doc pm an cdv ct u v w
theorem Fun.e4(F:Fun K x qual st f fd)(h:∀(kV doc pm:Value) (an:Option Addr) (cdv ct u v w y:Value),bindArgs (PySem.W.fnOf x qual (defArgs st) (defBody st) (defScope st) .none kV doc pm an cdv ct) ⟨[u,v,w,y],[]⟩=pure [(p1,u),(p2,v),(p3,w),(p4,y)]):Binds K fd [p1,p2,p3,p4] []:=
 F.binds (ps:=[p1,p2,p3,p4]) fun kV doc pm an cdv ct us hl=>by
  obtain ⟨u,us,rfl,h1⟩:=lc hl
  obtain ⟨v,us,rfl,h2⟩:=lc h1
  obtain ⟨w,us,rfl,h3⟩:=lc h2
  obtain ⟨y,us,rfl,h4⟩:=lc h3
  cases l0 h4
  exact h kV doc pm an cdv ct u v w y
theorem Fun.e5(F:Fun K x qual st f fd)(h:∀(kV doc pm:Value) (an:Option Addr) (cdv ct u v w y z:Value),bindArgs (PySem.W.fnOf x qual (defArgs st) (defBody st) (defScope st) .none kV doc pm an cdv ct) ⟨[u,v,w,y,z],[]⟩=pure [(p1,u),(p2,v),(p3,w),(p4,y),(p5,z)]):Binds K fd [p1,p2,p3,p4,p5] []:=
 F.binds (ps:=[p1,p2,p3,p4,p5]) fun kV doc pm an cdv ct us hl=>by
  obtain ⟨u,us,rfl,h1⟩:=lc hl
  obtain ⟨v,us,rfl,h2⟩:=lc h1
  obtain ⟨w,us,rfl,h3⟩:=lc h2
  obtain ⟨y,us,rfl,h4⟩:=lc h3
  obtain ⟨z,us,rfl,h5⟩:=lc h4
  cases l0 h5
  exact h kV doc pm an cdv ct u v w y z
end
theorem st_c{n:Str}{N:List Str}{v:V}{vs:List V}:start (n::N) (v::vs)=some v::start N vs:=by
 simp [start]
theorem st_n{n:Str}{N:List Str}:start (n::N) []=none::start N []:=rfl
theorem st_e:start [] []=[]:=rfl
end L2
namespace K56
open L2 K03 N1 N5 N4 N6 N12 N32 N41 N14 N20 N18 N25 NR NQ N57 N58 N56 N13
local macro_rules | `(tactic| walk_at "rq") => `(tactic| simp only [rd_asg, rd_var, rd_c, rd_op, rd_I0, rd_I, rd_U, rd_name, rd_ifS, rd_test, rd_b, rd_ret, rd_retN, rd_next, rd_break, rd_cont, rd_cb, rd_cons, rd_nil, rd_call, rd_not, rd_or, rd_and, rd_andV, rd_orV, rd_notV, rd_if, rd_un, rd_eq, rd_ne, rd_par, rd_tup, rd_lst, rd_never, rd_drop, rd_gcons, rd_gnil, rd_gsub, rd_chain, rd_rng1, rd_rng2, rd_ilist, rd_itup, rd_for', sc_nn, sc_ni, sc_in, sc_nb, sc_bn, sc_ns, sc_sn, sc_ii, sc_bb, sc_ss, sc_is, sc_si, sc_bs, sc_sb, rd_comp, rd_istr, rd_sl, rd_noPart, rd_part, rd_slS, rd_slL, rd_bm, rd_bm0, tyV_str, rd_join, rd_find, rd_split, rd_all, rd_mulS, rd_jnil, rd_jcons, rd_fstr, rd_fmt, rd_fmtR, rd_dnewK, true_implies, false_implies, Bool.false_and, Bool.true_and, Bool.and_true, Bool.and_false, Bool.false_or, Bool.true_or, Bool.or_true, Bool.or_false, rd_eqQ, rd_neQ, rd_methE, rd_makeE, rd_fld, rd_sfld, rd_din, rd_dnotin, rd_dget, rd_dput, rd_gtup, rd_inS, rd_notinS, hasS_one, blk_K, Int.zero_add, Int.toNat_natCast, upd_upd, List.map_cons, List.map_nil, List.getD_cons_zero, List.getD_cons_succ, cxOf_K, List.length_cons, List.length_nil, List.getElem?_cons_zero, List.getElem?_cons_succ, List.set_cons_zero, List.set_cons_succ, Option.some.injEq, V.int.injEq, V.bl.injEq, V.str.injEq, V.ref.injEq, V.ty.injEq, exists_eq_left', exists_eq_left, exists_and_left, exists_eq, exists_eq', List.cons.injEq, and_true, true_and, decide_eq_true_eq, Bool.not_eq_true', decide_eq_false_iff_not, reduceCtorEq, exists_const, Bool.true_eq_false, Bool.false_eq_true, if_true, if_false, ite_true, ite_false, Bool.not_true, Bool.not_false, decide_true, decide_false, Bool.not_not, false_and, and_false, exists_false, false_or, or_false, true_or, or_true, and_assoc, not_true_eq_false, not_false_eq_true, Int.reduceToNat, Nat.reduceAdd, rd_raiseF, rd_raiseI, rd_hasF, rd_fldX, rd_sfldX, rd_methX, rd_exc, rd_excI, rd_listD, rd_values, rd_sumV, rd_remove, rd_isB, rd_isnB, rd_dpop1, rd_dget2, rd_popAt, rd_glst, rd_tryV, rd_hclsV, rd_hasV, tryX_K, sui_K, rd_raise, rd_callE, rd_hnil, rd_ends, rd_isiE, exists_eq_right, sp_cell, sp_made, sp_is_name, sp_law, sp_is_whole, sp_within, sp_checkG, sp_initG, sp_has, sp_thingG, sp_roomG, sp32_room, sp32_thing, sp32_check, N41.sp41_asks, sp_putG, sp_castG, rd_listD, rd_values, rd_sumV, rd_remove, rd_dpop1, sp_nms, sp_sinit, sp_lying, sp_holds, sp_left, rd_ienum, rd_izip, sp_mix, sp12_names, rd_items, rd_iview, rd_comp3, rd_popAt, rd_compI, rd_comp2, rd_maxL, rd_maxV, rd_neN, rd_setL, rd_dget1, sp20_stream, sp20_rows, sp20_places, sp20_rooms, sp20_same, rd_callS, rd_sumL, rd_dget2, rAdd, rd_augN, rd_ipI, rd_isnB, sp41_div, sp41_cost, sp57_ratio, sp57_plus, sp57_minus, sp57_under, sp57_owe, sp57_asked, sp57_gone, sp57_prices, rd_eqN, rd_thaw, rd_idict, sp32_early, sp58_choice, sp58_room, sp58_row, sp58_book, rd_disp1, N53.sp53_within, sp_unk, sp13_check, sp13_asks, sp56_rinit, sp56_init, sp56_book, sp57_level, sp56_due, sp25_nests, sp56_names, sp56_rows, sp56_priced, sp56_asks, sp57_whole, sp57_shared, sp57_lratio, sp56_scale, sp56_least, sp56_run, sp56_told, sp56_refused, rd_isiO])
local macro_rules | `(tactic| walk_at "rd") => `(tactic| first | (dsimp only [rd_asg, rd_var, rd_c, rd_op, rd_I0, rd_I, rd_U, rd_name, rd_ifS, rd_test, rd_b, rd_ret, rd_retN, rd_next, rd_break, rd_cont, rd_cb, rd_cons, rd_nil, rd_call, rd_not, rd_or, rd_and, rd_andV, rd_orV, rd_notV, rd_if, rd_un, rd_eq, rd_ne, rd_par, rd_tup, rd_lst, rd_never, rd_drop, rd_gcons, rd_gnil, rd_gsub, rd_chain, rd_rng1, rd_rng2, rd_ilist, rd_itup, rd_for', sc_nn, sc_ni, sc_in, sc_nb, sc_bn, sc_ns, sc_sn, sc_ii, sc_bb, sc_ss, sc_is, sc_si, sc_bs, sc_sb, rd_comp, rd_istr, rd_sl, rd_noPart, rd_part, rd_slS, rd_slL, rd_bm, rd_bm0, tyV_str, rd_join, rd_find, rd_split, rd_all, rd_mulS, rd_jnil, rd_jcons, rd_fstr, rd_fmt, rd_fmtR, rd_dnewK, true_implies, false_implies, Bool.false_and, Bool.true_and, Bool.and_true, Bool.and_false, Bool.false_or, Bool.true_or, Bool.or_true, Bool.or_false, rd_eqQ, rd_neQ, rd_methE, rd_makeE, rd_fld, rd_sfld, rd_din, rd_dnotin, rd_dget, rd_dput, rd_gtup, rd_inS, rd_notinS, hasS_one, blk_K, Int.zero_add, Int.toNat_natCast, upd_upd, List.map_cons, List.map_nil, List.getD_cons_zero, List.getD_cons_succ, cxOf_K, List.length_cons, List.length_nil, List.getElem?_cons_zero, List.getElem?_cons_succ, List.set_cons_zero, List.set_cons_succ, Option.some.injEq, V.int.injEq, V.bl.injEq, V.str.injEq, V.ref.injEq, V.ty.injEq, exists_eq_left', exists_eq_left, exists_and_left, exists_eq, exists_eq', List.cons.injEq, and_true, true_and, decide_eq_true_eq, Bool.not_eq_true', decide_eq_false_iff_not, reduceCtorEq, exists_const, Bool.true_eq_false, Bool.false_eq_true, if_true, if_false, ite_true, ite_false, Bool.not_true, Bool.not_false, decide_true, decide_false, Bool.not_not, false_and, and_false, exists_false, false_or, or_false, true_or, or_true, and_assoc, not_true_eq_false, not_false_eq_true, Int.reduceToNat, Nat.reduceAdd, rd_raiseF, rd_raiseI, rd_hasF, rd_fldX, rd_sfldX, rd_methX, rd_exc, rd_excI, rd_listD, rd_values, rd_sumV, rd_remove, rd_isB, rd_isnB, rd_dpop1, rd_dget2, rd_popAt, rd_glst, rd_tryV, rd_hclsV, rd_hasV, tryX_K, sui_K, rd_raise, rd_callE, rd_hnil, rd_ends, rd_isiE, exists_eq_right, sp_cell, sp_made, sp_is_name, sp_law, sp_is_whole, sp_within, sp_checkG, sp_initG, sp_has, sp_thingG, sp_roomG, sp32_room, sp32_thing, sp32_check, N41.sp41_asks, sp_putG, sp_castG, rd_listD, rd_values, rd_sumV, rd_remove, rd_dpop1, sp_nms, sp_sinit, sp_lying, sp_holds, sp_left, rd_ienum, rd_izip, sp_mix, sp12_names, rd_items, rd_iview, rd_comp3, rd_popAt, rd_compI, rd_comp2, rd_maxL, rd_maxV, rd_neN, rd_setL, rd_dget1, sp20_stream, sp20_rows, sp20_places, sp20_rooms, sp20_same, rd_callS, rd_sumL, rd_dget2, rAdd, rd_augN, rd_ipI, rd_isnB, sp41_div, sp41_cost, sp57_ratio, sp57_plus, sp57_minus, sp57_under, sp57_owe, sp57_asked, sp57_gone, sp57_prices, rd_eqN, rd_thaw, rd_idict, sp32_early, sp58_choice, sp58_room, sp58_row, sp58_book, rd_disp1, N53.sp53_within, sp_unk, sp13_check, sp13_asks, sp56_rinit, sp56_init, sp56_book, sp57_level, sp56_due, sp25_nests, sp56_names, sp56_rows, sp56_priced, sp56_asks, sp57_whole, sp57_shared, sp57_lratio, sp56_scale, sp56_least, sp56_run, sp56_told, sp56_refused, rd_isiO]; try walk_at "rq") | walk_at "rq")
local macro_rules | `(tactic| walk_at "hp") => `(tactic| first | with_reducible assumption | exact upd_same | (rw [upd_ne (by first | with_reducible assumption | exact ne_of_none (by with_reducible assumption) (by with_reducible assumption))]; first | with_reducible assumption | exact upd_same))
local macro_rules | `(tactic| walk_at "sq") => `(tactic| (repeat' first | with_reducible assumption | exact SqT.of upd_same | exact SqL.of upd_same | refine' Same.tup (Same.new (by with_reducible assumption)) ?_ | refine' Same.seq (Same.new (by with_reducible assumption)) ?_))
local macro_rules | `(tactic| walk_at "isi") => `(tactic| first | exact isi_ii | exact isi_ib | exact isi_bb | exact isi_is | exact isi_ss | exact isi_si | exact isi_sb | exact isi_bi | exact isi_bs | exact isi_ni | exact isi_ns | exact isi_tupt (by walk_at "hp") | exact isi_lstl (by walk_at "hp") | exact isi_tupl (by walk_at "hp") | exact isi_lstt (by walk_at "hp") | exact isi_tups (by walk_at "hp") | exact isi_lsts (by walk_at "hp") | exact isi_tupi (by walk_at "hp") | exact isi_lsti (by walk_at "hp"))
local macro_rules | `(tactic| walk_at "slen") => `(tactic| first | omega | decide +kernel | (refine le_app ?_ ?_ <;> walk_at "slen"))
local macro_rules | `(tactic| walk_at "side") => `(tactic| first | with_reducible assumption | with_reducible exact cdiv_of (by omega) (by omega) | with_reducible exact cpow_of (by decide) (by decide) (by decide) | with_reducible exact cmul_l (by omega) (by omega) | with_reducible exact cmul_r (by omega) (by omega) | omega | decide | decide +kernel | (have := line_val; omega) | (simp only [len_app, len_one, line_val]; omega) | (rw [line_val]; walk_at "slen"; done))
local macro_rules | `(tactic| walk_at "go1") => `(tactic| first | walk_at "rd" | ((with_reducible refine And.intro ?_ ?_); (focus (walk_at "side"; done))) | ((with_reducible apply isi_go); (focus (walk_at "isi"; done))) | ((with_reducible apply ixT_of); (focus (walk_at "sq"; done)); (focus rfl)) | ((with_reducible apply ixL_of); (focus (walk_at "sq"; done)); (focus rfl)) | ((with_reducible apply len_goT); (focus (walk_at "sq"; done))) | ((with_reducible apply len_goL); (focus (walk_at "sq"; done))) | ((with_reducible apply script_go); (focus (walk_at "sq"; done)); (focus (assumption; done))) | ((with_reducible apply cell_go); (focus (walk_at "sq"; done)); (focus (decide; done)); (focus (assumption; done))) | (intro (_ : List (Addr × PySem.Obj)) (_ : PySem.Value → PySem.Shared → Prop)) | with_reducible refine seq_go fun _ _ => ?_ | (refine leaf_go (by with_reducible assumption) ?_; subst_vars))
local macro_rules | `(tactic| walk_at "go") => `(tactic| repeat walk_at "go1")
noncomputable def top(i:Nat):Stmt:=PySem.Challenge.pw_castoff_k56_dues_by_hand.main.body.getD i (.Pass ⟨0,0,0,0⟩)
structure Txt(K:W.Frag)(mg:Str→Option Value)(Z3 Z4 Z7 Z2 Z8 Z6 Z1 Z5 Z9 Z0:Addr):Prop where
 Za0:mg "Stock"=some (.ref Z1)
 Zm:Cls K Z1
 Zd:NoAttr K Z1 "things"
 Za1:mg "Shelf"=some (.ref Z5)
 Zg:Cls K Z5
 Zs:NoAttr K Z5 "stock"
 Zu:NoAttr K Z5 "places"
 Zi:NoAttr K Z5 "rooms"
 Z9g:mg "Rule"=some (.ref Z9)
 Z4j:Cls K Z9
 Za2:mg "Dues"=some (.ref Z0)
 Za:Cls K Z0
 Zk:NoAttr K Z0 "stock"
 Zo:NoAttr K Z0 "places"
 Zj:NoAttr K Z0 "reached"
 Zf:NoAttr K Z0 "dues"
 Zq:NoAttr K Z0 "rises"
 Z9y:mg "CastError"=some (.ref Z3)
 Z9h:mg "Unknown"=some (.ref Z4)
 Z9z:mg "TooWide"=some (.ref Z7)
 Z52:mg "NoNumber"=some (.ref Z2)
 Z7n:ExcC K Z2
 k_NoNumber:W.keepIn K (.ref Z2)=true
 Z9i:mg "TooMany"=some (.ref Z8)
 Z9j:ExcC K Z8
 k_TooMany:W.keepIn K (.ref Z8)=true
 Z53:mg "NotThere"=some (.ref Z6)
 Z7o:ExcC K Z6
 k_NotThere:W.keepIn K (.ref Z6)=true
 Z0k:ExcQ K Z4 Z3
 Zv:W.findIn K (.ref Z4) "name"=some none
 Zr:W.findIn K (.ref Z4) "place"=some none
 Z1w:ExcQ K Z7 Z3
 Z02:W.findIn K (.ref Z7) "name"=some none
 Z00:W.findIn K (.ref Z7) "place"=some none
 Z40:W.exmOne K (.ref Z2) (.ref Z2)=some true
 Z4n:W.exmOne K (.ref Z4) (.ref Z4)=some true
 Z41:W.exmOne K (.ref Z6) (.ref Z6)=some true
 w_Dues_Rule:W.kitOne K (.ref Z0) (.ref Z9)=some true
 Zy:mg "len"=none
 Zc:mg "isinstance"=none
 Z4k:mg "int"=none
 Z1e:mg "bool"=none
 Z54:mg "str"=none
 Z0h:mg "list"=none
 Z1d:mg "tuple"=none
 Z55:mg "all"=none
 Z0b:mg "range"=none
 Z2y:mg "sum"=none
 Z05:mg "enumerate"=none
 Z56:mg "zip"=none
 Z57:mg "max"=none
 Z64:mg "min"=none
 Z2z:mg "abs"=none
 Z0l:∃t,mg "LETTERS"=some (.str "abcdefghijklmnopqrstuvwxyz" t)
 Z0w:∃t,mg "FIGURES"=some (.str "0123456789" t)
 Z0a:∃t,mg "MOST_SIGNS"=some (.int 8 t)
 Z04:∃t,mg "MOST_THINGS"=some (.int 60 t)
 Z0i:∃t,mg "MOST_ROOM"=some (.int 1000 t)
 Zz:∃t,mg "MOST_PLACES"=some (.int 1000000 t)
 Z06:∃t,mg "MOST_ASKS"=some (.int 200 t)
local macro_rules | `(tactic| walk_at "sc") => `(tactic| exact ⟨rfl, rfl, rfl, by decide +kernel, rfl, by decide +kernel, by decide +kernel⟩)
local macro_rules | `(tactic| walk_at "st") => `(tactic| simp only [st_c, st_n, st_e])
section
variable {P:Program} {w:World} {K:W.Frag} {mg:Str→Option Value} {base:Heap} {Z3 Z4 Z7 Z2 Z8 Z6 Z1 Z5 Z9 Z0:Addr}
noncomputable abbrev Z42:Stmt:=top 30
noncomputable abbrev Z43:Stmt:=top 31
noncomputable abbrev Z30:Stmt:=top 13
noncomputable abbrev Z20:Stmt:=top 14
noncomputable abbrev Z0x:Stmt:=top 32
noncomputable abbrev Z1f:Stmt:=inClass (top 33) 0
noncomputable abbrev Zw:Stmt:=inClass (top 7) 0
noncomputable abbrev Zx:Stmt:=inClass (top 8) 0
noncomputable abbrev Z21:Stmt:=inClass (top 33) 2
noncomputable abbrev Z0j:Stmt:=inClass (top 33) 3
noncomputable abbrev Z0p:Stmt:=inClass (top 33) 6
noncomputable abbrev Z0s:Stmt:=top 22
noncomputable abbrev Z1g:Stmt:=top 36
noncomputable abbrev Z1h:Stmt:=inClass (top 23) 0
noncomputable abbrev Z0y:Stmt:=inClass (top 23) 1
noncomputable abbrev Z0z:Stmt:=inClass (top 23) 2
noncomputable abbrev Z0f:Stmt:=inClass (top 23) 3
noncomputable abbrev Z22:Stmt:=inClass (top 23) 4
noncomputable abbrev Z1i:Stmt:=inClass (top 23) 5
noncomputable abbrev Z0q:Stmt:=inClass (top 33) 5
noncomputable abbrev Z1j:Stmt:=top 15
noncomputable abbrev Z31:Stmt:=top 16
noncomputable abbrev Z1k:Stmt:=top 17
noncomputable abbrev Z10:Stmt:=top 18
noncomputable abbrev Z11:Stmt:=top 19
noncomputable abbrev Z07:Stmt:=inClass (top 38) 0
noncomputable abbrev Z23:Stmt:=inClass (top 43) 0
noncomputable abbrev Z1l:Stmt:=inClass (top 38) 1
noncomputable abbrev Z32:Stmt:=inClass (top 43) 2
noncomputable abbrev Z1m:Stmt:=inClass (top 43) 1
noncomputable abbrev Z12:Stmt:=inClass (top 43) 3
noncomputable abbrev Z24:Stmt:=inClass (top 43) 4
noncomputable abbrev Z25:Stmt:=inClass (top 43) 5
noncomputable abbrev Z1n:Stmt:=inClass (top 43) 6
noncomputable abbrev Z13:Stmt:=inClass (top 43) 7
noncomputable abbrev Z26:Stmt:=top 39
noncomputable abbrev Z4p:Stmt:=top 40
noncomputable abbrev Z44:Stmt:=top 41
noncomputable abbrev Z4q:Stmt:=top 45
noncomputable abbrev Z33:Stmt:=top 46
noncomputable abbrev Z45:Stmt:=top 47
noncomputable abbrev Z4r:Stmt:=top 48
noncomputable abbrev Z34:Stmt:=top 49
noncomputable abbrev Z4s:Stmt:=top 50
noncomputable abbrev Z46:Stmt:=top 51
noncomputable abbrev Z4t:Stmt:=top 52
noncomputable abbrev Z35:Stmt:=top 53
noncomputable abbrev Z47:Stmt:=top 54
noncomputable abbrev Z36:Stmt:=top 55
noncomputable abbrev Z48:Stmt:=top 56
noncomputable abbrev Z49:Stmt:=top 57
noncomputable abbrev Z4a:Stmt:=top 58
noncomputable abbrev Z5f:Stmt:=top 59
noncomputable abbrev Z4u:Stmt:=top 60
noncomputable abbrev Z27:Stmt:=top 61
noncomputable abbrev Z1a:Stmt:=top 62
theorem Z7p{f:Addr}{fd:FuncData}(F:Fun K "made_of" "made_of" Z42 f fd)(T:Txt K mg Z3 Z4 Z7 Z2 Z8 Z6 Z1 Z5 Z9 Z0):FnOk P w K mg base (CXF P w) 1 f fd ["text","signs"] (sp_made):=by
 have sc:FnScope ["text","signs"] ["text","signs"] (defScope Z42):=by walk_at "sc"
 refine F.okF sc (fun vs H Q E h=>?_) (fun cdv A outer s H vs Q E hr h=>?_)
 · obtain ⟨_,_,rfl,_⟩:=h;rfl
 obtain ⟨z,w,rfl,hz,q⟩:=h
 refine ⟨_,(@pss_one _ _ _ (@ps_ret _ _ _ _ (pe_callB (call_all rfl) rfl T.Z55 (by first | rfl | decide+kernel) (pa_cons (pe_comp1 "sign" [1] rfl rfl (pi_str (pv 0)) (fun b=>(pe_cmpR op_inS (pv 0) (pv 1) (by with_unfolding_all rfl)))) pa_nil)))),?_⟩
 walk_at "st"
 walk_at "go"
 refine compS_pure (fun c=>V.bl (decide (c∈w.cps.toList))) hz (fun b c H' Q' hc sm q'=>?_) fun D hD=>?_
 · walk_at "go"
   exact q'
 · refine ⟨_,rfl,z.cps.toList.map fun c=>decide (c∈w.cps.toList),?_,?_⟩
   · rw [List.map_map];exact SqL.of upd_same
   · rw [List.all_map];exact q _ (Same.new hD)
theorem Z7q{f:Addr}{fd:FuncData}(F:Fun K "is_name" "is_name" Z43 f fd)(T:Txt K mg Z3 Z4 Z7 Z2 Z8 Z6 Z1 Z5 Z9 Z0)(Z4b:Def P w K mg base (CXF P w) 1 "made_of" ["text","signs"] (sp_made)):FnOk P w K mg base (CXF P w) 2 f fd ["thing"] (sp_is_name K):=by
 have sc:FnScope ["thing"] ["thing"] (defScope Z43):=by walk_at "sc"
 refine F.okF sc (fun vs H Q E h=>?_) (fun cdv A outer s H vs Q E hr h=>?_)
 · obtain ⟨_,rfl,_⟩:=h;rfl
 obtain ⟨x,rfl,hx⟩:=h
 refine ⟨_,(@pss_cons _ _ _ _ _ (ps_if (pt_not (pt_val (pe_callB call_isinst rfl T.Zc (by first | rfl | decide+kernel) (pa_cons (pv 0) (pa_cons (pe_bltn (v:= .ty "str") rfl T.Z54 (by first | rfl | decide+kernel) rfl) pa_nil)))))
  (@pss_one _ _ _ (@ps_ret _ _ _ _ pe_bl))
  pss_nil)
  (@pss_cons _ _ _ _ _ (ps_if (PW.pt (pw_or (pt_cmpR op_lt (pe_callB call_len_str rfl T.Zy PySem.boot_len (pa_cons (pv 0) pa_nil)) pe_int (nomark _)) (pw_or1 (pt_cmpR op_gt (pe_callB call_len_str rfl T.Zy PySem.boot_len (pa_cons (pv 0) pa_nil)) (pe_gint rfl T.Z0a) (nomark _)))))
   (@pss_one _ _ _ (@ps_ret _ _ _ _ pe_bl))
   pss_nil)
  (@pss_one _ _ _ (@ps_ret _ _ _ _ (pe_and (pe_cmpR op_inS (@pe_ix _ _ _ _ _ _ _ ix_str (pv 0) pe_int (fun _ _=>rfl)) (pe_gstr rfl T.Z0l) (by with_unfolding_all rfl)) (pe_one (pe_callD Z4b hr rfl pass_onF (pa_cons (pv 0) (pa_cons (pe_op op_add_str (pe_gstr rfl T.Z0l) (pe_gstr rfl T.Z0w)) pa_nil))))))))),?_⟩
 walk_at "st"
 rcases hx with ⟨z,rfl,hz,q⟩ | ⟨hi,q⟩
 · walk_at "go"
   have hl:=str_len (z:=z)
   split
   · rename_i h1
     have e:nameB z.cps.toList=false:=by unfold nameB;rw [decide_eq_false (show ¬1≤z.cps.toList.length by omega)];rfl
     rw [e]at q;exact q _ (Same.refl H)
   · rename_i h1
     refine ⟨hz,?_⟩
     split
     · have e:nameB z.cps.toList=false:=by unfold nameB;rw [decide_eq_false (show ¬z.cps.toList.length≤8 by omega),Bool.and_false];rfl
       rw [e]at q;exact q _ (Same.refl H)
     · rename_i h2
       obtain ⟨c,r,hcr⟩:∃c r,z.cps.toList=c::r:=by
        cases h:z.cps.toList with
        | nil=>rw [h]at hl;simp at hl;omega
        | cons c r=>exact ⟨c,r,rfl⟩
       have hn:nameB z.cps.toList=(decide (c∈letters) && z.cps.toList.all fun c=>decide (c∈letters++figures)):=by
        unfold nameB;rw [decide_eq_true (show 1≤z.cps.toList.length by omega),decide_eq_true (show z.cps.toList.length≤8 by omega)];rw [hcr];rfl
       rw [hn]at q
       walk_at "go"
       refine ixS_of hz (by rw [hcr];exact at_0) ?_
       walk_at "go"
       rw [let_list]
       split
       · rename_i hc
         rw [decide_eq_true hc,Bool.true_and]at q
         walk_at "go"
         rw [app_list,let_list,fig_list]
         exact q
       · rename_i hc
         rw [decide_eq_false hc,Bool.false_and]at q
         exact q _ (Same.refl H)
 · walk_at "go"
   refine ⟨_,hi,?_⟩
   walk_at "go"
   exact q
theorem Z6g{f:Addr}{fd:FuncData}(F:Fun K "is_whole" "is_whole" Z30 f fd)(T:Txt K mg Z3 Z4 Z7 Z2 Z8 Z6 Z1 Z5 Z9 Z0):FnOk P w K mg base (CXF P w) 1 f fd ["thing"] (sp_is_whole K):=by
 have sc:FnScope ["thing"] ["thing"] (defScope Z30):=by walk_at "sc"
 refine F.okF sc (fun vs H Q E h=>?_) (fun cdv A outer s H vs Q E hr h=>?_)
 · obtain ⟨_,_,_,rfl,_⟩:=h;rfl
 obtain ⟨x,b,c,rfl,h1,h2,q⟩:=h
 refine ⟨_,(@pss_one _ _ _ (@ps_ret _ _ _ _ (pe_and (pe_callB call_isinst rfl T.Zc (by first | rfl | decide+kernel) (pa_cons (pv 0) (pa_cons (pe_bltn (v:= .ty "int") rfl T.Z4k (by first | rfl | decide+kernel) rfl) pa_nil))) (pe_one (pe_not (pe_callB call_isinst rfl T.Zc (by first | rfl | decide+kernel) (pa_cons (pv 0) (pa_cons (pe_bltn (v:= .ty "bool") rfl T.Z1e (by first | rfl | decide+kernel) rfl) pa_nil)))))))),?_⟩
 walk_at "st"
 walk_at "go"
 refine ⟨_,h1,?_⟩
 cases b
 · walk_at "go"
   exact q
 · walk_at "go"
   refine ⟨_,h2 rfl,?_⟩
   walk_at "go"
   exact q
theorem Z65{f:Addr}{fd:FuncData}(F:Fun K "is_within" "is_within" Z20 f fd)(T:Txt K mg Z3 Z4 Z7 Z2 Z8 Z6 Z1 Z5 Z9 Z0)(Z37:Def P w K mg base (CXF P w) 1 "is_whole" ["thing"] (sp_is_whole K)):FnOk P w K mg base (CXF P w) 2 f fd ["thing","least","most"] (N53.sp53_within K):=by
 have sc:FnScope ["thing","least","most"] ["thing","least","most"] (defScope Z20):=by walk_at "sc"
 refine F.okF sc (fun vs H Q E h=>?_) (fun cdv A outer s H vs Q E hr h=>?_)
 · obtain ⟨_,_,_,rfl,_⟩:=h;rfl
 obtain ⟨v,lo,hi,rfl,hv,q⟩:=h
 refine ⟨_,(@pss_one _ _ _ (@ps_ret _ _ _ _ (pe_and (pe_callD Z37 hr rfl pass_onF (pa_cons (pv 0) pa_nil)) (pe_one (pe_chain op_le op_le (pv 1) (pv 0) (pv 2)))))),?_⟩
 walk_at "st"
 obtain ⟨b,c,h1,h2,h3,h4⟩:=hv
 walk_at "go"
 refine ⟨b,h1,c,h2,?_⟩
 split
 · rename_i h
   obtain ⟨i,rfl⟩:=h3 h
   simp only [wIn]at q
   walk_at "go"
   split
   · rename_i h'
     rw [decide_eq_true h',Bool.true_and]at q;exact q
   · rename_i h'
     rw [decide_eq_false h',Bool.false_and]at q;exact q
 · rename_i h
   have e:wIn lo hi v=false:=by
    cases v with
    | int i=>exact absurd rfl (h4 (by simpa using h) i)
    | _=>rfl
   rw [e]at q;exact q
theorem Z5g{f:Addr}{fd:FuncData}(F:Fun K "check_thing" "check_thing" Z0x f fd)(T:Txt K mg Z3 Z4 Z7 Z2 Z8 Z6 Z1 Z5 Z9 Z0)(Z4c:Def P w K mg base (CXF P w) 2 "is_name" ["thing"] (sp_is_name K))(Z01:Def P w K mg base (CXF P w) 2 "is_within" ["thing","least","most"] (N53.sp53_within K)):FnOk P w K mg base (CXF P w) 3 f fd ["name","cost","room","earlier"] (sp_checkG K):=by
 have sc:FnScope ["name","cost","room","earlier"] ["name","cost","room","earlier"] (defScope Z0x):=by walk_at "sc"
 refine F.okF sc (fun vs H Q E h=>?_) (fun cdv A outer s H vs Q E hr h=>?_)
 · obtain ⟨_,_,_,_,_,_,rfl,_⟩:=h;rfl
 obtain ⟨n,co,r,e,kvs,ks,rfl,he,hk,hrow,q⟩:=h
 refine ⟨_,(@pss_cons _ _ _ _ _ (ps_if (pt_not (pt_val (pe_callD Z4c hr rfl pass_onF (pa_cons (pv 0) pa_nil))))
  (@pss_one _ _ _ ps_never)
  pss_nil)
  (@pss_cons _ _ _ _ _ (ps_if (pt_cmp (pc_din (hu_of hr) (pv 0) (pv 3)))
   (@pss_one _ _ _ ps_never)
   pss_nil)
  (@pss_cons _ _ _ _ _ (ps_if (pt_not (pt_val (pe_callD Z01 hr rfl pass_onF (pa_cons (pv 1) (pa_cons pe_int (pa_cons (pe_op op_pow pe_int pe_int) pa_nil))))))
   (@pss_one _ _ _ ps_never)
   pss_nil)
  (@pss_one _ _ _ (ps_if (pt_not (pt_val (pe_callD Z01 hr rfl pass_onF (pa_cons (pv 2) (pa_cons pe_int (pa_cons (pe_gint rfl T.Z0i) pa_nil))))))
   (@pss_one _ _ _ ps_never)
   pss_nil))))),?_⟩
 walk_at "st"
 obtain ⟨z,c,w,rfl,rfl,rfl,nz,hb,h1,h2,h3,h4⟩:=rowR_none hrow
 have line:=line_val
 have hz8:=name_len hb
 walk_at "go"
 intro H1 sm1
 rw [hb]
 have he1:=sm1 _ _ he
 walk_at "go"
 refine ⟨_,DGet.k (k:=Sum.inr z) he1,?_⟩
 rw [key_mem hk,decide_eq_false nz]
 walk_at "go"
 refine ⟨N53.NumV.flat rfl,?_⟩
 split
 · rename_i h
   exact absurd h (by rw [wIn_ok h1 h2];decide)
 · walk_at "go"
   refine ⟨N53.NumV.flat rfl,?_⟩
   split
   · rename_i h
     exact absurd h (by rw [wIn_ok h3 h4];decide)
   · walk_at "go"
     exact q _ sm1
theorem Z5u{f:Addr}{fd:FuncData}(F:Fun K "__init__" "Stock.__init__" Z1f f fd)(T:Txt K mg Z3 Z4 Z7 Z2 Z8 Z6 Z1 Z5 Z9 Z0)(Z14:Def P w K mg base (CXF P w) 3 "check_thing" ["name","cost","room","earlier"] (sp_checkG K)):FnOk P w K mg base (CXF P w) 4 f fd ["self","rows"] (sp_initG K Z1):=by
 have sc:FnScope ["self","rows","name","cost","room"] ["self","rows"] (defScope Z1f):=by walk_at "sc"
 refine F.okF sc (fun vs H Q E h=>?_) (fun cdv A outer s H vs Q E hr h=>?_)
 · obtain ⟨_,_,_,_,rfl,_⟩:=h;rfl
 obtain ⟨p,dx,ra,rs,rfl,hp,hrs,hall,er,q⟩:=h
 refine ⟨_,(@pss_cons _ _ _ _ _ (ps_if (pt_cmpR op_gt (pe_callB call_len_seq rfl T.Zy PySem.boot_len (pa_cons (pv 1) pa_nil)) (pe_gint rfl T.Z04) (nomark _))
  (@pss_one _ _ _ ps_never)
  pss_nil)
  (@pss_cons _ _ _ _ _ (ps_fld (pv 0) pe_dnewK rfl)
  (@pss_one _ _ _ (ps_for own_outF rfl (pi_list (pv 1)) (pg_tup rfl (pgs_cons (pg_name (i:=2) sc.nd rfl (Or.inl rfl)) (pgs_cons (pg_name (i:=3) sc.nd rfl (Or.inl rfl)) (pgs_cons (pg_name (i:=4) sc.nd rfl (Or.inl rfl)) pgs_nil))))
   (@pss_cons _ _ _ _ _ (ps_expr (pe_callD Z14 hr rfl pass_onF (pa_cons (pv 2) (pa_cons (pv 3) (pa_cons (pv 4) (pa_cons (pe_fld (pv 0) rfl) pa_nil))))))
   (@pss_one _ _ _ (ps_dput (hu_of hr) (pe_fld (pv 0) rfl) (pv 2) (pe_tup (pa_cons (pe_callB call_lenD rfl T.Zy PySem.boot_len (pa_cons (pe_fld (pv 0) rfl) pa_nil)) (pa_cons (pv 3) (pa_cons (pv 4) pa_nil)))) rfl))))))),?_⟩
 walk_at "st"
 have line:=line_val
 obtain ⟨hl60,hstk⟩:=initR_none er
 walk_at "go"
 rw [List.length_map]
 split
 · rename_i h
   exact absurd h (by omega)
 · rename_i h
   walk_at "go"
   intro d hd
   have npd:p≠d:=ne_of_none hp hd
   walk_at "go"
   refine ⟨Z1,dx,[],by rw [upd_ne npd];exact hp,T.Zm,T.Zd,by decide,?_⟩
   have sb0:SameBut p H (upd (upd H d (.dK [])) p (.ins Z1 dx (flds d))):=fun b o e n=>by rw [upd_ne n,upd_ne (ne_of_none e hd)];exact e
   have hp0:upd (upd H d (.dK [])) p (.ins Z1 dx (flds d)) p=some (.ins Z1 dx (flds d)):=upd_same
   have hd0:upd (upd H d (.dK [])) p (.ins Z1 dx (flds d)) d=some (.dK []):=by rw [upd_ne npd.symm,upd_same]
   unfold flds at sb0 hp0 hd0
   generalize upd (upd H d (HO.dK [])) p (HO.ins Z1 dx (putF (Str.ofString "things") (V.ref d) []))=H0 at sb0 hp0 hd0 ⊢
   walk_at "go"
   refine ⟨⟨_,SqL.but sb0 hp hrs⟩,?_⟩
   refine forL_by (xs:=rs.map fun t=>V.ref t.1) (fun i σ H'=>∃v1 v2 v3,σ=[some (V.ref p),some (V.ref ra),v1,v2,v3]∧SameBut p H H'∧H' p=some (.ins Z1 dx (flds d))∧MidAt K H' d (rs.take i)∧stockR (nmsOf (rs.take i)) (rs.drop i)=none) ⟨none,none,none,rfl,sb0,hp0,⟨[],hd0,rfl,fun j t e=>by simp at e⟩,by rw [List.take_zero,List.drop_zero];exact hstk⟩ (fun i σ H' _ h_=>by obtain ⟨v1,v2,v3,_,sb,_⟩:=h_;exact SqL.but sb hp hrs) ?_ ?_
   · rintro i x σ H' hx ⟨v1,v2,v3,rfl,sb,hp',⟨kvs,hd',hk,hm⟩,hst⟩
     rw [List.getElem?_map]at hx
     cases ht:rs[i]? with
     | none=>rw [ht]at hx;cases hx
     | some t=>
      rw [ht]at hx
      simp only [Option.map_some,Option.some.injEq]at hx
      subst hx
      have hi:i < rs.length:=(List.getElem?_eq_some_iff.mp ht).1
      have r1:=SqT.but sb hp (hall t (List.mem_of_getElem? ht))
      rw [stockR_step ht]at hst
      have hkl:kvs.length=i:=by
       have:=congrArg List.length hk
       simp [nmsOf]at this;omega
      cases hrow:rowR (nmsOf (rs.take i)) t.2.1 t.2.2.1 t.2.2.2 with
      | some e=>rw [hrow]at hst;cases hst
      | none=>
       rw [hrow]at hst
       obtain ⟨z,c,q',e1,e2,e3,nz,hb,_⟩:=rowR_none hrow
       walk_at "go"
       refine ⟨_,r1,rfl,?_⟩
       walk_at "go"
       refine ⟨Z1,dx,flds d,hp',T.Zm,T.Zd,_,flds_things,d,rfl,kvs,hd',_,hk,hrow,fun H1 sm1=>?_⟩
       rw [e1,e2,e3]
       have hp1:=sm1 _ _ hp'
       have hd1:=sm1 _ _ hd'
       walk_at "go"
       refine ⟨Z1,dx,flds d,hp1,T.Zm,T.Zd,_,flds_things,?_⟩
       walk_at "go"
       refine ⟨kvs,hd1,by omega,fun t2 ht2=>?_⟩
       have np2:p≠t2:=ne_of_none hp1 ht2
       have nd2:d≠t2:=ne_of_none hd1 ht2
       have hd2:upd H1 t2 (.tup [.int kvs.length,.int c,.int q']) d=some (.dK kvs):=by rw [upd_ne nd2];exact hd1
       refine ⟨Z1,dx,flds d,by rw [upd_ne np2];exact hp1,T.Zm,T.Zd,_,flds_things,d,rfl,_,DPut.k (k:=Sum.inr z) hd2 (by omega),?_,?_,?_,?_⟩
       · intro b o eb nb
         have h1:=sm1 _ _ (sb b o eb nb)
         rw [upd_ne (ne_of_none eb hd),upd_ne (ne_of_none h1 ht2)]
         exact h1
       · rw [upd_ne npd,upd_ne np2];exact hp1
       · rw [List.take_add_one,ht]
         refine MidAt.snoc hd2 hk (fun j t' e=>?_) e1 e2 e3 nz upd_same
         obtain ⟨a,q1,q2⟩:=hm j t' e
         exact ⟨a,q1,(sm1.trans (Same.new ht2)).tup q2⟩
       · rw [List.take_add_one,ht]
         have e:nmsOf (rs.take kvs.length++(some t).toList)=nmsOf (rs.take kvs.length)++[sOf t.2.1]:=by unfold nmsOf;simp
         rw [e];exact hst
   · rintro σ H' ⟨v1,v2,v3,rfl,sb,hp',⟨kvs,hd',hk,hm⟩,hst⟩
     simp only [List.length_map,List.take_length,List.drop_length]at hk hm hst
     show Q V.non H'
     refine q _ sb ⟨dx,d,kvs,hp',hd',?_,fun i t ht=>?_⟩
     · rw [hk];unfold nmsOf;rw [List.map_map,List.map_map];rfl
     · rw [List.getElem?_map]at ht
       cases hr:rs[i]? with
       | none=>rw [hr]at ht;cases ht
       | some t'=>
        rw [hr]at ht
        simp only [Option.map_some,Option.some.injEq]at ht
        subst ht
        exact hm i t' hr
theorem Z58{f:Addr}{fd:FuncData}(F:Fun K "__init__" "Unknown.__init__" Zw f fd)(T:Txt K mg Z3 Z4 Z7 Z2 Z8 Z6 Z1 Z5 Z9 Z0):FnOk P w K mg base (CXF P w) 1 f fd ["self","name","place"] (sp_unk Z4):=by
 have sc:FnScope ["self","name","place"] ["self","name","place"] (defScope Zw):=by walk_at "sc"
 refine F.okF sc (fun vs H Q E h=>?_) (fun cdv A outer s H vs Q E hr h=>?_)
 · obtain ⟨_,_,_,_,rfl,_⟩:=h;rfl
 obtain ⟨x,n,p,nw,rfl,hx,q⟩:=h
 refine ⟨_,(@pss_cons _ _ _ _ _ (ps_fldX rfl (pv 0) (pv 1) rfl)
  (@pss_one _ _ _ (ps_fldX rfl (pv 0) (pv 2) rfl))),?_⟩
 walk_at "st"
 walk_at "go"
 refine ⟨nw,Z4,Z3,T.Z0k,T.Zv,.inl ⟨hx,fun dx hd=>?_⟩⟩
 have nd:x≠dx:=ne_of_none hx hd
 walk_at "go"
 refine ⟨nw,Z4,Z3,T.Z0k,T.Zr,.inr ⟨dx,by rw [upd_ne nd,upd_same],_,upd_same,by simp [putF],?_⟩⟩
 walk_at "go"
 exact q dx hd
theorem Z59{f:Addr}{fd:FuncData}(F:Fun K "__init__" "TooWide.__init__" Zx f fd)(T:Txt K mg Z3 Z4 Z7 Z2 Z8 Z6 Z1 Z5 Z9 Z0):FnOk P w K mg base (CXF P w) 1 f fd ["self","name","place"] (sp_unk Z7):=by
 have sc:FnScope ["self","name","place"] ["self","name","place"] (defScope Zx):=by walk_at "sc"
 refine F.okF sc (fun vs H Q E h=>?_) (fun cdv A outer s H vs Q E hr h=>?_)
 · obtain ⟨_,_,_,_,rfl,_⟩:=h;rfl
 obtain ⟨x,n,p,nw,rfl,hx,q⟩:=h
 refine ⟨_,(@pss_cons _ _ _ _ _ (ps_fldX rfl (pv 0) (pv 1) rfl)
  (@pss_one _ _ _ (ps_fldX rfl (pv 0) (pv 2) rfl))),?_⟩
 walk_at "st"
 walk_at "go"
 refine ⟨nw,Z7,Z3,T.Z1w,T.Z02,.inl ⟨hx,fun dx hd=>?_⟩⟩
 have nd:x≠dx:=ne_of_none hx hd
 walk_at "go"
 refine ⟨nw,Z7,Z3,T.Z1w,T.Z00,.inr ⟨dx,by rw [upd_ne nd,upd_same],_,upd_same,by simp [putF],?_⟩⟩
 walk_at "go"
 exact q dx hd
theorem Z66{f:Addr}{fd:FuncData}(F:Fun K "has" "Stock.has" Z21 f fd)(T:Txt K mg Z3 Z4 Z7 Z2 Z8 Z6 Z1 Z5 Z9 Z0):FnOk P w K mg base (CXF P w) 1 f fd ["self","name"] (sp_has K Z1):=by
 have sc:FnScope ["self","name"] ["self","name"] (defScope Z21):=by walk_at "sc"
 refine F.okF sc (fun vs H Q E h=>?_) (fun cdv A outer s H vs Q E hr h=>?_)
 · obtain ⟨_,_,_,rfl,_⟩:=h;rfl
 obtain ⟨p,ts,z,rfl,hs,q⟩:=h
 refine ⟨_,(@pss_one _ _ _ (@ps_ret _ _ _ _ (pe_cmp (pc_din (hu_of hr) (pv 1) (pe_fld (pv 0) rfl))))),?_⟩
 walk_at "st"
 obtain ⟨dx,d,kvs,h1,h2,h3,h4,h5⟩:=StockAt.has hs
 walk_at "go"
 refine ⟨Z1,dx,flds d,h1,T.Zm,T.Zd,_,flds_things,d,rfl,_,DGet.k (k:=Sum.inr z) h2,?_⟩
 rw [h4]
 exact q
theorem Z4o{f:Addr}{fd:FuncData}(F:Fun K "thing_of" "Stock.thing_of" Z0j f fd)(T:Txt K mg Z3 Z4 Z7 Z2 Z8 Z6 Z1 Z5 Z9 Z0):FnOk P w K mg base (CXF P w) 1 f fd ["self","name"] (sp32_thing K Z1):=by
 have sc:FnScope ["self","name"] ["self","name"] (defScope Z0j):=by walk_at "sc"
 refine F.okF sc (fun vs H Q E h=>?_) (fun cdv A outer s H vs Q E hr h=>?_)
 · obtain ⟨_,_,_,rfl,_⟩:=h;rfl
 obtain ⟨p,ts,z,rfl,hs,nd,hz,q⟩:=h
 refine ⟨_,(@pss_cons _ _ _ _ _ (ps_if (pt_cmp (pc_dnotin (hu_of hr) (pv 1) (pe_fld (pv 0) rfl)))
  (@pss_one _ _ _ ps_never)
  pss_nil)
  (@pss_one _ _ _ (@ps_ret _ _ _ _ (pe_dget (hu_of hr) (pe_fld (pv 0) rfl) (pv 1) (fun _ _=>rfl))))),?_⟩
 walk_at "st"
 obtain ⟨dx,d,kvs,h1,h2,h3,h4,h5⟩:=StockAt.has hs
 have line:=line_val
 walk_at "go"
 refine ⟨Z1,dx,flds d,h1,T.Zm,T.Zd,_,flds_things,d,rfl,_,DGet.k (k:=Sum.inr z) h2,?_⟩
 rw [h4,decide_eq_true hz]
 obtain ⟨i,t,ht,rfl⟩:=mem_nth hz
 obtain ⟨a,e1,e2⟩:=h5 nd i t ht
 walk_at "go"
 refine ⟨Z1,dx,flds d,h1,T.Zm,T.Zd,_,flds_things,?_⟩
 walk_at "go"
 refine ⟨V.ref a,by rw [← e1];exact DGet.k (k:=Sum.inr t.1) h2,?_⟩
 exact q i t ht rfl a e2
theorem Z4v{f:Addr}{fd:FuncData}(F:Fun K "room_of" "Stock.room_of" Z0p f fd)(T:Txt K mg Z3 Z4 Z7 Z2 Z8 Z6 Z1 Z5 Z9 Z0)(Zp:DefM P w K mg base (CXF P w) 1 Z1 "thing_of" ["self","name"] (sp32_thing K Z1)):FnOk P w K mg base (CXF P w) 2 f fd ["self","name"] (sp32_room K Z1):=by
 have sc:FnScope ["self","name"] ["self","name"] (defScope Z0p):=by walk_at "sc"
 refine F.okF sc (fun vs H Q E h=>?_) (fun cdv A outer s H vs Q E hr h=>?_)
 · obtain ⟨_,_,_,rfl,_⟩:=h;rfl
 obtain ⟨p,ts,z,rfl,hs,nd,hz,q⟩:=h
 refine ⟨_,(@pss_one _ _ _ (@ps_ret _ _ _ _ (@pe_ix _ _ _ _ _ _ _ ix_tup (pe_methS Zp T.Zm hr (passS pass_onF) (pv 0) (pa_cons (pv 1) pa_nil)) pe_int (fun _ _=>rfl)))),?_⟩
 walk_at "st"
 obtain ⟨dx,d,kvs,h1,h2,h3,h4,h5⟩:=StockAt.has hs
 walk_at "go"
 refine ⟨dx,flds d,h1,by rfl,?_⟩
 walk_at "go"
 refine ⟨ts,hs,nd,hz,fun i t ht e a ha=>?_⟩
 subst e
 refine ixT_of ha rfl ?_
 rw [rm_at nd ht]at q
 exact q
theorem Z5a{f:Addr}{fd:FuncData}(F:Fun K "check_places" "check_places" Z0s f fd)(T:Txt K mg Z3 Z4 Z7 Z2 Z8 Z6 Z1 Z5 Z9 Z0)(Z01:Def P w K mg base (CXF P w) 2 "is_within" ["thing","least","most"] (N53.sp53_within K)):FnOk P w K mg base (CXF P w) 3 f fd ["places"] (sp13_check K Z2):=by
 have sc:FnScope ["places"] ["places"] (defScope Z0s):=by walk_at "sc"
 refine F.okF sc (fun vs H Q E h=>?_) (fun cdv A outer s H vs Q E hr h=>?_)
 · obtain ⟨_,rfl,_⟩:=h;rfl
 obtain ⟨v,rfl,hv,q,qe⟩:=h
 refine ⟨_,(@pss_one _ _ _ (ps_if (pt_not (pt_val (pe_callD Z01 hr rfl pass_onF (pa_cons (pv 0) (pa_cons pe_int (pa_cons (pe_gint rfl T.Zz) pa_nil))))))
  (@pss_one _ _ _ (ps_raiseF T.Z7n rfl T.k_NoNumber rfl rfl T.Z52 raisesF (pa_cons (pe_fstr (pj_cons pe_str (pj_cons (pe_fmt (pe_gint rfl T.Zz)) pj_nil))) pa_nil)))
  pss_nil)),?_⟩
 walk_at "st"
 have line:=line_val
 walk_at "go"
 split
 · rename_i h
   have l1:(Str.ofString "the places of a shelf are not a whole number from 1 to ").length≤100:=by decide+kernel
   have l2:(Str.ofString (toString (1000000:Int))).length≤100:=by decide+kernel
   have l0:=len_empty
   refine ⟨by rw [len_app];omega,by decide,by rw [len_app,len_app];omega,by rw [len_app,len_app];omega,by omega,fun x hx=>⟨hx,qe h _ x (Same.new hx) hx upd_same⟩⟩
 · rename_i h
   exact q (by simpa using h)
theorem Z5v{f:Addr}{fd:FuncData}(F:Fun K "check_asks" "check_asks" Z1g f fd)(T:Txt K mg Z3 Z4 Z7 Z2 Z8 Z6 Z1 Z5 Z9 Z0)(Ze:Def P w K mg base (CXF P w) 3 "check_places" ["places"] (sp13_check K Z2))(Z28:DefM P w K mg base (CXF P w) 1 Z1 "has" ["self","name"] (sp_has K Z1))(Zb:DefM P w K mg base (CXF P w) 2 Z1 "room_of" ["self","name"] (sp32_room K Z1))(Z0t:DefX P w K mg base (CXF P w) 1 "Unknown" Z4 ["self","name","place"] (sp_unk Z4))(Z0u:DefX P w K mg base (CXF P w) 1 "TooWide" Z7 ["self","name","place"] (sp_unk Z7)):FnOk P w K mg base (CXF P w) 5 f fd ["stock","asks","places"] (sp13_asks K Z1 Z2 Z8 Z4 Z7):=by
 have sc:FnScope ["stock","asks","places","number","name"] ["stock","asks","places"] (defScope Z1g):=by walk_at "sc"
 refine F.okF sc (fun vs H Q E h=>?_) (fun cdv A outer s H vs Q E hr h=>?_)
 · obtain ⟨_,_,_,_,_,rfl,_⟩:=h;rfl
 obtain ⟨p,a,v,ts,ys,rfl,hs,nd,hS,hl,hv,q,qn,qm,qu,qw⟩:=h
 refine ⟨_,(@pss_cons _ _ _ _ _ (ps_expr (pe_callD Ze hr rfl pass_onF (pa_cons (pv 2) pa_nil)))
  (@pss_cons _ _ _ _ _ (ps_if (pt_cmpR op_gt (pe_callB call_len_seq rfl T.Zy PySem.boot_len (pa_cons (pv 1) pa_nil)) (pe_gint rfl T.Z06) (nomark _))
   (@pss_one _ _ _ (ps_raiseF T.Z9j rfl T.k_TooMany rfl rfl T.Z9i raisesF (pa_cons (pe_fstr (pj_cons pe_str (pj_cons (pe_fmt (pe_gint rfl T.Z06)) (pj_cons pe_str pj_nil)))) pa_nil)))
   pss_nil)
  (@pss_cons _ _ _ _ _ (ps_for own_outF rfl (pi_enum rfl T.Z05 (pa_cons (pv 1) pa_nil)) (pg_tup rfl (pgs_cons (pg_name (i:=3) sc.nd rfl (Or.inl rfl)) (pgs_cons (pg_name (i:=4) sc.nd rfl (Or.inl rfl)) pgs_nil)))
   (@pss_cons _ _ _ _ _ (ps_if (pt_not (pt_val (pe_methS Z28 T.Zm hr (passS pass_onF) (pv 0) (pa_cons (pv 4) pa_nil))))
    (@pss_one _ _ _ (ps_raiseI Z0t rfl hr rfl rfl (passS pass_onF) raisesF (pa_cons (pv 4) (pa_cons (pv 3) pa_nil))))
    pss_nil)
   (@pss_one _ _ _ (ps_if (pt_cmpR op_gt (pe_methS Zb T.Zm hr (passS pass_onF) (pv 0) (pa_cons (pv 4) pa_nil)) (pv 2) (nomark _))
    (@pss_one _ _ _ (ps_raiseI Z0u rfl hr rfl rfl (passS pass_onF) raisesF (pa_cons (pv 4) (pa_cons (pv 3) pa_nil))))
    pss_nil))))
  (@pss_one _ _ _ (@ps_ret _ _ _ _ pe_bl))))),?_⟩
 walk_at "st"
 have line:=line_val
 obtain ⟨dx,d,kvs,h1,h2,h3,h4,h5⟩:=StockAt.has hs
 walk_at "go"
 refine ⟨fun hw=>?_,fun hw H' y sm hy er=>qn (by unfold askD;rw [if_neg (by rw [hw];decide)]) H' y sm hy er⟩
 obtain ⟨n,rfl,hn1,hn2⟩:=N53.wIn_one hw
 walk_at "go"
 rw [List.length_map]
 split
 · rename_i hm
   have e:askD ts (.int n) ys=(Str.ofString "many",none):=by unfold askD;rw [if_pos hw,if_pos (by omega)]
   have l1:(Str.ofString "a row has at most ").length≤100:=by decide+kernel
   have l3:(Str.ofString " asks").length≤100:=by decide+kernel
   have l2:(Str.ofString (toString (200:Int))).length≤100:=by decide+kernel
   have l0:=len_empty
   refine ⟨by rw [len_app];omega,by decide,by rw [len_app,len_app];omega,by rw [len_app,len_app,len_app];omega,by rw [len_app,len_app,len_app];omega,by omega,fun x hx=>⟨hx,qm e _ x (Same.new hx) hx upd_same⟩⟩
 · rename_i hm
   have e0:∀r,(match bad ts n ys 0 with | some (true,z,i)=>(Str.ofString "unknown",some (z,i)) | some (false,z,i)=>(Str.ofString "wide",some (z,i)) | none=>(Str.ofString "fine",none))=r→askD ts (.int n) ys=r:=fun r h=>by unfold askD;rw [if_pos hw,if_neg (by omega)];exact h
   walk_at "go"
   refine ⟨⟨_,hS⟩,?_⟩
   rename_i rest hrest
   refine forE_by (xs:=ys.map V.str) (fun i σ H'=>∃(v3 v4:Option V),σ=[some (V.ref p),some (V.ref a),some (V.int n),v3,v4]∧Same H H'∧bad ts n ys 0=bad ts n (ys.drop i) i) ⟨none,none,rfl,Same.refl _,by rw [List.drop_zero]⟩ (fun i σ H' _ h_=>by obtain ⟨v3,v4,_,sm,_⟩:=h_;exact sm.seq hS) ?_ ?_
   · rintro i x σ H' t hx ⟨v3,v4,rfl,sm,hbd⟩ ht
     rw [List.getElem?_map]at hx
     cases hy:ys[i]? with
     | none=>rw [hy]at hx;cases hx
     | some y=>
      rw [hy]at hx
      cases hx
      rw [bad_step hy]at hbd
      walk_at "go"
      refine ⟨_,SqT.of upd_same,rfl,_,_,rfl,_,_,rfl,rfl,?_⟩
      have sm2:=sm.trans (Same.new (o:= .tup [.int i,.str y]) ht)
      generalize upd H' t (.tup [.int i,.str y])=H2 at sm2 ⊢
      clear sm ht
      have hs2:=hs.same sm2
      have hp2:=sm2 _ _ h1
      have noneH:∀b,H2 b=none→H b=none:=fun b e=>by
       cases q:H b with
       | none=>rfl
       | some o=>rw [sm2 _ _ q]at e;cases e
      walk_at "go"
      refine ⟨dx,flds d,hp2,by rfl,ts,hs2,?_⟩
      by_cases hin:y∈ts.map (·.1)
      · rw [if_neg (by simpa using hin)]
        rw [if_pos hin]at hbd
        walk_at "go"
        refine ⟨dx,flds d,hp2,by rfl,ts,hs2,nd,hin,?_⟩
        rw [← rm_rmOf]at hbd
        split
        · rename_i hwd
          rw [if_pos hwd]at hbd
          walk_at "go"
          intro x hx
          refine ⟨true,upd_same,fun dx' hd'=>?_⟩
          have n1:x≠dx':=fun e=>by rw [e,upd_same]at hd';cases hd'
          have hd2:H2 dx'=none:=by rw [upd_ne n1.symm]at hd';exact hd'
          walk_at "go"
          refine ⟨some dx',by rw [upd_ne n1,upd_same],noneH x hx,?_⟩
          refine qw y i (e0 _ (by rw [hbd])) _ x (fun b o e=>?_) (noneH x hx) ⟨dx',upd_same,by rw [upd_ne n1.symm,upd_same]⟩
          have e:=sm2 _ _ e
          rw [upd_ne (ne_of_none e hx),upd_ne (ne_of_none e hd2),upd_ne (ne_of_none e hx)]
          exact e
        · rename_i hwd
          rw [if_neg hwd]at hbd
          walk_at "go"
          exact hbd
      · rw [if_pos (by simpa using hin)]
        rw [if_neg hin]at hbd
        walk_at "go"
        intro x hx
        refine ⟨true,upd_same,fun dx' hd'=>?_⟩
        have n1:x≠dx':=fun e=>by rw [e,upd_same]at hd';cases hd'
        have hd2:H2 dx'=none:=by rw [upd_ne n1.symm]at hd';exact hd'
        walk_at "go"
        refine ⟨some dx',by rw [upd_ne n1,upd_same],noneH x hx,?_⟩
        refine qu y i (e0 _ (by rw [hbd])) _ x (fun b o e=>?_) (noneH x hx) ⟨dx',upd_same,by rw [upd_ne n1.symm,upd_same]⟩
        have e:=sm2 _ _ e
        rw [upd_ne (ne_of_none e hx),upd_ne (ne_of_none e hd2),upd_ne (ne_of_none e hx)]
        exact e
   · rintro σ H' ⟨v3,v4,rfl,sm,hbd⟩
     rw [List.length_map,List.drop_length]at hbd
     walk_at "go"
     exact q (e0 _ (by rw [hbd];rfl)) _ sm
theorem Z5w{f:Addr}{fd:FuncData}(F:Fun K "__init__" "Shelf.__init__" Z1h f fd)(T:Txt K mg Z3 Z4 Z7 Z2 Z8 Z6 Z1 Z5 Z9 Z0)(Ze:Def P w K mg base (CXF P w) 3 "check_places" ["places"] (sp13_check K Z2)):FnOk P w K mg base (CXF P w) 4 f fd ["self","stock","places"] (sp_sinit Z5):=by
 have sc:FnScope ["self","stock","places"] ["self","stock","places"] (defScope Z1h):=by walk_at "sc"
 refine F.okF sc (fun vs H Q E h=>?_) (fun cdv A outer s H vs Q E hr h=>?_)
 · obtain ⟨_,_,_,_,rfl,_⟩:=h;rfl
 obtain ⟨s,dx,p,n,rfl,hs,h1,h2,q⟩:=h
 replace Ze:=Def.wk Ze fun _ _ _ _=>im_places
 refine ⟨_,(@pss_cons _ _ _ _ _ (ps_expr (pe_callD Ze hr rfl pass_onF (pa_cons (pv 2) pa_nil)))
  (@pss_cons _ _ _ _ _ (ps_fld (pv 0) (pv 1) rfl)
  (@pss_cons _ _ _ _ _ (ps_fld (pv 0) (pv 2) rfl)
  (@pss_one _ _ _ (ps_fld (pv 0) pe_dnewK rfl))))),?_⟩
 walk_at "st"
 walk_at "go"
 refine ⟨Z5,dx,[],hs,T.Zg,T.Zs,by decide,?_⟩
 walk_at "go"
 refine ⟨Z5,dx,_,upd_same,T.Zg,T.Zu,by simp [putF],?_⟩
 walk_at "go"
 intro d hd
 have nd:d≠s:=fun e=>by rw [e,upd_same]at hd;cases hd
 have hd0:H d=none:=by rw [upd_ne nd]at hd;exact hd
 refine ⟨Z5,dx,_,by rw [upd_ne nd.symm,upd_same],T.Zg,T.Zi,by have:=length_putF "places" (V.int n) (putF "stock" (V.ref p) []);have:=length_putF "stock" (V.ref p) [];simp at *;omega,?_⟩
 refine q _ d (fun b o e nb=>?_) hd0 ⟨⟨dx,upd_same⟩,by rw [upd_ne nd,upd_same];rfl,List.nodup_nil⟩
 rw [upd_ne nb,upd_ne (ne_of_none e hd0),upd_ne nb]
 exact e
theorem Z5h{f:Addr}{fd:FuncData}(F:Fun K "lying" "Shelf.lying" Z0y f fd)(T:Txt K mg Z3 Z4 Z7 Z2 Z8 Z6 Z1 Z5 Z9 Z0):FnOk P w K mg base (CXF P w) 1 f fd ["self"] (sp_lying Z5):=by
 have sc:FnScope ["self"] ["self"] (defScope Z0y):=by walk_at "sc"
 refine F.okF sc (fun vs H Q E h=>?_) (fun cdv A outer s H vs Q E hr h=>?_)
 · obtain ⟨_,_,_,_,_,rfl,_⟩:=h;rfl
 obtain ⟨s,p,d,n,ls,rfl,hs,q⟩:=h
 refine ⟨_,(@pss_one _ _ _ (@ps_ret _ _ _ _ (pe_callTy (call_listD rfl) rfl T.Z0h (by first | rfl | decide+kernel) (pa_cons (pe_fld (pv 0) rfl) pa_nil)))),?_⟩
 walk_at "st"
 obtain ⟨⟨dx,ho⟩,hd,_⟩:=hs
 walk_at "go"
 refine ⟨Z5,dx,_,ho,T.Zg,T.Zi,_,sfl_rooms,?_⟩
 walk_at "go"
 refine ⟨_,hd,fun l hl=>?_⟩
 rw [lyK_names]
 exact q l hl
theorem Z5i{f:Addr}{fd:FuncData}(F:Fun K "holds" "Shelf.holds" Z0z f fd)(T:Txt K mg Z3 Z4 Z7 Z2 Z8 Z6 Z1 Z5 Z9 Z0):FnOk P w K mg base (CXF P w) 1 f fd ["self","name"] (sp_holds Z5):=by
 have sc:FnScope ["self","name"] ["self","name"] (defScope Z0z):=by walk_at "sc"
 refine F.okF sc (fun vs H Q E h=>?_) (fun cdv A outer s H vs Q E hr h=>?_)
 · obtain ⟨_,_,_,_,_,_,rfl,_⟩:=h;rfl
 obtain ⟨s,p,d,n,ls,z,rfl,hs,q⟩:=h
 refine ⟨_,(@pss_one _ _ _ (@ps_ret _ _ _ _ (pe_cmp (pc_din (hu_of hr) (pv 1) (pe_fld (pv 0) rfl))))),?_⟩
 walk_at "st"
 obtain ⟨⟨dx,ho⟩,hd,_⟩:=hs
 walk_at "go"
 refine ⟨Z5,dx,_,ho,T.Zg,T.Zi,_,sfl_rooms,d,rfl,_,DGet.k (k:=Sum.inr z) hd,?_⟩
 rw [lyK_mem]
 exact q
theorem Z4d{f:Addr}{fd:FuncData}(F:Fun K "room_left" "Shelf.room_left" Z0f f fd)(T:Txt K mg Z3 Z4 Z7 Z2 Z8 Z6 Z1 Z5 Z9 Z0):FnOk P w K mg base (CXF P w) 1 f fd ["self"] (sp_left Z5):=by
 have sc:FnScope ["self"] ["self"] (defScope Z0f):=by walk_at "sc"
 refine F.okF sc (fun vs H Q E h=>?_) (fun cdv A outer s H vs Q E hr h=>?_)
 · obtain ⟨_,_,_,_,_,rfl,_⟩:=h;rfl
 obtain ⟨s,p,d,n,ls,rfl,hs,q⟩:=h
 refine ⟨_,(@pss_one _ _ _ (@ps_ret _ _ _ _ (pe_op op_sub (pe_fld (pv 0) rfl) (pe_callB (call_sumV rfl) rfl T.Z2y (by first | rfl | decide+kernel) (pa_cons (pe_bm0 PySem.F.plainAttrs_dict PySem.F.slot_dict_values PySem.F.type_dict_values mt_values (pe_fld (pv 0) rfl)) pa_nil))))),?_⟩
 walk_at "st"
 obtain ⟨⟨dx,ho⟩,hd,_⟩:=hs
 walk_at "go"
 refine ⟨Z5,dx,_,ho,T.Zg,T.Zu,_,sfl_places,Z5,dx,_,ho,T.Zg,T.Zi,_,sfl_rooms,?_⟩
 refine ⟨.inr (.inr (.inl ⟨rfl,.inl ⟨_,hd⟩⟩)),d,rfl,_,hd,fun v hv=>⟨d,upd_same,_,(Same.new hv) _ _ hd,_,lyK_vals,n,rfl,q _ (Same.new hv)⟩⟩
theorem Z67{f:Addr}{fd:FuncData}(F:Fun K "put" "Shelf.put" Z22 f fd)(T:Txt K mg Z3 Z4 Z7 Z2 Z8 Z6 Z1 Z5 Z9 Z0)(Zb:DefM P w K mg base (CXF P w) 2 Z1 "room_of" ["self","name"] (sp32_room K Z1))(Zl:DefM P w K mg base (CXF P w) 1 Z5 "holds" ["self","name"] (sp_holds Z5))(Zn:DefM P w K mg base (CXF P w) 1 Z5 "room_left" ["self"] (sp_left Z5)):FnOk P w K mg base (CXF P w) 4 f fd ["self","name"] (sp_putG K Z1 Z5):=by
 have sc:FnScope ["self","name","room"] ["self","name"] (defScope Z22):=by walk_at "sc"
 refine F.okF sc (fun vs H Q E h=>?_) (fun cdv A outer s H vs Q E hr h=>?_)
 · obtain ⟨_,_,_,_,_,_,_,_,rfl,_⟩:=h;rfl
 obtain ⟨s,p,d,n,ls,ts,z,r,rfl,hs,hx,nd,hl,hz,hr',hin,hle,q⟩:=h
 refine ⟨_,(@pss_cons _ _ _ _ _ (ps_set (i:=2) sc.nd rfl (Or.inl rfl) (pe_methS Zb T.Zm hr (passS pass_onF) (pe_fld (pv 0) rfl) (pa_cons (pv 1) pa_nil)))
  (@pss_cons _ _ _ _ _ (ps_if (pt_val (pe_methS Zl T.Zg hr (passS pass_onF) (pv 0) (pa_cons (pv 1) pa_nil)))
   (@pss_one _ _ _ ps_never)
   pss_nil)
  (@pss_cons _ _ _ _ _ (ps_if (pt_cmpR op_gt (pv 2) (pe_methS0 Zn T.Zg hr (passS pass_onF) (pv 0)) (nomark _))
   (@pss_one _ _ _ ps_never)
   pss_nil)
  (@pss_one _ _ _ (ps_dput (hu_of hr) (pe_fld (pv 0) rfl) (pv 1) (pv 2) rfl))))),?_⟩
 walk_at "st"
 have line:=line_val
 have hsA:=hs
 obtain ⟨⟨dx,ho⟩,hd,hnd⟩:=hs
 obtain ⟨dy,e,kvs,h1,h2,h3,h4,h5⟩:=StockAt.has hx.at
 walk_at "go"
 refine ⟨Z5,dx,_,ho,T.Zg,T.Zs,_,sfl_stock,?_⟩
 walk_at "go"
 refine ⟨dy,flds e,h1,by rfl,ts,hx.at,nd,hz,?_⟩
 rw [rm_of nd hz hr']
 walk_at "go"
 refine ⟨dx,_,ho,by rfl,?_⟩
 walk_at "go"
 refine ⟨_,_,_,_,hsA,?_⟩
 rw [if_neg (by simpa using hin)]
 walk_at "go"
 refine ⟨dx,_,ho,by rfl,_,_,_,_,hsA,fun H1 sm1=>?_⟩
 rw [if_neg (by omega)]
 walk_at "go"
 refine ⟨Z5,dx,_,sm1 _ _ ho,T.Zg,T.Zi,_,sfl_rooms,?_⟩
 have hll:(lyK ls).length < sizeLine:=by unfold lyK;rw [List.length_map];omega
 refine ⟨d,rfl,_,DPut.k (k:=Sum.inr z) (sm1 _ _ hd) hll,?_⟩
 refine q _ (fun b o e n=>?_) (hsA.put sm1 hin)
 rw [upd_ne n];exact sm1 _ _ e
theorem Z5x{f:Addr}{fd:FuncData}(F:Fun K "cast" "Shelf.cast" Z1i f fd)(T:Txt K mg Z3 Z4 Z7 Z2 Z8 Z6 Z1 Z5 Z9 Z0)(Zl:DefM P w K mg base (CXF P w) 1 Z5 "holds" ["self","name"] (sp_holds Z5)):FnOk P w K mg base (CXF P w) 2 f fd ["self","name"] (sp_castG Z5):=by
 have sc:FnScope ["self","name"] ["self","name"] (defScope Z1i):=by walk_at "sc"
 refine F.okF sc (fun vs H Q E h=>?_) (fun cdv A outer s H vs Q E hr h=>?_)
 · obtain ⟨_,_,_,_,_,_,rfl,_⟩:=h;rfl
 obtain ⟨s,p,d,n,ls,z,rfl,hs,hin,q⟩:=h
 refine ⟨_,(@pss_cons _ _ _ _ _ (ps_if (pt_not (pt_val (pe_methS Zl T.Zg hr (passS pass_onF) (pv 0) (pa_cons (pv 1) pa_nil))))
  (@pss_one _ _ _ ps_never)
  pss_nil)
  (@pss_one _ _ _ (ps_expr (pe_dpop1 (pe_fld (pv 0) rfl) (pv 1) ⟨rfl,rfl,rfl,rfl⟩)))),?_⟩
 walk_at "st"
 have line:=line_val
 have hsA:=hs
 obtain ⟨⟨dx,ho⟩,hd,hnd⟩:=hs
 walk_at "go"
 refine ⟨dx,_,ho,by rfl,_,_,_,_,hsA,?_⟩
 rw [if_neg (fun h=>h hin)]
 walk_at "go"
 have hv:=lyK_mem (ls:=ls) (z:=z)
 rw [decide_eq_true hin]at hv
 obtain ⟨v,hv⟩:=Option.isSome_iff_exists.mp hv
 refine ⟨Z5,dx,_,ho,T.Zg,T.Zi,_,sfl_rooms,d,rfl,.inl ⟨_,.inl hd⟩,_,hd,Sum.inr z,rfl,v,hv,?_⟩
 exact q _ (fun b o e n=>by rw [upd_ne n];exact e) hsA.cast
theorem Z4w{f:Addr}{fd:FuncData}(F:Fun K "cost_of" "Stock.cost_of" Z0q f fd)(T:Txt K mg Z3 Z4 Z7 Z2 Z8 Z6 Z1 Z5 Z9 Z0)(Zp:DefM P w K mg base (CXF P w) 1 Z1 "thing_of" ["self","name"] (sp32_thing K Z1)):FnOk P w K mg base (CXF P w) 2 f fd ["self","name"] (sp41_cost K Z1):=by
 have sc:FnScope ["self","name"] ["self","name"] (defScope Z0q):=by walk_at "sc"
 refine F.okF sc (fun vs H Q E h=>?_) (fun cdv A outer s H vs Q E hr h=>?_)
 · obtain ⟨_,_,_,rfl,_⟩:=h;rfl
 obtain ⟨p,ts,z,rfl,hs,nd,hz,q⟩:=h
 refine ⟨_,(@pss_one _ _ _ (@ps_ret _ _ _ _ (@pe_ix _ _ _ _ _ _ _ ix_tup (pe_methS Zp T.Zm hr (passS pass_onF) (pv 0) (pa_cons (pv 1) pa_nil)) pe_int (fun _ _=>rfl)))),?_⟩
 walk_at "st"
 obtain ⟨dx,d,kvs,h1,h2,h3,h4,h5⟩:=StockAt.has hs
 walk_at "go"
 refine ⟨dx,flds d,h1,by rfl,?_⟩
 walk_at "go"
 refine ⟨ts,hs,nd,hz,fun i t ht e a ha=>?_⟩
 subst e
 refine ixT_of ha rfl ?_
 rw [cst_at nd ht]at q
 exact q
theorem Z5y{f:Addr}{fd:FuncData}(F:Fun K "divisor_of" "divisor_of" Z1j f fd)(T:Txt K mg Z3 Z4 Z7 Z2 Z8 Z6 Z1 Z5 Z9 Z0):FnOk P w K mg base (CXF P w) 1 f fd ["one","other"] (sp41_div):=by
 have sc:FnScope ["one","other","greater","lesser","rest"] ["one","other"] (defScope Z1j):=by walk_at "sc"
 refine F.okF sc (fun vs H Q E h=>?_) (fun cdv A outer s H vs Q E hr h=>?_)
 · obtain ⟨_,_,rfl,_⟩:=h;rfl
 obtain ⟨i,j,rfl,q⟩:=h
 refine ⟨_,(@pss_cons _ _ _ _ _ (ps_set (i:=2) sc.nd rfl (Or.inl rfl) (pe_callB call_abs rfl T.Z2z (by first | rfl | decide+kernel) (pa_cons (pv 0) pa_nil)))
  (@pss_cons _ _ _ _ _ (ps_set (i:=3) sc.nd rfl (Or.inl rfl) (pe_callB call_abs rfl T.Z2z (by first | rfl | decide+kernel) (pa_cons (pv 1) pa_nil)))
  (@pss_cons _ _ _ _ _ (ps_while own_outF (pt_cmpR op_ne (pv 3) pe_int (nomark _))
   (@pss_cons _ _ _ _ _ (ps_set (i:=4) sc.nd rfl (Or.inl rfl) (pe_op op_mod (pv 2) (pv 3)))
   (@pss_cons _ _ _ _ _ (ps_set (i:=2) sc.nd rfl (Or.inl rfl) (pv 3))
   (@pss_one _ _ _ (ps_set (i:=3) sc.nd rfl (Or.inl rfl) (pv 4))))))
  (@pss_one _ _ _ (@ps_ret _ _ _ _ (pv 2)))))),?_⟩
 walk_at "st"
 walk_at "go"
 refine while_d (m0:=(if j < 0 then -j else j).toNat) (fun m σ H'=>∃(x y:Int) (r:Option V),σ=[some (V.int i),some (V.int j),some (V.int x),some (V.int y),r]∧H'=H∧0≤x∧0≤y∧m=y.toNat∧Int.gcd x y=Int.gcd i j) ⟨_,_,_,rfl,rfl,by split <;> omega,by split <;> omega,rfl,gcd_abs i j⟩ ?_
 rintro m σ H' ⟨x,y,r,rfl,rfl,hx,hy,rfl,hg⟩
 walk_at "go"
 split
 · rename_i hy0
   refine ⟨fun σ' H''=>∃m',m' < y.toNat∧∃(x y:Int) (r:Option V),σ'=[some (V.int i),some (V.int j),some (V.int x),some (V.int y),r]∧H''=H'∧0≤x∧0≤y∧m'=y.toNat∧Int.gcd x y=Int.gcd i j,fun _ _ h=>h,?_⟩
   have hp:0 < y:=by omega
   walk_at "go"
   have h1:=Int.emod_nonneg x (show y≠0 by omega)
   have h2:=Int.emod_lt_of_pos x hp
   exact ⟨(x % y).toNat,by omega,by omega,h1,rfl,gcd_step hx hp hg⟩
 · rename_i hy0
   have hy0:y=0:=by omega
   subst hy0
   walk_at "go"
   have hh:=gcd_zero_right' hx
   rw [hg]at hh
   rw [← hh];exact q
theorem Z6h{f:Addr}{fd:FuncData}(F:Fun K "ratio_of" "ratio_of" Z31 f fd)(T:Txt K mg Z3 Z4 Z7 Z2 Z8 Z6 Z1 Z5 Z9 Z0)(Z1o:Def P w K mg base (CXF P w) 1 "divisor_of" ["one","other"] (sp41_div)):FnOk P w K mg base (CXF P w) 2 f fd ["top","bottom"] (sp57_ratio):=by
 have sc:FnScope ["top","bottom","divisor"] ["top","bottom"] (defScope Z31):=by walk_at "sc"
 refine F.okF sc (fun vs H Q E h=>?_) (fun cdv A outer s H vs Q E hr h=>?_)
 · obtain ⟨_,_,rfl,_⟩:=h;rfl
 obtain ⟨i,j,rfl,hj,hb,q⟩:=h
 refine ⟨_,(@pss_cons _ _ _ _ _ (ps_if (pt_cmpR op_eq (pv 1) pe_int (nomark _))
  (@pss_one _ _ _ ps_never)
  pss_nil)
  (@pss_cons _ _ _ _ _ (ps_set (i:=2) sc.nd rfl (Or.inl rfl) (pe_callD Z1o hr rfl pass_onF (pa_cons (pv 0) (pa_cons (pv 1) pa_nil))))
  (@pss_cons _ _ _ _ _ (ps_if (pt_cmpR op_lt (pv 1) pe_int (nomark _))
   (@pss_one _ _ _ (ps_set (i:=2) sc.nd rfl (Or.inl rfl) (pe_op op_sub pe_int (pv 2))))
   pss_nil)
  (@pss_one _ _ _ (@ps_ret _ _ _ _ (pe_tup (pa_cons (pe_op op_fdivH (pv 0) (pv 2)) (pa_cons (pe_op op_fdivH (pv 1) (pv 2)) pa_nil)))))))),?_⟩
 walk_at "st"
 have line:=line_val
 have hg:0 < Int.gcd i j:=Nat.pos_of_ne_zero fun z=>by have:=(Int.gcd_eq_zero_iff.mp z).2;omega
 have hgb:Int.gcd i j≤j.natAbs:=Nat.le_of_dvd (by omega) (Nat.gcd_dvd_right _ _)
 walk_at "go"
 rw [if_neg (by omega)]
 walk_at "go"
 rw [if_neg (by omega)]
 rename_i rest hrest
 subst hrest
 walk_at "go"
 exact fun p hp=>q p hp
theorem Z5z{f:Addr}{fd:FuncData}(F:Fun K "plus_ratio" "plus_ratio" Z1k f fd)(T:Txt K mg Z3 Z4 Z7 Z2 Z8 Z6 Z1 Z5 Z9 Z0)(Zt:Def P w K mg base (CXF P w) 2 "ratio_of" ["top","bottom"] (sp57_ratio)):FnOk P w K mg base (CXF P w) 3 f fd ["one","other"] (sp57_plus):=by
 have sc:FnScope ["one","other"] ["one","other"] (defScope Z1k):=by walk_at "sc"
 refine F.okF sc (fun vs H Q E h=>?_) (fun cdv A outer s H vs Q E hr h=>?_)
 · obtain ⟨_,_,_,_,_,rfl,_⟩:=h;rfl
 obtain ⟨a,b,U,x,y,rfl,ha,hb,hU,hU2,⟨hx,hy⟩,q⟩:=h
 refine ⟨_,(@pss_one _ _ _ (@ps_ret _ _ _ _ (pe_callD Zt hr rfl pass_onF (pa_cons (pe_op op_add (pe_op op_mulH (@pe_ix _ _ _ _ _ _ _ ix_tup (pv 0) pe_int (fun _ _=>rfl)) (@pe_ix _ _ _ _ _ _ _ ix_tup (pv 1) pe_int (fun _ _=>rfl))) (pe_op op_mulH (@pe_ix _ _ _ _ _ _ _ ix_tup (pv 1) pe_int (fun _ _=>rfl)) (@pe_ix _ _ _ _ _ _ _ ix_tup (pv 0) pe_int (fun _ _=>rfl)))) (pa_cons (pe_op op_mulH (@pe_ix _ _ _ _ _ _ _ ix_tup (pv 0) pe_int (fun _ _=>rfl)) (@pe_ix _ _ _ _ _ _ _ ix_tup (pv 1) pe_int (fun _ _=>rfl))) pa_nil))))),?_⟩
 walk_at "st"
 have line:=line_val
 obtain ⟨a1,a2,a3,a4,a5⟩:=rt_all (v:=x) hU
 obtain ⟨b1,b2,b3,b4,b5⟩:=rt_all (v:=y) hU
 have B:(10:Nat) ^ 240 < 10 ^ 1000:=by decide+kernel
 have B2:(10:Nat) ^ 180 < 10 ^ 1000:=by decide+kernel
 have hUn:U.natAbs≤10 ^ 180:=by omega
 have c1:(rt U x).1.natAbs < 10 ^ 1000:=Nat.lt_of_le_of_lt (Nat.le_trans a4 hx) B
 have c2:(rt U x).2.natAbs < 10 ^ 1000:=Nat.lt_of_le_of_lt (Nat.le_trans a5 hUn) B2
 have d1:(rt U y).1.natAbs < 10 ^ 1000:=Nat.lt_of_le_of_lt (Nat.le_trans b4 hy) B
 have d2:(rt U y).2.natAbs < 10 ^ 1000:=Nat.lt_of_le_of_lt (Nat.le_trans b5 hUn) B2
 unfold RtA at ha hb
 clear B B2
 walk_at "go"
 have hbd:(rt U x).2 * (rt U y).2 < 10 ^ 1000:=by
  have h1:(rt U x).2≤10 ^ 180:=by omega
  have h2:(rt U y).2≤10 ^ 180:=by omega
  calc (rt U x).2 * (rt U y).2≤10 ^ 180 * 10 ^ 180:=Int.mul_le_mul h1 h2 (by omega) (by decide+kernel)
   _ < 10 ^ 1000:=by decide+kernel
 refine ixT_of (SqT.of ha) (v:=V.int (rt U x).1) rfl (ixT_of (SqT.of hb) (v:=V.int (rt U y).2) rfl ⟨_,rfl,_,rfl,⟨c1,d2⟩,ixT_of (SqT.of hb) (v:=V.int (rt U y).1) rfl (ixT_of (SqT.of ha) (v:=V.int (rt U x).2) rfl ⟨_,rfl,_,rfl,⟨d1,c2⟩,ixT_of (SqT.of ha) (v:=V.int (rt U x).2) rfl (ixT_of (SqT.of hb) (v:=V.int (rt U y).2) rfl ⟨_,rfl,_,rfl,⟨c2,d2⟩,Int.mul_pos a2 b2,hbd,?_⟩)⟩)⟩)
 rw [rt_plus hU]
 exact q
theorem Z5j{f:Addr}{fd:FuncData}(F:Fun K "minus_ratio" "minus_ratio" Z10 f fd)(T:Txt K mg Z3 Z4 Z7 Z2 Z8 Z6 Z1 Z5 Z9 Z0)(Zt:Def P w K mg base (CXF P w) 2 "ratio_of" ["top","bottom"] (sp57_ratio)):FnOk P w K mg base (CXF P w) 3 f fd ["one","other"] (sp57_minus):=by
 have sc:FnScope ["one","other"] ["one","other"] (defScope Z10):=by walk_at "sc"
 refine F.okF sc (fun vs H Q E h=>?_) (fun cdv A outer s H vs Q E hr h=>?_)
 · obtain ⟨_,_,_,_,_,rfl,_⟩:=h;rfl
 obtain ⟨a,b,U,x,y,rfl,ha,hb,hU,hU2,⟨hx,hy⟩,q⟩:=h
 refine ⟨_,(@pss_one _ _ _ (@ps_ret _ _ _ _ (pe_callD Zt hr rfl pass_onF (pa_cons (pe_op op_sub (pe_op op_mulH (@pe_ix _ _ _ _ _ _ _ ix_tup (pv 0) pe_int (fun _ _=>rfl)) (@pe_ix _ _ _ _ _ _ _ ix_tup (pv 1) pe_int (fun _ _=>rfl))) (pe_op op_mulH (@pe_ix _ _ _ _ _ _ _ ix_tup (pv 1) pe_int (fun _ _=>rfl)) (@pe_ix _ _ _ _ _ _ _ ix_tup (pv 0) pe_int (fun _ _=>rfl)))) (pa_cons (pe_op op_mulH (@pe_ix _ _ _ _ _ _ _ ix_tup (pv 0) pe_int (fun _ _=>rfl)) (@pe_ix _ _ _ _ _ _ _ ix_tup (pv 1) pe_int (fun _ _=>rfl))) pa_nil))))),?_⟩
 walk_at "st"
 have line:=line_val
 obtain ⟨a1,a2,a3,a4,a5⟩:=rt_all (v:=x) hU
 obtain ⟨b1,b2,b3,b4,b5⟩:=rt_all (v:=y) hU
 have B:(10:Nat) ^ 240 < 10 ^ 1000:=by decide+kernel
 have B2:(10:Nat) ^ 180 < 10 ^ 1000:=by decide+kernel
 have hUn:U.natAbs≤10 ^ 180:=by omega
 have c1:(rt U x).1.natAbs < 10 ^ 1000:=Nat.lt_of_le_of_lt (Nat.le_trans a4 hx) B
 have c2:(rt U x).2.natAbs < 10 ^ 1000:=Nat.lt_of_le_of_lt (Nat.le_trans a5 hUn) B2
 have d1:(rt U y).1.natAbs < 10 ^ 1000:=Nat.lt_of_le_of_lt (Nat.le_trans b4 hy) B
 have d2:(rt U y).2.natAbs < 10 ^ 1000:=Nat.lt_of_le_of_lt (Nat.le_trans b5 hUn) B2
 unfold RtA at ha hb
 clear B B2
 walk_at "go"
 have hbd:(rt U x).2 * (rt U y).2 < 10 ^ 1000:=by
  have h1:(rt U x).2≤10 ^ 180:=by omega
  have h2:(rt U y).2≤10 ^ 180:=by omega
  calc (rt U x).2 * (rt U y).2≤10 ^ 180 * 10 ^ 180:=Int.mul_le_mul h1 h2 (by omega) (by decide+kernel)
   _ < 10 ^ 1000:=by decide+kernel
 refine ixT_of (SqT.of ha) (v:=V.int (rt U x).1) rfl (ixT_of (SqT.of hb) (v:=V.int (rt U y).2) rfl ⟨_,rfl,_,rfl,⟨c1,d2⟩,ixT_of (SqT.of hb) (v:=V.int (rt U y).1) rfl (ixT_of (SqT.of ha) (v:=V.int (rt U x).2) rfl ⟨_,rfl,_,rfl,⟨d1,c2⟩,ixT_of (SqT.of ha) (v:=V.int (rt U x).2) rfl (ixT_of (SqT.of hb) (v:=V.int (rt U y).2) rfl ⟨_,rfl,_,rfl,⟨c2,d2⟩,Int.mul_pos a2 b2,hbd,?_⟩)⟩)⟩)
 rw [rt_minus hU]
 exact q
theorem Z5k{f:Addr}{fd:FuncData}(F:Fun K "under_ratio" "under_ratio" Z11 f fd)(T:Txt K mg Z3 Z4 Z7 Z2 Z8 Z6 Z1 Z5 Z9 Z0):FnOk P w K mg base (CXF P w) 3 f fd ["one","other"] (sp57_under):=by
 have sc:FnScope ["one","other"] ["one","other"] (defScope Z11):=by walk_at "sc"
 refine F.okF sc (fun vs H Q E h=>?_) (fun cdv A outer s H vs Q E hr h=>?_)
 · obtain ⟨_,_,_,_,_,rfl,_⟩:=h;rfl
 obtain ⟨a,b,U,x,y,rfl,ha,hb,hU,hU2,⟨hx,hy⟩,q⟩:=h
 refine ⟨_,(@pss_one _ _ _ (@ps_ret _ _ _ _ (pe_cmpR op_lt (pe_op op_mulH (@pe_ix _ _ _ _ _ _ _ ix_tup (pv 0) pe_int (fun _ _=>rfl)) (@pe_ix _ _ _ _ _ _ _ ix_tup (pv 1) pe_int (fun _ _=>rfl))) (pe_op op_mulH (@pe_ix _ _ _ _ _ _ _ ix_tup (pv 1) pe_int (fun _ _=>rfl)) (@pe_ix _ _ _ _ _ _ _ ix_tup (pv 0) pe_int (fun _ _=>rfl))) (nomark _)))),?_⟩
 walk_at "st"
 have line:=line_val
 obtain ⟨a1,a2,a3,a4,a5⟩:=rt_all (v:=x) hU
 obtain ⟨b1,b2,b3,b4,b5⟩:=rt_all (v:=y) hU
 have B:(10:Nat) ^ 240 < 10 ^ 1000:=by decide+kernel
 have B2:(10:Nat) ^ 180 < 10 ^ 1000:=by decide+kernel
 have hUn:U.natAbs≤10 ^ 180:=by omega
 have c1:(rt U x).1.natAbs < 10 ^ 1000:=Nat.lt_of_le_of_lt (Nat.le_trans a4 hx) B
 have c2:(rt U x).2.natAbs < 10 ^ 1000:=Nat.lt_of_le_of_lt (Nat.le_trans a5 hUn) B2
 have d1:(rt U y).1.natAbs < 10 ^ 1000:=Nat.lt_of_le_of_lt (Nat.le_trans b4 hy) B
 have d2:(rt U y).2.natAbs < 10 ^ 1000:=Nat.lt_of_le_of_lt (Nat.le_trans b5 hUn) B2
 unfold RtA at ha hb
 clear B B2
 walk_at "go"
 refine ixT_of (SqT.of ha) (v:=V.int (rt U x).1) rfl (ixT_of (SqT.of hb) (v:=V.int (rt U y).2) rfl ⟨_,rfl,_,rfl,⟨c1,d2⟩,ixT_of (SqT.of hb) (v:=V.int (rt U y).1) rfl (ixT_of (SqT.of ha) (v:=V.int (rt U x).2) rfl ⟨_,rfl,_,rfl,⟨d1,c2⟩,?_⟩)⟩)
 rw [show decide ((rt U x).1 * (rt U y).2 < (rt U y).1 * (rt U x).2)=decide (x < y) by rw [decide_eq_decide];exact rt_under hU]
 exact q
theorem Z68{f:Addr}{fd:FuncData}(F:Fun K "__init__" "Rule.__init__" Z07 f fd)(T:Txt K mg Z3 Z4 Z7 Z2 Z8 Z6 Z1 Z5 Z9 Z0)(Ze:Def P w K mg base (CXF P w) 3 "check_places" ["places"] (sp13_check K Z2)):FnOk P w K mg base (CXF P w) 4 f fd ["self","stock","places"] (sp56_rinit K Z0 Z2):=by
 have sc:FnScope ["self","stock","places"] ["self","stock","places"] (defScope Z07):=by walk_at "sc"
 refine F.okF sc (fun vs H Q E h=>?_) (fun cdv A outer s H vs Q E hr h=>?_)
 · obtain ⟨_,_,_,_,rfl,_⟩:=h;rfl
 obtain ⟨q',dx,p,v,rfl,hq,hv,q,qe⟩:=h
 refine ⟨_,(@pss_cons _ _ _ _ _ (ps_expr (pe_callD Ze hr rfl pass_onF (pa_cons (pv 2) pa_nil)))
  (@pss_cons _ _ _ _ _ (ps_fld (pv 0) (pv 1) rfl)
  (@pss_one _ _ _ (ps_fld (pv 0) (pv 2) rfl)))),?_⟩
 walk_at "st"
 have line:=line_val
 walk_at "go"
 refine ⟨fun hw=>?_,fun hw H' y sm hy er=>qe hw H' y sm hy er⟩
 obtain ⟨n,rfl,_⟩:=N53.wIn_one hw
 walk_at "go"
 refine ⟨_,dx,[],hq,T.Za,T.Zk,by decide,?_⟩
 walk_at "go"
 refine ⟨_,dx,_,upd_same,T.Za,T.Zo,by simp [putF],?_⟩
 walk_at "go"
 exact q n rfl hw _ (fun b o e nb=>by rw [upd_ne nb];exact e) upd_same
theorem Z69{f:Addr}{fd:FuncData}(F:Fun K "__init__" "Dues.__init__" Z23 f fd)(T:Txt K mg Z3 Z4 Z7 Z2 Z8 Z6 Z1 Z5 Z9 Z0)(Z29:DefB P w K mg base (CXF P w) 4 "Rule" Z9 ["self","stock","places"] (sp56_rinit K Z0 Z2)):FnOk P w K mg base (CXF P w) 5 f fd ["self","stock","places"] (sp56_init K Z0 Z2):=by
 have sc:FnScope ["self","stock","places"] ["self","stock","places"] (defScope Z23):=by walk_at "sc"
 refine F.okF sc (fun vs H Q E h=>?_) (fun cdv A outer s H vs Q E hr h=>?_)
 · obtain ⟨_,_,_,_,_,rfl,_⟩:=h;rfl
 obtain ⟨q',dx,p,v,U,rfl,hq,hv,hU,q,qe⟩:=h
 refine ⟨_,(@pss_cons _ _ _ _ _ (ps_expr (pe_initC Z29 hr (passS pass_onF) (pe_glob (v:= .ref Z9) rfl T.Z9g rfl) (pa_cons (pv 0) (pa_cons (pv 1) (pa_cons (pv 2) pa_nil)))))
  (@pss_cons _ _ _ _ _ (ps_fld (pv 0) (pe_tup (pa_cons pe_int (pa_cons pe_int pa_nil))) rfl)
  (@pss_cons _ _ _ _ _ (ps_fld (pv 0) pe_dnewK rfl)
  (@pss_one _ _ _ (ps_fld (pv 0) (@pe_lst _ _ _ _ pa_nil) rfl))))),?_⟩
 walk_at "st"
 have line:=line_val
 walk_at "go"
 refine ⟨dx,hq,hv,fun n en hw H1 sb1 hq1=>?_,fun hw H' y sm hy er=>qe hw H' y sm hy er⟩
 subst en
 rename_i rest hrest
 subst hrest
 walk_at "go"
 intro rp hrp
 have n1:q'≠rp:=ne_of_none hq1 hrp
 refine ⟨Z0,dx,_,by rw [upd_ne n1];exact hq1,T.Za,T.Zj,by show 2 < 1000;decide,?_⟩
 have hq2:upd (upd H1 rp (.tup [V.int 0,V.int 1])) q' (.ins Z0 dx (putF (Str.ofString "reached") (V.ref rp) [(Str.ofString "stock",V.ref p),(Str.ofString "places",V.int n)])) q'=some (.ins Z0 dx [(Str.ofString "stock",V.ref p),(Str.ofString "places",V.int n),(Str.ofString "reached",V.ref rp)]):=upd_same
 have hrp2:upd (upd H1 rp (.tup [V.int 0,V.int 1])) q' (.ins Z0 dx (putF (Str.ofString "reached") (V.ref rp) [(Str.ofString "stock",V.ref p),(Str.ofString "places",V.int n)])) rp=some (.tup [V.int 0,V.int 1]):=by rw [upd_ne n1.symm,upd_same]
 have sb2:SameBut q' H (upd (upd H1 rp (.tup [V.int 0,V.int 1])) q' (.ins Z0 dx (putF (Str.ofString "reached") (V.ref rp) [(Str.ofString "stock",V.ref p),(Str.ofString "places",V.int n)]))):=fun b o e nb=>by
  have e1:=sb1 _ _ e nb
  rw [upd_ne nb,upd_ne (ne_of_none e1 hrp)];exact e1
 generalize upd (upd H1 rp (.tup [V.int 0,V.int 1])) q' (.ins Z0 dx (putF (Str.ofString "reached") (V.ref rp) [(Str.ofString "stock",V.ref p),(Str.ofString "places",V.int n)]))=H2 at hq2 hrp2 sb2 ⊢
 clear sb1 hq1 hrp
 rename_i rest hrest
 subst hrest
 walk_at "go"
 intro dd hdd
 have n2:q'≠dd:=ne_of_none hq2 hdd
 have n3:rp≠dd:=ne_of_none hrp2 hdd
 refine ⟨Z0,dx,_,by rw [upd_ne n2];exact hq2,T.Za,T.Zf,by show 3 < 1000;decide,?_⟩
 have hq3:upd (upd H2 dd (.dK [])) q' (.ins Z0 dx (putF (Str.ofString "dues") (V.ref dd) [(Str.ofString "stock",V.ref p),(Str.ofString "places",V.int n),(Str.ofString "reached",V.ref rp)])) q'=some (.ins Z0 dx [(Str.ofString "stock",V.ref p),(Str.ofString "places",V.int n),(Str.ofString "reached",V.ref rp),(Str.ofString "dues",V.ref dd)]):=upd_same
 have hrp3:upd (upd H2 dd (.dK [])) q' (.ins Z0 dx (putF (Str.ofString "dues") (V.ref dd) [(Str.ofString "stock",V.ref p),(Str.ofString "places",V.int n),(Str.ofString "reached",V.ref rp)])) rp=some (.tup [V.int 0,V.int 1]):=by rw [upd_ne n1.symm,upd_ne n3];exact hrp2
 have hdd3:upd (upd H2 dd (.dK [])) q' (.ins Z0 dx (putF (Str.ofString "dues") (V.ref dd) [(Str.ofString "stock",V.ref p),(Str.ofString "places",V.int n),(Str.ofString "reached",V.ref rp)])) dd=some (.dK []):=by rw [upd_ne n2.symm,upd_same]
 have sb3:SameBut q' H (upd (upd H2 dd (.dK [])) q' (.ins Z0 dx (putF (Str.ofString "dues") (V.ref dd) [(Str.ofString "stock",V.ref p),(Str.ofString "places",V.int n),(Str.ofString "reached",V.ref rp)]))):=fun b o e nb=>by
  have e1:=sb2 _ _ e nb
  rw [upd_ne nb,upd_ne (ne_of_none e1 hdd)];exact e1
 have hdd0:H dd=none:=by
  cases k:H dd with
  | none=>rfl
  | some o=>rw [sb2 _ _ k n2.symm]at hdd;cases hdd
 generalize upd (upd H2 dd (.dK [])) q' (.ins Z0 dx (putF (Str.ofString "dues") (V.ref dd) [(Str.ofString "stock",V.ref p),(Str.ofString "places",V.int n),(Str.ofString "reached",V.ref rp)]))=H3 at hq3 hrp3 hdd3 sb3 ⊢
 clear sb2 hq2 hrp2 hdd
 rename_i rest hrest
 subst hrest
 walk_at "go"
 intro rr hrr
 have n4:q'≠rr:=ne_of_none hq3 hrr
 have hrr0:H rr=none:=by
  cases k:H rr with
  | none=>rfl
  | some o=>rw [sb3 _ _ k n4.symm]at hrr;cases hrr
 refine ⟨Z0,dx,_,by rw [upd_ne n4];exact hq3,T.Za,T.Zq,by show 4 < 1000;decide,?_⟩
 walk_at "go"
 refine q n rfl hw ⟨rp,dd,rr⟩ _ (fun b o e nb=>?_) (fun b hb=>?_) ⟨⟨dx,_,upd_same,⟨by rfl,by rfl,by rfl,by rfl,by rfl,by show 5 < 500;decide,fun m hm=>?_⟩⟩,?_,⟨[],?_,rfl,fun y hy=>by cases hy⟩,⟨[],?_,rfl,fun i a v h=>by simp at h⟩,List.nodup_nil,⟨⟨by decide,by decide⟩,(fun y hy=>by cases hy),(fun v hv=>by cases hv)⟩,by decide,by decide⟩
 · have e1:=sb3 _ _ e nb
   rw [upd_ne nb,upd_ne (ne_of_none e1 hrr)];exact e1
 · simp only [List.mem_cons,List.not_mem_nil,or_false]at hb
   rcases hb with e | e <;> rw [e]
   · exact hdd0
   · exact hrr0
 · have hm':m=Str.ofString "asked"∨m=Str.ofString "owe"∨m=Str.ofString "choice"∨m=Str.ofString "gone"∨m=Str.ofString "came"∨m=Str.ofString "level"∨m=Str.ofString "due_of"∨m=Str.ofString "prices"∨m=Str.ofString "nests":=by simpa using hm
   rcases hm' with e | e | e | e | e | e | e | e | e <;> rw [e] <;> rfl
 · show _=some (HO.tup [V.int (rt U 0).1,V.int (rt U 0).2])
   rw [rt_zero hU,upd_ne n1.symm,upd_ne (ne_of_none hrp3 hrr)];exact hrp3
 · rw [upd_ne n2.symm,upd_ne (ne_of_none hdd3 hrr)];exact hdd3
 · rw [upd_ne n4.symm,upd_same];rfl
theorem Z60{f:Addr}{fd:FuncData}(F:Fun K "nests" "Rule.nests" Z1l f fd)(T:Txt K mg Z3 Z4 Z7 Z2 Z8 Z6 Z1 Z5 Z9 Z0):FnOk P w K mg base (CXF P w) 1 f fd ["self"] (sp25_nests Z0):=by
 have sc:FnScope ["self"] ["self"] (defScope Z1l):=by walk_at "sc"
 refine F.okF sc (fun vs H Q E h=>?_) (fun cdv A outer s H vs Q E hr h=>?_)
 · obtain ⟨_,rfl,_⟩:=h;rfl
 obtain ⟨q',rfl,q⟩:=h
 refine ⟨_,(@pss_one _ _ _ (@ps_ret _ _ _ _ pe_bl)),?_⟩
 walk_at "st"
 walk_at "go"
 exact q
theorem Z6i{f:Addr}{fd:FuncData}(F:Fun K "owe" "Dues.owe" Z32 f fd)(T:Txt K mg Z3 Z4 Z7 Z2 Z8 Z6 Z1 Z5 Z9 Z0)(Z03:Def P w K mg base (CXF P w) 3 "plus_ratio" ["one","other"] (sp57_plus))(Zt:Def P w K mg base (CXF P w) 2 "ratio_of" ["top","bottom"] (sp57_ratio))(Z0r:DefM P w K mg base (CXF P w) 2 Z1 "cost_of" ["self","name"] (sp41_cost K Z1))(Zb:DefM P w K mg base (CXF P w) 2 Z1 "room_of" ["self","name"] (sp32_room K Z1)):FnOk P w K mg base (CXF P w) 5 f fd ["self","name"] (sp57_owe K Z0 Z1):=by
 have sc:FnScope ["self","name"] ["self","name"] (defScope Z32):=by walk_at "sc"
 refine F.okF sc (fun vs H Q E h=>?_) (fun cdv A outer s H vs Q E hr h=>?_)
 · obtain ⟨_,_,_,_,_,_,_,_,rfl,_⟩:=h;rfl
 obtain ⟨q',p,n,U,x,s,z,ts,rfl,hd,hs,nd,hz,hzk,hU,hkl,hr1,q⟩:=h
 refine ⟨_,(@pss_one _ _ _ (ps_dput (hu_of hr) (pe_fld (pv 0) rfl) (pv 1) (pe_callD Z03 hr rfl pass_onF (pa_cons (pe_fld (pv 0) rfl) (pa_cons (pe_callD Zt hr rfl pass_onF (pa_cons (pe_methS Z0r T.Zm hr (passS pass_onF) (pe_fld (pv 0) rfl) (pa_cons (pv 1) pa_nil)) (pa_cons (pe_methS Zb T.Zm hr (passS pass_onF) (pe_fld (pv 0) rfl) (pa_cons (pv 1) pa_nil)) pa_nil))) pa_nil))) rfl)),?_⟩
 walk_at "st"
 have line:=line_val
 obtain ⟨dx,fs,ho,hf⟩:=hd.o
 obtain ⟨dy,e,kvs0,g1,g2,g3,g4,g5⟩:=StockAt.has hs
 obtain ⟨sh0,sh1,rm1,rm2,rm3,c1,c2⟩:=hU.sh nd hz
 obtain ⟨hr0,hr2⟩:=hd.b.1
 have hUp:=hU.p
 have hUb:=hU.b
 obtain ⟨kvs,d1,d2,d3⟩:=hd.dd
 have hkn:kvs.length≤100:=by
  have:=congrArg List.length d2
  rw [List.length_map,List.length_map]at this
  have:=hd.l.1
  omega
 walk_at "go"
 refine ⟨Z0,dx,fs,ho,T.Za,T.Zj,_,hf.re,Z0,dx,fs,ho,T.Za,T.Zk,_,hf.st,p,rfl,dy,flds e,g1,by rfl,p,rfl,ts,hs,nd,hz,?_⟩
 refine ⟨Z0,dx,fs,ho,T.Za,T.Zk,_,hf.st,p,rfl,dy,flds e,g1,by rfl,p,rfl,ts,hs,nd,hz,by omega,Int.lt_of_le_of_lt rm2 (by decide+kernel),fun p1 hp1=>?_⟩
 have eS:rt (rm ts z) (cst ts z)=rt U (sh U ts z):=rt_of hUp (by omega) rm3
 rw [eS]
 have sm1:Same H (upd H p1 (.tup [V.int (rt U (sh U ts z)).1,V.int (rt U (sh U ts z)).2])):=Same.new hp1
 have h11:RtA (upd H p1 (.tup [V.int (rt U (sh U ts z)).1,V.int (rt U (sh U ts z)).2])) p1 U (sh U ts z):=upd_same
 generalize upd H p1 (.tup [V.int (rt U (sh U ts z)).1,V.int (rt U (sh U ts z)).2])=H1 at sm1 h11 ⊢
 refine ⟨x.rp,rfl,U,s.r,sm1 _ _ hd.rp,sh U ts z,h11,hUp,hUb,by omega,by omega,fun p2 hp2=>?_⟩
 have sm2:Same H1 (upd H1 p2 (.tup [V.int (rt U (s.r+sh U ts z)).1,V.int (rt U (s.r+sh U ts z)).2])):=Same.new hp2
 have h22:RtA (upd H1 p2 (.tup [V.int (rt U (s.r+sh U ts z)).1,V.int (rt U (s.r+sh U ts z)).2])) p2 U (s.r+sh U ts z):=upd_same
 generalize upd H1 p2 (.tup [V.int (rt U (s.r+sh U ts z)).1,V.int (rt U (s.r+sh U ts z)).2])=H2 at sm2 h22 ⊢
 have smA:=sm1.trans sm2
 refine ⟨Z0,dx,fs,smA _ _ ho,T.Za,T.Zf,_,hf.du,x.dd,rfl,_,DPut.k (k:=Sum.inr z) (smA _ _ d1) (by omega),?_⟩
 walk_at "go"
 exact q _ (fun b o nb e=>by rw [upd_ne (fun k=>nb (by rw [k];simp [DuM]))];exact smA _ _ e) ((hd.same smA).put (smA _ _ d1) h22 hzk ⟨by omega,by omega⟩ hkl)
theorem Z61{f:Addr}{fd:FuncData}(F:Fun K "asked" "Dues.asked" Z1m f fd)(T:Txt K mg Z3 Z4 Z7 Z2 Z8 Z6 Z1 Z5 Z9 Z0)(Z0c:DefM P w K mg base (CXF P w) 5 Z0 "owe" ["self","name"] (sp57_owe K Z0 Z1)):FnOk P w K mg base (CXF P w) 6 f fd ["self","name"] (sp57_asked K Z0 Z1):=by
 have sc:FnScope ["self","name"] ["self","name"] (defScope Z1m):=by walk_at "sc"
 refine F.okF sc (fun vs H Q E h=>?_) (fun cdv A outer s H vs Q E hr h=>?_)
 · obtain ⟨_,_,_,_,_,_,_,_,rfl,_⟩:=h;rfl
 obtain ⟨q',p,n,U,x,s,z,ts,rfl,hd,hs,hst,nd,hz,hU,hrl,hr1,q⟩:=h
 refine ⟨_,(@pss_cons _ _ _ _ _ (ps_expr (pe_bm PySem.F.plainAttrs_list PySem.F.slot_list_append PySem.F.type_list_append mt_append (pe_fld (pv 0) rfl) (pa_cons (pe_tup (pa_cons pe_int (pa_cons pe_int pa_nil))) pa_nil)))
  (@pss_one _ _ _ (ps_if (pt_cmp (pc_din (hu_of hr) (pv 1) (pe_fld (pv 0) rfl)))
   (@pss_cons _ _ _ _ _ (ps_expr (pe_dpop1 (pe_fld (pv 0) rfl) (pv 1) ⟨rfl,rfl,rfl,rfl⟩))
   (@pss_one _ _ _ (ps_expr (pe_methS Z0c T.Za hr (passS pass_onF) (pv 0) (pa_cons (pv 1) pa_nil)))))
   pss_nil))),?_⟩
 walk_at "st"
 have line:=line_val
 obtain ⟨dx,fs,ho,hf⟩:=hd.o
 obtain ⟨us,r1,r2⟩:=hd.rr
 have hul:us.length < 1000:=by rw [r2.1];exact hrl
 have hUp:=hU.p
 walk_at "go"
 refine ⟨Z0,dx,fs,ho,T.Za,T.Zq,_,hf.ri,.inl ⟨rfl,_,SqL.of r1⟩,by omega,fun p1 hp1=>?_⟩
 have sm1:Same H (upd H p1 (.tup [V.int 0,V.int 1])):=Same.new hp1
 have h11:RtA (upd H p1 (.tup [V.int 0,V.int 1])) p1 U 0:=by
  show _=some (HO.tup [V.int (rt U 0).1,V.int (rt U 0).2])
  rw [rt_zero hUp];exact upd_same
 generalize upd H p1 (.tup [V.int 0,V.int 1])=H1 at sm1 h11 ⊢
 refine ⟨x.rr,_,_,rfl,rfl,sm1 _ _ r1,by rw [List.length_map];omega,?_⟩
 rw [show us.map V.ref++[V.ref p1]=(us++[p1]).map V.ref by rw [List.map_append];rfl]
 have hd1:=(hd.same sm1).rise (us':=us++[p1]) (rs':=s.rs++[0]) ⟨by rw [List.length_append,List.length_append,r2.1];rfl,fun i a v k1 k2=>by
  by_cases hi:i < us.length
  · rw [List.getElem?_append_left hi]at k1
    rw [List.getElem?_append_left (by rw [← r2.1];exact hi)]at k2
    exact sm1 _ _ (r2.2 i a v k1 k2)
  · rw [List.getElem?_append_right (by omega)]at k1
    rw [List.getElem?_append_right (by rw [← r2.1];omega)]at k2
    have h0:i - us.length=0:=by
     have:=(List.getElem?_eq_some_iff.mp k1).1
     simp at this;omega
    rw [h0]at k1
    rw [← r2.1,h0]at k2
    cases k1
    cases k2
    exact h11⟩ (fun v hv=>by
    rcases List.mem_append.mp hv with hv | hv
    · exact hd.b.2.2 v hv
    · rw [List.mem_singleton.mp hv];exact ⟨by decide,by decide⟩) (by rw [List.length_append];simp only [List.length_cons,List.length_nil];omega)
 have kp1:Kp (DuM q' x) H (upd H1 x.rr (.lst ((us++[p1]).map V.ref))):=fun b o nb e=>by rw [upd_ne (fun k=>nb (by rw [k];simp [DuM]))];exact sm1 _ _ e
 generalize upd H1 x.rr (.lst ((us++[p1]).map V.ref))=H2 at hd1 kp1 ⊢
 obtain ⟨dx2,fs2,ho2,hf2⟩:=hd1.o
 obtain ⟨kvs,d1,d2,d3⟩:=hd1.dd
 have d2':kvs.map (·.1)=s.ks.map Sum.inr:=d2
 rename_i rest hrest
 subst hrest
 walk_at "go"
 refine ⟨Z0,dx2,fs2,ho2,T.Za,T.Zf,_,hf2.du,x.dd,rfl,_,DGet.k (k:=Sum.inr z) d1,?_⟩
 rw [keys_val d2' z]
 by_cases hzk:z∈s.ks
 · rw [if_pos (decide_eq_true hzk)]
   obtain ⟨a,k1,k2⟩:=d3 z hzk
   walk_at "go"
   refine ⟨Z0,dx2,fs2,ho2,T.Za,T.Zf,_,hf2.du,x.dd,rfl,.inl ⟨_,.inl d1⟩,_,d1,Sum.inr z,rfl,_,k1,?_⟩
   have hd2:=hd1.drop (z:=z) d1
   have kp2:Kp (DuM q' x) H (upd H2 x.dd (.dK (dropK kvs (Sum.inr z)))):=fun b o nb e=>by rw [upd_ne (fun k=>nb (by rw [k];simp [DuM]))];exact kp1 b o nb e
   generalize upd H2 x.dd (.dK (dropK kvs (Sum.inr z)))=H3 at hd2 kp2 ⊢
   obtain ⟨dx3,fs3,ho3,hf3⟩:=hd2.o
   rename_i rest hrest
   subst hrest
   walk_at "go"
   refine ⟨dx3,fs3,ho3,hf3.m _ (by simp),p,n,U,x,_,hd2,ts,hst _ kp2,nd,hz,fun h=>((List.Nodup.mem_erase_iff hd.nd).mp h).1 rfl,hU,?_,hr1,fun H4 kp hd4=>?_⟩
   · show (s.ks.erase z).length < 100
     have:=List.length_erase_of_mem hzk
     have h0:=List.length_pos_of_mem hzk
     have:=hd.l.1
     omega
   · have e:askS U ts s z=⟨s.r,s.ks.erase z++[z],N74s s.f z (s.r+sh U ts z),s.rs++[0]⟩:=if_pos hzk
     rw [e]at q
     exact q H4 (kp2.trans kp) hd4
 · rw [if_neg (by simp [hzk])]
   have e:askS U ts s z=⟨s.r,s.ks,s.f,s.rs++[0]⟩:=if_neg hzk
   rw [e]at q
   exact q H2 kp1 hd1
theorem Z5l{f:Addr}{fd:FuncData}(F:Fun K "choice" "Dues.choice" Z12 f fd)(T:Txt K mg Z3 Z4 Z7 Z2 Z8 Z6 Z1 Z5 Z9 Z0)(Z15:Def P w K mg base (CXF P w) 3 "under_ratio" ["one","other"] (sp57_under)):FnOk P w K mg base (CXF P w) 4 f fd ["self","lying"] (sp58_choice Z0):=by
 have sc:FnScope ["self","lying","names","least","name"] ["self","lying"] (defScope Z12):=by walk_at "sc"
 refine F.okF sc (fun vs H Q E h=>?_) (fun cdv A outer s H vs Q E hr h=>?_)
 · obtain ⟨_,_,_,_,_,_,_,rfl,_⟩:=h;rfl
 obtain ⟨q',p,l,n,U,x,s,rfl,hd,hU,hU2,hne,q⟩:=h
 refine ⟨_,(@pss_cons _ _ _ _ _ (ps_set (i:=2) sc.nd rfl (Or.inl rfl) (pe_callTy (call_listD rfl) rfl T.Z0h (by first | rfl | decide+kernel) (pa_cons (pe_fld (pv 0) rfl) pa_nil)))
  (@pss_cons _ _ _ _ _ (ps_set (i:=3) sc.nd rfl (Or.inl rfl) (@pe_ix _ _ _ _ _ _ _ ix_list (pv 2) pe_int (fun _ _=>rfl)))
  (@pss_cons _ _ _ _ _ (ps_for own_outF rfl (pi_list (pv 2)) (pg_name (i:=4) sc.nd rfl (Or.inl rfl))
   (@pss_one _ _ _ (ps_if (pt_val (pe_callD Z15 hr rfl pass_onF (pa_cons (pe_dget (hu_of hr) (pe_fld (pv 0) rfl) (pv 4) (fun _ _=>rfl)) (pa_cons (pe_dget (hu_of hr) (pe_fld (pv 0) rfl) (pv 3) (fun _ _=>rfl)) pa_nil))))
    (@pss_one _ _ _ (ps_set (i:=3) sc.nd rfl (Or.inl rfl) (pv 4)))
    pss_nil)))
  (@pss_one _ _ _ (@ps_ret _ _ _ _ (pv 3)))))),?_⟩
 walk_at "st"
 have line:=line_val
 obtain ⟨dx,fs,ho,hf⟩:=hd.o
 obtain ⟨kvs,d1,d2,d3⟩:=hd.dd
 have eK:kvs.map (fun p=>kV p.1)=s.ks.map V.str:=by
  have h1:kvs.map (fun p=>kV p.1)=(kvs.map (·.1)).map kV:=by rw [List.map_map];rfl
  rw [h1,d2,List.map_map];rfl
 have hbd:∀y∈s.ks,(s.f y).natAbs≤10 ^ 240:=fun y hy=>by
  obtain ⟨b1,b2⟩:=hd.b.2.1 y hy
  have:(10:Int) ^ 230≤10 ^ 240:=by decide+kernel
  omega
 have hl0:0 < s.ks.length:=List.length_pos_iff.mpr hne
 walk_at "go"
 refine ⟨Z0,dx,fs,ho,T.Za,T.Zf,_,hf.du,x.dd,rfl,_,d1,fun l1 hl1=>?_⟩
 rw [eK]
 have sm1:Same H (upd H l1 (.lst (s.ks.map V.str))):=Same.new hl1
 have h11:upd H l1 (.lst (s.ks.map V.str)) l1=some (.lst (s.ks.map V.str)):=upd_same
 generalize upd H l1 (.lst (s.ks.map V.str))=H1 at sm1 h11 ⊢
 rename_i rest hrest
 subst hrest
 walk_at "go"
 refine ixL_of (SqL.of h11) (v:=V.str (s.ks.getD 0 Str.empty)) (atI_nat (j:=0) (by rw [List.getElem?_map,getD_str hl0];rfl)) ?_
 have hz0:s.ks.getD 0 Str.empty∈s.ks:=List.mem_of_getElem? (getD_str hl0)
 have hz00:s.ks.headD Str.empty=s.ks.getD 0 Str.empty:=by cases s.ks <;> rfl
 have hq:∀z,z=s.ks.foldl (fun b y=>if s.f y < s.f b then y else b) (s.ks.getD 0 Str.empty)→lst1 s.f s.ks=z:=fun z e=>by rw [e,← hz00];rfl
 generalize s.ks.getD 0 Str.empty=z0 at hz0 hq ⊢
 clear hz00
 rename_i rest hrest
 subst hrest
 walk_at "go"
 refine ⟨⟨_,SqL.of h11⟩,?_⟩
 rename_i rest hrest
 refine forL_by (xs:=s.ks.map V.str) (fun i σ H'=>∃(z:Str) (v4:Option V),σ=[some (V.ref q'),some (V.ref l),some (V.ref l1),some (V.str z),v4]∧H'=H1∧z∈s.ks∧(s.ks.take i).foldl (fun b y=>if s.f y < s.f b then y else b) z0=z) ⟨z0,none,rfl,rfl,hz0,by rw [List.take_zero];rfl⟩ (fun i σ H' _ h_=>by obtain ⟨_,_,_,rfl,_⟩:=h_;exact SqL.of h11) ?_ ?_
 · clear hrest
   rintro i v σ H' hv ⟨z,v4,rfl,rfl,hz,hmin⟩
   have hi:i < s.ks.length:=by
    have:=(List.getElem?_eq_some_iff.mp hv).1
    rw [List.length_map]at this;exact this
   rw [List.getElem?_map,getD_str hi]at hv
   cases hv
   have hy:s.ks.getD i Str.empty∈s.ks:=List.mem_of_getElem? (getD_str hi)
   have htk:s.ks.take (i+1)=s.ks.take i++[s.ks.getD i Str.empty]:=by rw [List.take_succ,getD_str hi];rfl
   generalize s.ks.getD i Str.empty=y at hy htk ⊢
   obtain ⟨a1,e1,e2⟩:=d3 y hy
   obtain ⟨b1,g1,g2⟩:=d3 z hz
   walk_at "go"
   refine ⟨Z0,dx,fs,sm1 _ _ ho,T.Za,T.Zf,_,hf.du,x.dd,rfl,_,by rw [← e1];exact DGet.k (k:=Sum.inr y) (sm1 _ _ d1),Z0,dx,fs,sm1 _ _ ho,T.Za,T.Zf,_,hf.du,x.dd,rfl,_,by rw [← g1];exact DGet.k (k:=Sum.inr z) (sm1 _ _ d1),a1,rfl,b1,rfl,U,s.f y,sm1 _ _ e2,s.f z,sm1 _ _ g2,hU,hU2,hbd y hy,hbd z hz,?_⟩
   have hfo:(s.ks.take (i+1)).foldl (fun b y=>if s.f y < s.f b then y else b) z0=if s.f y < s.f z then y else z:=by rw [htk,List.foldl_append,hmin];rfl
   rw [hfo]
   by_cases hlt:s.f y < s.f z
   · rw [if_pos hlt,if_pos hlt]
     walk_at "go"
     exact hy
   · rw [if_neg hlt,if_neg hlt]
     exact ⟨hz,rfl⟩
 · rintro σ H' ⟨z,v4,rfl,rfl,hz,hmin⟩
   rw [List.length_map,List.take_length]at hmin
   subst hrest
   walk_at "go"
   have e:=hq z hmin.symm
   rw [e]at q
   exact q H' sm1
theorem Z6a{f:Addr}{fd:FuncData}(F:Fun K "gone" "Dues.gone" Z24 f fd)(T:Txt K mg Z3 Z4 Z7 Z2 Z8 Z6 Z1 Z5 Z9 Z0)(Z03:Def P w K mg base (CXF P w) 3 "plus_ratio" ["one","other"] (sp57_plus))(Z16:Def P w K mg base (CXF P w) 3 "minus_ratio" ["one","other"] (sp57_minus)):FnOk P w K mg base (CXF P w) 5 f fd ["self","name"] (sp57_gone Z0):=by
 have sc:FnScope ["self","name","due"] ["self","name"] (defScope Z24):=by walk_at "sc"
 refine F.okF sc (fun vs H Q E h=>?_) (fun cdv A outer s H vs Q E hr h=>?_)
 · obtain ⟨_,_,_,_,_,_,_,rfl,_⟩:=h;rfl
 obtain ⟨q',p,n,U,x,s,z,rfl,hd,hU,hU2,hz,hrl,hbd,q⟩:=h
 refine ⟨_,(@pss_cons _ _ _ _ _ (ps_set (i:=2) sc.nd rfl (Or.inl rfl) (pe_dpop1 (pe_fld (pv 0) rfl) (pv 1) ⟨rfl,rfl,rfl,rfl⟩))
  (@pss_cons _ _ _ _ _ (ps_asg (pe_callD Z03 hr rfl pass_onF (pa_cons (@pe_ix _ _ _ _ _ _ _ ix_list (pe_fld (pv 0) rfl) (pe_un un_neg pe_int) (fun _ _=>rfl)) (pa_cons (pe_callD Z16 hr rfl pass_onF (pa_cons (pv 2) (pa_cons (pe_fld (pv 0) rfl) pa_nil))) pa_nil))) (pg_sub (pe_fld (pv 0) rfl) (pe_un un_neg pe_int) set_list))
  (@pss_one _ _ _ (ps_fld (pv 0) (pv 2) rfl)))),?_⟩
 walk_at "st"
 have line:=line_val
 obtain ⟨dx,fs,ho,hf⟩:=hd.o
 obtain ⟨kvs,d1,d2,d3⟩:=hd.dd
 obtain ⟨us,r1,r2⟩:=hd.rr
 obtain ⟨a,k1,k2⟩:=d3 z hz
 have B:(10:Int) ^ 230≤10 ^ 240:=by decide+kernel
 have hul:=r2.1
 walk_at "go"
 refine ⟨Z0,dx,fs,ho,T.Za,T.Zf,_,hf.du,x.dd,rfl,.inl ⟨_,.inl d1⟩,_,d1,Sum.inr z,rfl,_,k1,?_⟩
 have hd1:=hd.drop (z:=z) d1
 have ka1:RtA (upd H x.dd (.dK (dropK kvs (Sum.inr z)))) a U (s.f z):=by
  show _=_
  rw [upd_ne (ne_of k2 d1 (by intro z;cases z))];exact k2
 have kp1:Kp (DuM q' x) H (upd H x.dd (.dK (dropK kvs (Sum.inr z)))):=fun b o nb e=>by rw [upd_ne (fun k=>nb (by rw [k];simp [DuM]))];exact e
 generalize upd H x.dd (.dK (dropK kvs (Sum.inr z)))=H1 at hd1 ka1 kp1 ⊢
 obtain ⟨dx1,fs1,ho1,hf1⟩:=hd1.o
 obtain ⟨us1,p1,p2⟩:=hd1.rr
 have p2':RtsA H1 us1 U s.rs:=p2
 have hul1:=p2'.1
 obtain ⟨L,hL⟩:∃L:Nat,us1.length=L+1:=⟨us1.length - 1,by omega⟩
 have hlast:us1[L]?=some (us1[L]'(by omega)):=List.getElem?_eq_getElem (by omega)
 generalize us1[L]'(by omega)=ua at hlast
 have hrl2:s.rs[L]?=some (s.rs.getLastD 0):=by
  rw [List.getLastD_eq_getLast?,List.getLast?_eq_getElem?,show s.rs.length - 1=L by omega,List.getElem?_eq_getElem (by omega)];rfl
 have kua:=p2'.2 L ua _ hlast hrl2
 rename_i rest hrest
 subst hrest
 walk_at "go"
 have e1:us1=us1.dropLast++[ua]:=by
  refine List.ext_getElem? fun i=>?_
  by_cases hi:i < L
  · rw [List.getElem?_append_left (by rw [List.length_dropLast];omega),List.getElem?_dropLast,if_pos (by omega)]
  · by_cases hi2:i=L
    · rw [hi2,hlast,List.getElem?_append_right (by rw [List.length_dropLast];omega),List.length_dropLast,show L - (us1.length - 1)=0 by omega];rfl
    · rw [List.getElem?_eq_none (by omega),List.getElem?_eq_none (by rw [List.length_append,List.length_dropLast];simp only [List.length_cons,List.length_nil];omega)]
 obtain ⟨f0,f1⟩:=hd.b.2.1 z hz
 obtain ⟨r0,r3⟩:=hd.b.1
 obtain ⟨l0,l1⟩:=hd.b.2.2 _ (List.mem_of_getElem? hrl2)
 obtain ⟨n0,n1⟩:=hbd
 refine ⟨Z0,dx1,fs1,ho1,T.Za,T.Zq,_,hf1.ri,ixL_of (SqL.of p1) (v:=V.ref ua) ?_ ⟨Z0,dx1,fs1,ho1,T.Za,T.Zj,_,hf1.re,x.rp,rfl,U,s.f z,ka1,s.r,hd1.rp,hU,hU2,by omega,by omega,fun pm hpm=>?_⟩⟩
 · rw [e1,List.map_append];exact atI_last _ _
 have sm2:Same H1 (upd H1 pm (.tup [V.int (rt U (s.f z - s.r)).1,V.int (rt U (s.f z - s.r)).2])):=Same.new hpm
 have hpm2:RtA (upd H1 pm (.tup [V.int (rt U (s.f z - s.r)).1,V.int (rt U (s.f z - s.r)).2])) pm U (s.f z - s.r):=upd_same
 generalize upd H1 pm (.tup [V.int (rt U (s.f z - s.r)).1,V.int (rt U (s.f z - s.r)).2])=H2 at sm2 hpm2 ⊢
 refine ⟨ua,rfl,U,_,sm2 _ _ kua,_,hpm2,hU,hU2,by omega,by omega,fun pn hpn=>?_⟩
 unfold goneS at q
 generalize s.rs.getLastD 0+(s.f z - s.r)=nv at n0 n1 q ⊢
 have sm3:Same H2 (upd H2 pn (.tup [V.int (rt U nv).1,V.int (rt U nv).2])):=Same.new hpn
 have hpn3:RtA (upd H2 pn (.tup [V.int (rt U nv).1,V.int (rt U nv).2])) pn U nv:=upd_same
 generalize upd H2 pn (.tup [V.int (rt U nv).1,V.int (rt U nv).2])=H3 at sm3 hpn3 ⊢
 have hd3:=(hd1.same sm2).same sm3
 have kp3:Kp (DuM q' x) H H3:=fun b o nb e=>sm3 _ _ (sm2 _ _ (kp1 b o nb e))
 have p23:RtsA H3 us1 U s.rs:=(p2'.keep fun v e h=>sm2 _ _ h).keep fun v e h=>sm3 _ _ h
 refine ⟨Z0,dx1,fs1,sm3 _ _ (sm2 _ _ ho1),T.Za,T.Zq,_,hf1.ri,x.rr,rfl,_,sm3 _ _ (sm2 _ _ p1),L,?_,?_⟩
 · unfold ixN
   rw [List.length_map,hL,if_neg (by omega),if_pos (by omega)]
   congr 1
   omega
 rw [← List.map_set]
 have hd4:=hd3.rise (p23.set (k:=L) hpn3) (fun v hv=>by
  rcases List.mem_or_eq_of_mem_set hv with h | h
  · exact hd.b.2.2 v h
  · rw [h];exact ⟨n0,n1⟩) (by rw [List.length_set];exact hd.l.2)
 have ka4:RtA (upd H3 x.rr (.lst ((us1.set L pn).map V.ref))) a U (s.f z):=by
  show _=_
  rw [upd_ne (ne_of (sm3 _ _ (sm2 _ _ ka1)) (sm3 _ _ (sm2 _ _ p1)) (by intro z;cases z))];exact sm3 _ _ (sm2 _ _ ka1)
 have kp4:Kp (DuM q' x) H (upd H3 x.rr (.lst ((us1.set L pn).map V.ref))):=fun b o nb e=>by rw [upd_ne (fun k=>nb (by rw [k];simp [DuM]))];exact kp3 b o nb e
 generalize upd H3 x.rr (.lst ((us1.set L pn).map V.ref))=H4 at hd4 ka4 kp4 ⊢
 obtain ⟨dx4,fs4,ho4,hf4⟩:=hd4.o
 rename_i rest hrest
 subst hrest
 walk_at "go"
 refine ⟨Z0,dx4,fs4,ho4,T.Za,T.Zj,by have:=hf4.n;omega,?_⟩
 walk_at "go"
 have hd5:=hd4.reach ho4 hf4 ka4 ⟨f0,f1⟩
 have eL:L=s.rs.length - 1:=by omega
 rw [eL]at hd5
 exact q a _ (fun b o nb e=>by rw [upd_ne (fun k=>nb (by rw [k];simp [DuM]))];exact kp4 b o nb e) hd5
theorem Z6b{f:Addr}{fd:FuncData}(F:Fun K "came" "Dues.came" Z25 f fd)(T:Txt K mg Z3 Z4 Z7 Z2 Z8 Z6 Z1 Z5 Z9 Z0)(Z0c:DefM P w K mg base (CXF P w) 5 Z0 "owe" ["self","name"] (sp57_owe K Z0 Z1)):FnOk P w K mg base (CXF P w) 6 f fd ["self","name"] (sp57_owe K Z0 Z1):=by
 have sc:FnScope ["self","name"] ["self","name"] (defScope Z25):=by walk_at "sc"
 refine F.okF sc (fun vs H Q E h=>?_) (fun cdv A outer s H vs Q E hr h=>?_)
 · obtain ⟨_,_,_,_,_,_,_,_,rfl,_⟩:=h;rfl
 obtain ⟨q',p,n,U,x,s,z,ts,rfl,hd,hs,nd,hz,hzk,hU,hkl,hr1,q⟩:=h
 refine ⟨_,(@pss_one _ _ _ (ps_expr (pe_methS Z0c T.Za hr (passS pass_onF) (pv 0) (pa_cons (pv 1) pa_nil)))),?_⟩
 walk_at "st"
 have line:=line_val
 obtain ⟨dx,fs,ho,hf⟩:=hd.o
 walk_at "go"
 exact ⟨dx,fs,ho,hf.m _ (by simp),p,n,U,x,s,hd,ts,hs,nd,hz,hzk,hU,hkl,hr1,fun H' kp hd'=>q H' kp hd'⟩
theorem Z62{f:Addr}{fd:FuncData}(F:Fun K "level" "Dues.level" Z1n f fd)(T:Txt K mg Z3 Z4 Z7 Z2 Z8 Z6 Z1 Z5 Z9 Z0):FnOk P w K mg base (CXF P w) 1 f fd ["self"] (sp57_level Z0):=by
 have sc:FnScope ["self"] ["self"] (defScope Z1n):=by walk_at "sc"
 refine F.okF sc (fun vs H Q E h=>?_) (fun cdv A outer s H vs Q E hr h=>?_)
 · obtain ⟨_,_,_,_,_,_,rfl,_⟩:=h;rfl
 obtain ⟨q',p,n,U,x,s,rfl,hd,q⟩:=h
 refine ⟨_,(@pss_one _ _ _ (@ps_ret _ _ _ _ (pe_fld (pv 0) rfl))),?_⟩
 walk_at "st"
 obtain ⟨dx,fs,ho,hf⟩:=hd.o
 walk_at "go"
 exact ⟨Z0,dx,fs,ho,T.Za,T.Zj,_,hf.re,q⟩
theorem Z5m{f:Addr}{fd:FuncData}(F:Fun K "due_of" "Dues.due_of" Z13 f fd)(T:Txt K mg Z3 Z4 Z7 Z2 Z8 Z6 Z1 Z5 Z9 Z0):FnOk P w K mg base (CXF P w) 1 f fd ["self","name"] (sp56_due Z0 Z6):=by
 have sc:FnScope ["self","name"] ["self","name"] (defScope Z13):=by walk_at "sc"
 refine F.okF sc (fun vs H Q E h=>?_) (fun cdv A outer s H vs Q E hr h=>?_)
 · obtain ⟨_,_,_,_,_,_,_,rfl,_⟩:=h;rfl
 obtain ⟨q',p,n,U,x,s,z,rfl,hd,hrz,q,qe⟩:=h
 refine ⟨_,(@pss_cons _ _ _ _ _ (ps_if (pt_cmp (pc_dnotin (hu_of hr) (pv 1) (pe_fld (pv 0) rfl)))
  (@pss_one _ _ _ (ps_raiseF T.Z7o rfl T.k_NotThere rfl rfl T.Z53 raisesF (pa_cons (pe_fstr (pj_cons (pe_fmtR (pv 1)) (pj_cons pe_str pj_nil))) pa_nil)))
  pss_nil)
  (@pss_one _ _ _ (@ps_ret _ _ _ _ (pe_dget (hu_of hr) (pe_fld (pv 0) rfl) (pv 1) (fun _ _=>rfl))))),?_⟩
 walk_at "st"
 have line:=line_val
 obtain ⟨dx,fs,ho,hf⟩:=hd.o
 obtain ⟨kvs,d1,d2,d3⟩:=hd.dd
 walk_at "go"
 refine ⟨Z0,dx,fs,ho,T.Za,T.Zf,_,hf.du,x.dd,rfl,_,DGet.k (k:=Sum.inr z) d1,?_⟩
 rw [keys_val d2 z]
 by_cases hz:z∈s.ks
 · rw [if_neg (by simp [hz])]
   obtain ⟨a,k1,k2⟩:=d3 z hz
   rename_i rest hrest
   subst hrest
   walk_at "go"
   exact ⟨Z0,dx,fs,ho,T.Za,T.Zf,_,hf.du,x.dd,rfl,_,by rw [← k1];exact DGet.k (k:=Sum.inr z) d1,q hz a k2⟩
 · rw [if_pos (by simp [hz])]
   have z0:Str.empty.length=0:=rfl
   have z1:(Str.ofString " does not lie on the shelf").length=26:=rfl
   have e1:(Str.empty++reprText z).length≤sizeLine:=by rw [len_app];omega
   have e2:(Str.empty++reprText z++Str.ofString " does not lie on the shelf").length≤sizeLine:=by rw [len_app,len_app];omega
   exact ⟨by omega,e1,e2,e2,by omega,fun e he=>⟨he,qe hz _ e (Same.new he) he upd_same⟩⟩
theorem Z6c{f:Addr}{fd:FuncData}(F:Fun K "make_room" "make_room" Z26 f fd)(T:Txt K mg Z3 Z4 Z7 Z2 Z8 Z6 Z1 Z5 Z9 Z0)(Zn:DefM P w K mg base (CXF P w) 1 Z5 "room_left" ["self"] (sp_left Z5))(Z17:DefM P w K mg base (CXF P w) 1 Z5 "lying" ["self"] (sp_lying Z5))(Z18:DefM P w K mg base (CXF P w) 4 Z0 "choice" ["self","lying"] (sp58_choice Z0))(Z1p:DefM P w K mg base (CXF P w) 2 Z5 "cast" ["self","name"] (sp_castG Z5))(Z2a:DefM P w K mg base (CXF P w) 5 Z0 "gone" ["self","name"] (sp57_gone Z0)):FnOk P w K mg base (CXF P w) 8 f fd ["rule","shelf","room"] (sp58_room Z0 K Z1 Z5):=by
 have sc:FnScope ["rule","shelf","room","went","name"] ["rule","shelf","room"] (defScope Z26):=by walk_at "sc"
 refine F.okF sc (fun vs H Q E h=>?_) (fun cdv A outer s H vs Q E hr h=>?_)
 · obtain ⟨_,_,_,_,_,_,_,_,_,_,_,_,_,rfl,_⟩:=h;rfl
 obtain ⟨H0,q',p,sh,d,M,n,need,U,ts,ls,s,z,rfl,hr',hm,hnn,hll,htl,hcn,q⟩:=h
 refine ⟨_,(@pss_cons _ _ _ _ _ (ps_set (i:=3) sc.nd rfl (Or.inl rfl) (@pe_lst _ _ _ _ pa_nil))
  (@pss_cons _ _ _ _ _ (ps_while own_outF (pt_cmpR op_lt (pe_methS0 Zn T.Zg hr (passS pass_onF) (pv 1)) (pv 2) (nomark _))
   (@pss_cons _ _ _ _ _ (ps_set (i:=4) sc.nd rfl (Or.inl rfl) (pe_methS Z18 T.Za hr (passS pass_onF) (pv 0) (pa_cons (pe_methS0 Z17 T.Zg hr (passS pass_onF) (pv 1)) pa_nil)))
   (@pss_cons _ _ _ _ _ (ps_expr (pe_methS Z1p T.Zg hr (passS pass_onF) (pv 1) (pa_cons (pv 4) pa_nil)))
   (@pss_cons _ _ _ _ _ (ps_expr (pe_methS Z2a T.Za hr (passS pass_onF) (pv 0) (pa_cons (pv 4) pa_nil)))
   (@pss_one _ _ _ (ps_expr (pe_bm PySem.F.plainAttrs_list PySem.F.slot_list_append PySem.F.type_list_append mt_append (pv 3) (pa_cons (pv 4) pa_nil))))))))
  (@pss_one _ _ _ (@ps_ret _ _ _ _ (pv 3))))),?_⟩
 walk_at "st"
 have line:=line_val
 walk_at "go"
 intro w hw
 have kp0:Kp (d::M) H (upd H w (.lst [])):=Kp.of (Same.new hw)
 have hr0:=hr'.same (Same.new (o:= .lst []) hw)
 have hww:upd H w (.lst []) w=some (.lst []):=upd_same
 have nw:=hr'.free hw
 have nw0:H0 w=none:=same_none hr'.sm hw
 have nwm:w∉M:=fun h=>nw (List.mem_cons_of_mem _ h)
 have nwd:w≠d:=fun h=>nw (by rw [h];simp)
 generalize upd H w (.lst [])=H1 at kp0 hr0 hww ⊢
 rename_i rest hrest
 subst hrest
 walk_at "go"
 rename_i rest hrest
 refine while_d (m0:=ls.length) (fun m σ H5=>∃(ls':Ly) (s':DuS) (wl:List Str) (v4:Option V),σ=[some (V.ref q'),some (V.ref sh),some (V.int need),some (V.ref w),v4]∧Kp (d::M) H H5∧H5 w=some (.lst (wl.map V.str))∧RunD Z0 U K Z1 Z5 H0 H5 q' p sh d M n ts ls' s'∧DM U ts (ts.map (·.1)) z s' (lyN ls')∧gf (TD Z0 U ts) (rm ts) n need s (lyN ls) []=gf (TD Z0 U ts) (rm ts) n need s' (lyN ls') wl∧wl.length+ls'.length≤60∧s'.rs.length≤300∧m=ls'.length) ⟨ls,s,[],none,rfl,kp0,hww,hr0,hm,rfl,by simpa using hll,hcn,rfl⟩ ?_
 clear hr' hr0 hww kp0 hm
 rintro m' σ H5 ⟨ls',s',wl,v4,rfl,kp5,hw5,hr5,hm5,hf5,hl5,hcn5,rfl⟩
 have hleft:=hr5.left
 obtain ⟨⟨dx,ho⟩,hd,hnd⟩:=id hr5.shf
 walk_at "go"
 refine ⟨dx,_,ho,by rfl,_,_,_,_,hr5.shf,fun H6 sm6=>?_⟩
 have hr6:=hr5.same sm6
 have hw6:=sm6 _ _ hw5
 have kp6:=kp5.trans (Kp.of sm6)
 by_cases hlt:need≤n - N41.sm (rm ts) (lyN ls')
 · rw [if_neg (by rw [hleft];omega)]
   have e1:gf (TD Z0 U ts) (rm ts) n need s (lyN ls) []=(s',lyN ls',wl)∧True:=⟨hf5.trans (gf_end hlt),trivial⟩
   clear hf5
   subst hrest
   walk_at "go"
   exact q w ls' H6 kp6 hw (by rw [e1.1];exact hw6) (by rw [e1.1]) (by rw [e1.1];exact hr6)
 · rw [if_pos (by rw [hleft];omega)]
   clear hrest
   refine ⟨_,fun σ' H7 h=>h,?_⟩
   have hLne:lyN ls'≠[]:=fun e=>hlt (by rw [e,N41.sm_nil];omega)
   obtain ⟨⟨dx6,ho6⟩,hd6,hnd6⟩:=id hr6.shf
   obtain ⟨x6,ex6,hd6'⟩:=id hr6.h
   obtain ⟨dq,fs,hoq,hfq⟩:=id hd6'.o
   have hec:=hfq.m (Str.ofString "choice") (by simp)
   clear hleft ho hd hnd hr5 hw5 kp5 sm6
   walk_at "go"
   refine ⟨dq,_,hoq,hec,dx6,_,ho6,by rfl,_,_,_,_,hr6.shf,fun l hl=>?_⟩
   have sml:Same H6 (upd H6 l (.lst ((lyN ls').map V.str))):=Same.new hl
   have hl7:upd H6 l (.lst ((lyN ls').map V.str)) l=some (.lst ((lyN ls').map V.str)):=upd_same
   have nl:=hr6.free hl
   have hr7:=hr6.same sml
   have hw7:=sml _ _ hw6
   have kp7:=kp6.trans (Kp.of sml)
   generalize upd H6 l (.lst ((lyN ls').map V.str))=H7 at hr7 hw7 kp7 hl7 ⊢
   clear hr6 hw6 kp6 hoq ho6 hd6 hnd6 sml hl hec hd6' ex6 hfq
   obtain ⟨hf,hm8⟩:lst1 s'.f s'.ks∈lyN ls'∧DM U ts (ts.map (·.1)) z (goneS s' (lst1 s'.f s'.ks)) ((lyN ls').erase (lst1 s'.f s'.ks)):=(TD Z0 U ts).i_pick (n:=n) hm5 hLne
   have hcn6:(goneS s' (lst1 s'.f s'.ks)).rs.length≤300:=by rw [goneS_len];exact hcn5
   have hzks:=hm5.i.pm.mem_iff.mpr hf
   obtain ⟨x7,ex7,hd7⟩:=id hr7.h
   have hUn:=hm5.i.u
   refine ⟨p,n,U,x7,s',hd7,hUn.p,hUn.b,List.ne_nil_of_mem hzks,fun H8 sm8=>?_⟩
   have hr8:=hr7.same sm8
   have hw8:=sm8 _ _ hw7
   have kp08:=kp7.trans (Kp.of sm8)
   have hfin':gf (TD Z0 U ts) (rm ts) n need s (lyN ls) []=gf (TD Z0 U ts) (rm ts) n need (goneS s' (lst1 s'.f s'.ks)) ((lyN ls').erase (lst1 s'.f s'.ks)) (wl++[lst1 s'.f s'.ks])∧True:=⟨hf5.trans (gf_go (T:=TD Z0 U ts) hlt hf),trivial⟩
   clear hf5 hr7 hw7 kp7 sm8 hl7 ex7 hd7
   obtain ⟨⟨dx8,ho8⟩,hd8,hnd8⟩:=id hr8.shf
   rename_i rest2 hrest2
   subst hrest2
   walk_at "go"
   refine ⟨dx8,_,ho8,by rfl,_,_,_,_,hr8.shf,hf,fun H9 sb9 hs9=>?_⟩
   have hr9:=hr8.shelf sb9 hs9 hr8.ok.drop
   have hw9:=sb9 _ _ hw8 nwd
   obtain ⟨x9,ex9,hd9'⟩:=id hr9.h
   obtain ⟨dq9,fs9,hoq9,hf9⟩:=id hd9'.o
   have hbd:Bd (s'.rs.getLastD 0+(s'.f (lst1 s'.f s'.ks) - s'.r)):=by
    obtain ⟨c1,c2⟩:=hm5.i.lo.c _ hzks
    obtain ⟨pre,u,he,hpl⟩:=split_last (us:=s'.rs) (n:=s'.rs.length - 1) (by have:=hm5.n;omega)
    have hsm:=hm5.i.sm
    have hu:=hm5.i.nn u (by rw [he];simp)
    have hpre:=sum_nn (T:=pre) fun t ht=>hm5.i.nn t (by rw [he];exact List.mem_append_left _ ht)
    rw [he,List.sum_append]at hsm
    rw [he,List.getLastD_concat]
    simp only [List.sum_cons,List.sum_nil]at hsm
    have hb:(s'.rs.length:Int) * 10 ^ 210≤300 * 10 ^ 210:=Int.mul_le_mul_of_nonneg_right (by omega) (by decide+kernel)
    have hb2:(300:Int) * 10 ^ 210≤10 ^ 230:=by decide+kernel
    exact ⟨by omega,by omega⟩
   have hnames:=lyD_names (z:=(lst1 s'.f s'.ks)) hr8.ok.nd
   rename_i rest2 hrest2
   subst hrest2
   walk_at "go"
   refine ⟨dq9,_,hoq9,hf9.m _ (by simp),p,n,U,x9,s',hd9',hUn.p,hUn.b,hzks,hm5.n,hbd,fun ra H10 kp10 hd10=>?_⟩
   rw [ex9]at kp10
   have hh10:AtD Z0 U H10 M q' p n (goneS s' (lst1 s'.f s'.ks)):=⟨{x9 with rp:=ra},ex9,hd10⟩
   have hr10:=hr9.rule kp10 hh10
   have hw10:=kp10 _ _ nwm hw9
   have kp010:Kp (d::M) H H10:=(kp08.trans (kp_of_but sb9 (by simp))).trans (kp_cons kp10)
   clear hr8 hs9 hh10 sb9 kp10 hw8 hw9 kp08 hd8 hnd8 ho8 hoq9 hr9 hd9' hf9 ex9 hd10 hbd hUn hzks
   have hel:=List.length_erase_of_mem hf
   have hlp:0 < (lyN ls').length:=List.length_pos_of_mem hf
   have hll5:(lyN ls').length=ls'.length∧True:=⟨by unfold lyN;rw [List.length_map],trivial⟩
   have hll6:(lyD ls' (lst1 s'.f s'.ks)).length+1≤ls'.length:=by
    have e:(lyN (lyD ls' (lst1 s'.f s'.ks))).length=(lyD ls' (lst1 s'.f s'.ks)).length:=by unfold lyN;rw [List.length_map]
    rw [hnames]at e
    omega
   rw [← hnames]at hm8 hfin'
   rename_i rest2 hrest2
   subst hrest2
   walk_at "go"
   generalize hfe:lst1 s'.f s'.ks=f at hf hm8 hfin' hnames hel hr10 hll6 hcn6 ⊢
   have hwl:(wl++[f]).length=wl.length+1:=by rw [List.length_append];rfl
   refine ⟨.inl ⟨rfl,_,SqL.of hw10⟩,w,_,_,rfl,rfl,hw10,by rw [List.length_map];omega,(lyD ls' f).length,by omega,kp_new kp010 hw,lyD ls' f,_,wl++[f],by rw [upd_same,List.map_append];rfl,hr10.lst (fun b o e nb=>by rw [upd_ne nb];exact e) hw10 nwm nw0,hm8,hfin'.1,by omega,hcn6,rfl⟩
theorem Z9k{f:Addr}{fd:FuncData}(F:Fun K "row_of" "row_of" Z4p f fd)(T:Txt K mg Z3 Z4 Z7 Z2 Z8 Z6 Z1 Z5 Z9 Z0)(Z1q:DefM P w K mg base (CXF P w) 6 Z0 "asked" ["self","name"] (sp57_asked K Z0 Z1))(Zl:DefM P w K mg base (CXF P w) 1 Z5 "holds" ["self","name"] (sp_holds Z5))(Z2b:Def P w K mg base (CXF P w) 8 "make_room" ["rule","shelf","room"] (sp58_room Z0 K Z1 Z5))(Zb:DefM P w K mg base (CXF P w) 2 Z1 "room_of" ["self","name"] (sp32_room K Z1))(Z2c:DefM P w K mg base (CXF P w) 4 Z5 "put" ["self","name"] (sp_putG K Z1 Z5))(Z2d:DefM P w K mg base (CXF P w) 6 Z0 "came" ["self","name"] (sp57_owe K Z0 Z1)):FnOk P w K mg base (CXF P w) 9 f fd ["rule","shelf","name"] (sp58_row Z0 K Z1 Z5):=by
 have sc:FnScope ["rule","shelf","name","went"] ["rule","shelf","name"] (defScope Z4p):=by walk_at "sc"
 refine F.okF sc (fun vs H Q E h=>?_) (fun cdv A outer s H vs Q E hr h=>?_)
 · obtain ⟨_,_,_,_,_,_,_,_,_,_,_,_,rfl,_⟩:=h;rfl
 obtain ⟨H0,q',p,sh,d,M,n,U,ts,ls,s,z,rfl,hr',hi,nd,htl,hz,hzn,hcn,q⟩:=h
 refine ⟨_,(@pss_cons _ _ _ _ _ (ps_expr (pe_methS Z1q T.Za hr (passS pass_onF) (pv 0) (pa_cons (pv 2) pa_nil)))
  (@pss_cons _ _ _ _ _ (ps_if (pt_val (pe_methS Zl T.Zg hr (passS pass_onF) (pv 1) (pa_cons (pv 2) pa_nil)))
   (@pss_one _ _ _ (@ps_ret _ _ _ _ (pe_tup (pa_cons (pv 2) (pa_cons pe_bl (pa_cons (@pe_lst _ _ _ _ pa_nil) pa_nil))))))
   pss_nil)
  (@pss_cons _ _ _ _ _ (ps_set (i:=3) sc.nd rfl (Or.inl rfl) (pe_callD Z2b hr rfl pass_onF (pa_cons (pv 0) (pa_cons (pv 1) (pa_cons (pe_methS Zb T.Zm hr (passS pass_onF) (pe_fld (pv 1) rfl) (pa_cons (pv 2) pa_nil)) pa_nil)))))
  (@pss_cons _ _ _ _ _ (ps_expr (pe_methS Z2c T.Zg hr (passS pass_onF) (pv 1) (pa_cons (pv 2) pa_nil)))
  (@pss_cons _ _ _ _ _ (ps_expr (pe_methS Z2d T.Za hr (passS pass_onF) (pv 0) (pa_cons (pv 2) pa_nil)))
  (@pss_one _ _ _ (@ps_ret _ _ _ _ (pe_tup (pa_cons (pv 2) (pa_cons pe_bl (pa_cons (pv 3) pa_nil))))))))))),?_⟩
 walk_at "st"
 have line:=line_val
 obtain ⟨x0,ex0,hd0⟩:=id hr'.h
 obtain ⟨dq,fs,hoq,hf0⟩:=id hd0.o
 obtain ⟨hsk,hskp⟩:=hr'.stk
 have hUn:=hi.u
 have hrb:s.r≤10 ^ 229:=by
  have h1:=hi.lo.b
  have hb:(s.rs.length:Int) * 10 ^ 210≤300 * 10 ^ 210:=Int.mul_le_mul_of_nonneg_right (by omega) (by decide+kernel)
  have hb2:(300:Int) * 10 ^ 210≤10 ^ 229:=by decide+kernel
  omega
 walk_at "go"
 refine ⟨dq,_,hoq,hf0.m _ (by simp),p,n,U,x0,s,hd0,ts,hsk,(fun H' k=>hskp H' (by rw [← ex0];exact k)),nd,hz,hUn,by omega,hrb,fun H1 kp1 hd1=>?_⟩
 rw [ex0]at kp1
 have hh1:AtD Z0 U H1 M q' p n (askS U ts s z):=⟨x0,ex0,hd1⟩
 have hr1:=hr'.rule kp1 hh1
 obtain ⟨⟨dx,ho⟩,hd,hnd⟩:=id hr1.shf
 have fresh:∀b,H1 b=none→H b=none:=fun b e=>kp_none kp1 (fun hm=>hr1.free e (List.mem_cons_of_mem _ hm)) e
 have hlsl:(lyN ls).length≤60:=by
  have:=N25.nd_len hr1.ok.nd hr1.ok.s
  rw [List.length_map]at this
  omega
 clear hoq hf0 hsk hskp
 rename_i rest hrest
 subst hrest
 walk_at "go"
 refine ⟨dx,_,ho,by rfl,_,_,_,_,hr1.shf,?_⟩
 by_cases hzL:z∈lyN ls
 · have e:gask (TD Z0 U ts) (rm ts) n (s,lyN ls) z=((askS U ts s z,lyN ls),(z,true,[])):=by unfold gask;rw [if_pos hzL]
   rw [if_pos hzL]
   rw [e]at q
   refine ⟨by omega,fun g hg=>⟨by omega,fun t ht=>?_⟩⟩
   have s1:Same H1 (upd H1 g (.lst [])):=Same.new hg
   have k1:upd H1 g (.lst []) g=some (.lst (([]:List Str).map V.str)):=upd_same
   generalize upd H1 g (.lst [])=H2 at s1 k1 ht ⊢
   have s2:Same H2 (upd H2 t (.tup [V.str z,V.bl true,V.ref g])):=Same.new ht
   exact q t g ls _ (kp_cons (kp1.trans (Kp.of (s1.trans s2)))) (fresh t (same_none s1 ht)) (fresh g hg) upd_same (s2 _ _ k1) rfl (hr1.same (s1.trans s2))
 rw [if_neg hzL]
 have eh:gask (TD Z0 U ts) (rm ts) n (s,lyN ls) z=(((TD Z0 U ts).came n (gf (TD Z0 U ts) (rm ts) n (rm ts z) (askS U ts s z) (lyN ls) []).1 z,(gf (TD Z0 U ts) (rm ts) n (rm ts z) (askS U ts s z) (lyN ls) []).2.1++[z]),(z,false,(gf (TD Z0 U ts) (rm ts) n (rm ts z) (askS U ts s z) (lyN ls) []).2.2)):=by unfold gask;rw [if_neg hzL]
 rw [eh]at q
 clear eh
 have hm1:DM U ts (ts.map (·.1)) z (askS U ts s z) (lyN ls):=(TD Z0 U ts).i_mid (n:=n) hi hz hzL
 obtain ⟨hI,hne,hsub,hnd2,hwl⟩:=gf_pos (T:=TD Z0 U ts) (R:=rm ts) (n:=n) (need:=rm ts z) _ _ _ [] rfl hm1 hzn
 obtain ⟨dy,e,kvs,h1,h2,h3,h4,h5⟩:=StockAt.has hr1.x.at
 rename_i rest hrest
 subst hrest
 walk_at "go"
 refine ⟨Z5,dx,_,ho,T.Zg,T.Zs,_,sfl_stock,_,rfl,dy,flds e,h1,by rfl,_,rfl,ts,hr1.x.at,nd,hz,H0,p,d,M,n,U,ts,ls,_,hr1,z,hm1,hzn,by unfold lyN at hlsl;rw [List.length_map]at hlsl;exact hlsl,htl,by rw [askS_len];omega,fun g ls2 H2 kp2 hg hg2 hln2 hr2=>?_⟩
 obtain ⟨⟨dx2,ho2⟩,hd2,hnd2'⟩:=id hr2.shf
 have kp02:Kp (d::M) H H2:=(kp_cons kp1).trans kp2
 have ngo:=hr1.free hg
 have ngd:g≠d:=fun h=>ngo (by rw [h];simp)
 have ngm:g∉M:=fun h=>ngo (List.mem_cons_of_mem _ h)
 have hnl:z∉lyN ls2:=fun h=>hzL (hsub z (by rw [← hln2];exact h))
 have hlen2:ls2.length≤60:=by
  have e1:(lyN ls2).length=ls2.length:=by unfold lyN;rw [List.length_map]
  rw [hln2]at e1
  omega
 have hleft2:=hr2.left
 rw [hln2]at hleft2
 have hcnt:(gf (TD Z0 U ts) (rm ts) n (rm ts z) (askS U ts s z) (lyN ls) []).1.rs.length≤300:=Nat.le_trans (gfin_cnt (T:=TD Z0 U ts) (R:=rm ts) (n:=n) (need:=rm ts z) (lyN ls).length (askS U ts s z) (lyN ls) []) (by show (askS U ts s z).rs.length≤300;rw [askS_len];omega)
 generalize gf (TD Z0 U ts) (rm ts) n (rm ts z) (askS U ts s z) (lyN ls) []=F at hr2 hg2 q hne hI hleft2 hln2 hcnt
 obtain ⟨s2,l2,w2⟩:=F
 simp only at hr2 hg2 q hne hI hleft2 hln2 hcnt
 clear hr1 hh1 kp1 h1 h2 h3 h4 h5 ho hd hnd hsub hnd2 hwl
 rename_i rest hrest
 subst hrest
 walk_at "go"
 refine ⟨dx2,_,ho2,by rfl,_,_,_,_,hr2.shf,ts,hr2.x,nd,by omega,hz,rm ts z,fun t ht e=>?_,hnl,by omega,fun H3 sb3 hs3=>?_⟩
 · obtain ⟨i,hi'⟩:=List.getElem?_of_mem ht
   rw [← e,rm_at nd hi']
 have hr3:=hr2.shelf sb3 hs3 (hr2.ok.put hnl hz)
 obtain ⟨x3,ex3,hd3⟩:=id hr3.h
 obtain ⟨dq3,fs3,hoq3,hf3⟩:=id hd3.o
 obtain ⟨hsk3,hskp3⟩:=hr3.stk
 have hg3:=sb3 _ _ hg2 ngd
 have hl3:lyN (ls2++[(z,rm ts z)])=l2++[z]∧True:=⟨by unfold lyN at hln2 ⊢;rw [List.map_append,hln2];rfl,trivial⟩
 rw [hln2]at hnl
 rename_i rest hrest
 subst hrest
 walk_at "go"
 have hI':DM U ts (ts.map (·.1)) z s2 l2:=hI
 have hks2:z∉s2.ks:=fun k=>hnl (hI'.i.pm.mem_iff.mp k)
 have hkl2:s2.ks.length < 100:=by
  have h1:=N25.nd_len hI'.i.nd hI'.i.kn
  rw [List.length_map]at h1
  omega
 have hrb2:s2.r≤10 ^ 229:=by
  have h1:=hI'.i.lo.b
  have hb:(s2.rs.length:Int) * 10 ^ 210≤300 * 10 ^ 210:=Int.mul_le_mul_of_nonneg_right (by omega) (by decide+kernel)
  have hb2:(300:Int) * 10 ^ 210≤10 ^ 229:=by decide+kernel
  omega
 refine ⟨dq3,_,hoq3,hf3.m _ (by simp),p,n,U,x3,s2,hd3,ts,hsk3,nd,hz,hks2,hUn,hkl2,hrb2,fun H4 kp4 hd4=>?_⟩
 rw [ex3]at kp4
 have hh4:AtD Z0 U H4 M q' p n ((TD Z0 U ts).came n s2 z):=⟨x3,ex3,hd4⟩
 have hr4:=hr3.rule kp4 hh4
 have hg4:=kp4 _ _ ngm hg3
 have kp04:Kp (d::M) H H4:=(kp02.trans (kp_of_but sb3 (by simp))).trans (kp_cons kp4)
 rename_i rest hrest
 subst hrest
 walk_at "go"
 intro t ht
 exact q t g _ _ (kp04.trans (Kp.of (Same.new ht))) (kp_none kp04 (hr4.free ht) ht) (fresh g hg) upd_same (Same.new ht _ _ hg4) hl3.1 (hr4.same (Same.new ht))
theorem Z7r{f:Addr}{fd:FuncData}(F:Fun K "book_of" "book_of" Z44 f fd)(T:Txt K mg Z3 Z4 Z7 Z2 Z8 Z6 Z1 Z5 Z9 Z0)(Z1r:Def P w K mg base (CXF P w) 5 "check_asks" ["stock","asks","places"] (sp13_asks K Z1 Z2 Z8 Z4 Z7))(Z1s:DefI P w K mg base (CXF P w) 4 "Shelf" Z5 ["self","stock","places"] (sp_sinit Z5))(Z4x:Def P w K mg base (CXF P w) 9 "row_of" ["rule","shelf","name"] (sp58_row Z0 K Z1 Z5)):FnOk P w K mg base (CXF P w) 10 f fd ["rule","asks"] (sp56_book Z0 K Z1 Z5 Z4):=by
 have sc:FnScope ["rule","asks","shelf"] ["rule","asks"] (defScope Z44):=by walk_at "sc"
 refine F.okF sc (fun vs H Q E h=>?_) (fun cdv A outer s H vs Q E hr h=>?_)
 · obtain ⟨_,_,rfl,_⟩:=h;rfl
 obtain ⟨q',a,rfl,hb⟩:=h
 refine ⟨_,(@pss_cons _ _ _ _ _ (ps_expr (pe_callD Z1r hr rfl pass_onF (pa_cons (pe_fld (pv 0) rfl) (pa_cons (pv 1) (pa_cons (pe_fld (pv 0) rfl) pa_nil)))))
  (@pss_cons _ _ _ _ _ (ps_set (i:=2) sc.nd rfl (Or.inr rfl) (pe_makeS Z1s hr rfl (passS pass_onF) (pa_cons (pe_fld (pv 0) rfl) (pa_cons (pe_fld (pv 0) rfl) pa_nil))))
  (@pss_one _ _ _ (@ps_ret _ _ _ _ (pe_comp1 "name" [0,2] rfl rfl (pi_list (pv 1)) (fun b=>(pe_callD Z4x hr rfl pass_noF (pa_cons (pv 1) (pa_cons (pv 2) (pa_cons (pv 0) pa_nil)))))))))),?_⟩
 walk_at "st"
 have line:=line_val
 rcases hb with ⟨H0,q2,p,a2,M,n,U,ts,ys,s0,e0,hh,hi0,hsto,sm0,hm0,nd,htl,ha,ham,hlen,hin,hrm,hn1,hn2,hc0,q⟩ | ⟨p,M,n,U,ts,ys,s0,z,hh,hsto,nd,ha,hlen,hin,hrm,hz,hn1,hn2,qe⟩
 · cases e0
   obtain ⟨x0,ex0,hd0'⟩:=id hh
   obtain ⟨dq,fs,hoq,hf0⟩:=id hd0'.o
   have hst_:=hf0.st
   have hpl_:=hf0.pl
   walk_at "go"
   refine ⟨Z0,dq,_,hoq,T.Za,T.Zk,_,hst_,Z0,dq,_,hoq,T.Za,T.Zo,_,hpl_,p,rfl,ts,hsto.same sm0,nd,ys,ha,by omega,N53.NumV.flat rfl,?_⟩
   rw [fine_ask hn1 hn2 hlen hin hrm]
   refine ⟨fun hfi H1 sm1=>?_,fun h=>by (cases h),fun h=>by (cases h),fun _ _ h=>by (cases h),fun _ _ h=>by cases h⟩
   clear hfi
   have hh1:=hh.same sm1
   have ha1:=sm1.seq ha
   obtain ⟨x1,ex1,hd1'⟩:=id hh1
   obtain ⟨dq1,fs1,hoq1,hf1⟩:=id hd1'.o
   have hst1:=hf1.st
   have hpl1:=hf1.pl
   clear hd1' hd0' hf0 hf1 ex0 ex1
   clear hoq hst_ hpl_
   rename_i rest hrest
   subst hrest
   walk_at "go"
   refine ⟨Z0,dq1,_,hoq1,T.Za,T.Zk,_,hst1,Z0,dq1,_,hoq1,T.Za,T.Zo,_,hpl1,fun sh dx hsh hdx hne=>⟨dx,p,rfl,n,rfl,upd_same,hn1,hn2,fun H2 d sb hdn hs2=>?_⟩⟩
   have sm2:=new_same hsh hdx sb
   have hd0:=new_none hdn
   have hd1:H0 d=none:=same_none (sm0.trans sm1) hd0
   have nsh:sh∉M:=fun h=>hh1.live _ h hsh
   have ndm:d∉M:=fun h=>hh1.live _ h hd0
   have hr2:RunD Z0 U K Z1 Z5 H0 H2 q' p sh d M n ts [] s0:=⟨hh1.same sm2,hs2,hsto,(sm0.trans sm1).trans sm2,hm0,hd1,nsh,ndm,OkL.nil⟩
   have ha2:=sm2.seq ha1
   clear hdn sb hdx hsh hne hh1 hoq1 hs2 hst1 hpl1
   rename_i rest hrest
   subst hrest
   walk_at "go"
   refine ⟨⟨_,ha2⟩,?_⟩
   have kpM:∀{H':Hp},Kp (d::M) H2 H'→Kp M H1 H':=fun {H'} k b o nb e=>k b o (fun hm=>by
    rcases List.mem_cons.mp hm with e1 | e1
    · rw [e1,hd0]at e;cases e
    · exact nb e1) (sm2 _ _ e)
   refine comp_by ys.length fun b D hD=>⟨fun i zs H'=>∃(as gs:List Addr) (ls':Ly),zs=as.map V.ref∧as.length=i∧gs.length=i∧i≤ys.length∧H' D=some (.lst zs)∧Kp (d::M) H2 H'∧lyN ls'=(gst (TD Z0 U ts) (rm ts) n s0 ys i).2∧RunD Z0 U K Z1 Z5 H0 H' q' p sh d M n ts ls' (gst (TD Z0 U ts) (rm ts) n s0 ys i).1∧∀(j:Nat) a g,as[j]?=some a→gs[j]?=some g→a∉d::M∧g∉d::M∧a≠D∧g≠D∧H' a=some (.tup [.str (grow (TD Z0 U ts) (rm ts) n s0 ys j).1,.bl (grow (TD Z0 U ts) (rm ts) n s0 ys j).2.1,.ref g])∧H' g=some (.lst ((grow (TD Z0 U ts) (rm ts) n s0 ys j).2.2.map V.str)),⟨[],[],[],rfl,rfl,rfl,Nat.zero_le _,upd_same,Kp.of (Same.new hD),rfl,hr2.same (Same.new hD),by simp⟩,?_,?_,?_⟩
   · rintro i zs H' ⟨as,gs,ls',_,_,_,_,h,_⟩
     exact h
   · rintro zs H' ⟨as,gs,ls',rfl,e1,e2,_,hDD,kp,hln,hr3,hall⟩
     have ha3:=SqL_kp ha1 (kpM kp) ham
     refine ⟨⟨_,ha3,by rw [List.length_map];exact Nat.le_refl _⟩,?_⟩
     have hrl:=grows_len (T:=(TD Z0 U ts)) (R:=rm ts) (n:=n) (s0:=s0) (ys:=ys) (i:=ys.length)
     have hra:∀j,j < ys.length→(grows (TD Z0 U ts) (rm ts) n s0 ys ys.length)[j]?=some (grow (TD Z0 U ts) (rm ts) n s0 ys j):=fun j hj=>by unfold grows;rw [List.getElem?_map,List.getElem?_range hj];rfl
     refine q D as gs H' ((Kp.of sm1).trans (kpM kp)) hDD (fun i a hi=>?_) ⟨SqL.of hDD,by rw [e1,hrl],by rw [e2,hrl],fun i a g r h1 h2 h3=>?_⟩ hr3.h
     · have hil:i < as.length:=(List.getElem?_eq_some_iff.mp hi).1
       obtain ⟨_,_,_,_,k1,_⟩:=hall i a _ hi (List.getElem?_eq_getElem (show i < gs.length by omega))
       exact ⟨_,k1⟩
     · have hil:i < as.length:=(List.getElem?_eq_some_iff.mp h1).1
       obtain ⟨_,_,_,_,k1,k2⟩:=hall i a g h1 h2
       rw [hra i (by omega)]at h3
       cases h3
       exact ⟨SqT.of k1,SqL.of k2⟩
   · rintro i zs H' hi ⟨as,gs,ls',rfl,e1,e2,_,hDD,kp,hln,hr3,hall⟩
     have ha3:=SqL_kp ha1 (kpM kp) ham
     have hz:=List.getElem?_eq_getElem hi
     generalize ys[i]'hi=z at hz
     refine ⟨⟨_,V.str z,ha3,by rw [List.getElem?_map,hz];rfl⟩,fun x H3 ⟨e3,ex⟩=>?_⟩
     subst e3
     have hx:=ex _ ha3
     rw [List.getElem?_map,hz]at hx
     cases hx
     have hsi:=gst_inv (T:=TD Z0 U ts) (R:=rm ts) hi0 hin hrm i (by omega)
     have hzm:=List.mem_of_getElem? hz
     have e1':=Nat.le_of_eq e1
     have e1'':=Nat.le_of_eq e1.symm
     have e2':=Nat.le_of_eq e2
     have e2'':=Nat.le_of_eq e2.symm
     clear e1 e2
     have hrowi:=grow_at (T:=(TD Z0 U ts)) (R:=rm ts) (n:=n) (s0:=s0) hz
     have hss:=gst_succ (T:=(TD Z0 U ts)) (R:=rm ts) (n:=n) (s0:=s0) hz
     have hpair:(gst (TD Z0 U ts) (rm ts) n s0 ys i)=((gst (TD Z0 U ts) (rm ts) n s0 ys i).1,lyN ls')∧True:=⟨by rw [hln],trivial⟩
     walk_at "go"
     refine ⟨H0,p,d,M,n,U,ts,ls',_,hr3,by rw [hln];exact hsi.i,nd,htl,hin z hzm,hrm z hzm,Nat.le_trans (gst_cnt (T:=TD Z0 U ts) (R:=rm ts) (n:=n) (s0:=s0) (ys:=ys) i (by omega)) (by show s0.rs.length+i≤299;omega),fun t g ls2 H4 kp4 ht hg ht4 hg4 hln4 hr4=>?_⟩
     rw [← hpair.1]at ht4 hg4 hln4 hr4
     have hD3:D∉d::M:=hr2.free hD
     have hDD4:=kp4 _ _ hD3 hDD
     have htD:t≠D:=fun e=>by rw [e,hDD]at ht;cases ht
     have hgD:g≠D:=fun e=>by rw [e,hDD]at hg;cases hg
     refine compNext hDD4 (by rw [List.length_map];omega) hi ⟨as++[t],by rw [List.map_append];rfl,by rw [List.length_append];simp only [List.length_cons,List.length_nil];omega,gs++[g],by rw [List.length_append];simp only [List.length_cons,List.length_nil];omega,hi,upd_same,kp_new (kp.trans kp4) hD,ls2,by rw [hss];exact hln4,?_,fun j a' g' h1 h2=>?_⟩
     · rw [hss]
       exact hr4.lst (fun b o e nb=>by rw [upd_ne nb];exact e) hDD4 (fun h=>hD3 (List.mem_cons_of_mem _ h)) (same_none hr2.sm hD)
     · rcases at_snoc h1 with ⟨l1,c1⟩ | ⟨l1,c1⟩
       · rcases at_snoc h2 with ⟨l2,c2⟩ | ⟨l2,c2⟩
         · obtain ⟨n1,n2,n3,n4,k1,k2⟩:=hall j a' g' c1 c2
           refine ⟨n1,n2,n3,n4,?_,?_⟩
           · rw [upd_ne n3];exact kp4 _ _ n1 k1
           · rw [upd_ne n4];exact kp4 _ _ n2 k2
         · omega
       · rcases at_snoc h2 with ⟨l2,c2⟩ | ⟨l2,c2⟩
         · omega
         · rw [c1,c2,show j=i by omega,hrowi]
           refine ⟨hr3.free ht,hr3.free hg,htD,hgD,?_,?_⟩
           · rw [upd_ne htD];exact ht4
           · rw [upd_ne hgD];exact hg4
 · have hu:=unk_ask hn1 hn2 hlen hin hrm hz
   obtain ⟨x0,ex0,hd0'⟩:=id hh
   obtain ⟨dq,fs,hoq,hf0⟩:=id hd0'.o
   walk_at "go"
   refine ⟨Z0,dq,_,hoq,T.Za,T.Zk,_,hf0.st,Z0,dq,_,hoq,T.Za,T.Zo,_,hf0.pl,p,rfl,ts,hsto,nd,ys++[z],ha,by rw [List.length_append];simp only [List.length_cons,List.length_nil];omega,N53.NumV.flat rfl,?_⟩
   rw [hu]
   exact ⟨fun h=>by (cases h),fun h=>by (cases h),fun h=>by (cases h),fun z' i' e H' y sm hy er=>by (cases e;exact qe H' y sm hy er),fun z' i' e=>by cases e⟩
theorem Z9l{f:Addr}{fd:FuncData}(F:Fun K "_law_cell" "_law_cell" Z4q f fd)(T:Txt K mg Z3 Z4 Z7 Z2 Z8 Z6 Z1 Z5 Z9 Z0):FnOk P w K mg base (CXF P w) 1 f fd ["_law_script","_law_k"] (sp_cell K):=by
 have sc:FnScope ["_law_script","_law_k"] ["_law_script","_law_k"] (defScope Z4q):=by walk_at "sc"
 refine F.okF sc (fun vs H Q E h=>?_) (fun cdv A outer s H vs Q E hr h=>?_)
 · obtain ⟨_,_,_,rfl,_⟩:=h;rfl
 obtain ⟨a,ns,k,rfl,hS,h0,hl,q⟩:=h
 refine ⟨_,(@pss_cons _ _ _ _ _ (ps_if (pt_cmpR op_lt (pv 1) (pe_callB call_len_seq rfl T.Zy PySem.boot_len (pa_cons (pv 0) pa_nil)) (nomark _))
  (@pss_one _ _ _ (@ps_ret _ _ _ _ (@pe_ix _ _ _ _ _ _ _ ix_list (pv 0) (pv 1) (fun _ _=>rfl))))
  pss_nil)
  (@pss_one _ _ _ (@ps_ret _ _ _ _ pe_int))),?_⟩
 walk_at "st"
 walk_at "go"
 rw [List.length_map]
 split
 · rename_i hk
   exact ixL_of hS (atI_of h0 (getMap (by omega))) q
 · rename_i hk
   rw [List.getD_eq_getElem?_getD,List.getElem?_eq_none (by omega)]at q
   walk_at "go"
   exact q
theorem Z6j{f:Addr}{fd:FuncData}(F:Fun K "_law_stream" "_law_stream" Z33 f fd)(T:Txt K mg Z3 Z4 Z7 Z2 Z8 Z6 Z1 Z5 Z9 Z0):FnOk P w K mg base (CXF P w) 1 f fd ["_law_cell_here","_law_many"] (sp20_stream):=by
 have sc:FnScope ["_law_cell_here","_law_many","_law_found","_law_number","_law_k"] ["_law_cell_here","_law_many"] (defScope Z33):=by walk_at "sc"
 refine F.okF sc (fun vs H Q E h=>?_) (fun cdv A outer s H vs Q E hr h=>?_)
 · obtain ⟨_,_,rfl,_⟩:=h;rfl
 obtain ⟨c,m,rfl,hm,q⟩:=h
 refine ⟨_,(@pss_cons _ _ _ _ _ (ps_set (i:=2) sc.nd rfl (Or.inl rfl) (@pe_lst _ _ _ _ pa_nil))
  (@pss_cons _ _ _ _ _ (ps_set (i:=3) sc.nd rfl (Or.inl rfl) (pe_op op_add (pe_op op_mod (pv 0) pe_int) pe_int))
  (@pss_cons _ _ _ _ _ (ps_for own_outF rfl (pi_range1 rfl T.Z0b (pa_cons (pv 1) pa_nil)) (pg_name (i:=4) sc.nd rfl (Or.inl rfl))
   (@pss_cons _ _ _ _ _ (ps_set (i:=3) sc.nd rfl (Or.inl rfl) (pe_op op_mod (pe_op op_add (pe_op op_add (pe_op op_mul (pv 3) pe_int) (pe_op op_mul pe_int (pv 4))) pe_int) pe_int))
   (@pss_one _ _ _ (ps_expr (pe_bm PySem.F.plainAttrs_list PySem.F.slot_list_append PySem.F.type_list_append mt_append (pv 2) (pa_cons (pe_op op_fdiv (pv 3) pe_int) pa_nil))))))
  (@pss_one _ _ _ (@ps_ret _ _ _ _ (pv 2)))))),?_⟩
 walk_at "st"
 have line:=line_val
 have hx0:=Int.emod_nonneg c (show (2147483629:Int)≠0 by decide)
 have hx1:=Int.emod_lt_of_pos c (show (0:Int) < 2147483629 by decide)
 walk_at "go"
 intro p hp
 rename_i rest hrest
 subst hrest
 walk_at "go"
 refine forR_by (fun k σ H'=>∃(nu:Int) (v4:Option V) (xs:List Int),σ=[some (V.int c),some (V.int m),some (V.ref p),some (V.int nu),v4]∧0≤nu∧nu < 10 ^ 10∧H'=upd H p (.lst (xs.map V.int))∧xs.length≤k∧k≤xs.length∧∀x∈xs,0≤x) ⟨_,none,[],rfl,by omega,by omega,rfl,Nat.le_refl _,Nat.le_refl _,by simp⟩ ?_ ?_
 · rintro k σ H' hk ⟨nu,v4,xs,rfl,h0,h1,rfl,hl1,hl2,hxs⟩
   walk_at "go"
   have hy0:=Int.emod_nonneg (nu * 48271+7919 * (k:Int)+1) (show (2147483647:Int)≠0 by decide)
   have hy1:=Int.emod_lt_of_pos (nu * 48271+7919 * (k:Int)+1) (show (0:Int) < 2147483647 by decide)
   generalize (nu * 48271+7919 * (k:Int)+1) % 2147483647=u at hy0 hy1 ⊢
   refine ⟨.inl ⟨rfl,_,SqL.of upd_same⟩,cdiv_of (by decide) (by decide),p,_,_,rfl,rfl,upd_same,by rw [List.length_map];omega,by omega,by omega,xs++[u / 5],?_,by rw [List.length_append];simp only [List.length_cons,List.length_nil];omega,by rw [List.length_append];simp only [List.length_cons,List.length_nil];omega,fun x hx=>?_⟩
   · rw [upd_upd,List.map_append];rfl
   · rcases List.mem_append.mp hx with hx | hx
     · exact hxs x hx
     · rw [List.mem_singleton.mp hx];omega
 · rintro σ H' ⟨nu,v4,xs,rfl,h0,h1,rfl,hl1,hl2,hxs⟩
   walk_at "go"
   exact q p xs _ hp (Same.new hp) upd_same (by omega) hxs
theorem Z7s{f:Addr}{fd:FuncData}(F:Fun K "_law_names" "_law_names" Z45 f fd)(T:Txt K mg Z3 Z4 Z7 Z2 Z8 Z6 Z1 Z5 Z9 Z0):FnOk P w K mg base (CXF P w) 1 f fd ["_law_cell_here","_law_many"] (sp56_names):=by
 have sc:FnScope ["_law_cell_here","_law_many","_law_signs","_law_tail","_law_size","_law_at","_law_base","_law_names_here","_law_k","_law_sign"] ["_law_cell_here","_law_many"] (defScope Z45):=by walk_at "sc"
 refine F.okF sc (fun vs H Q E h=>?_) (fun cdv A outer s H vs Q E hr h=>?_)
 · obtain ⟨_,_,rfl,_⟩:=h;rfl
 obtain ⟨c,m,rfl,hm,q⟩:=h
 refine ⟨_,(@pss_cons _ _ _ _ _ (ps_set (i:=2) sc.nd rfl (Or.inr rfl) pe_str)
  (@pss_cons _ _ _ _ _ (ps_set (i:=3) sc.nd rfl (Or.inr rfl) (pe_bm PySem.F.plainAttrs_str PySem.F.slot_str_join PySem.F.type_str_join mt_join pe_str (pa_cons (pe_comp1 "_law_k" [2,0] rfl rfl (pi_range2 rfl T.Z0b (pa_cons pe_int (pa_cons pe_int pa_nil))) (fun b=>(@pe_ix _ _ _ _ _ _ _ ix_str (pv 1) (pe_op op_mod (pe_op op_add (pe_op op_fdiv (pv 2) pe_int) (pe_op op_mulH (pe_op op_mul pe_int (pv 0)) (pv 0))) pe_int) (fun _ _=>rfl)))) pa_nil)))
  (@pss_cons _ _ _ _ _ (ps_if (pt_cmpR op_eq (pe_op op_mod (pv 0) pe_int) pe_int (nomark _))
   (@pss_one _ _ _ (@ps_ret _ _ _ _ (pe_comp1 "_law_k" [2,3,0] rfl rfl (pi_range1 rfl T.Z0b (pa_cons (pv 1) pa_nil)) (fun b=>(pe_op op_add_str (@pe_ix _ _ _ _ _ _ _ ix_str (pv 1) (pe_op op_mod (pe_op op_add (pe_op op_fdiv (pv 3) pe_int) (pe_op op_fdiv (pv 0) pe_int)) pe_int) (fun _ _=>rfl)) (pe_slice sl_str (pv 2) po_none (po_some (pe_op op_mod (pv 0) pe_int))))))))
   pss_nil)
  (@pss_cons _ _ _ _ _ (ps_set (i:=4) sc.nd rfl (Or.inl rfl) (pe_op op_add pe_int (pe_op op_mod (pe_op op_fdiv (pv 0) pe_int) pe_int)))
  (@pss_cons _ _ _ _ _ (ps_set (i:=5) sc.nd rfl (Or.inl rfl) (pe_op op_mod (pe_op op_fdiv (pv 0) pe_int) (pv 4)))
  (@pss_cons _ _ _ _ _ (ps_set (i:=6) sc.nd rfl (Or.inl rfl) (pe_op op_add_str (@pe_ix _ _ _ _ _ _ _ ix_str (pv 2) (pe_op op_mod (pe_op op_fdiv (pv 0) pe_int) pe_int) (fun _ _=>rfl)) (pe_slice sl_str (pv 3) po_none (po_some (pe_op op_sub (pv 4) pe_int)))))
  (@pss_cons _ _ _ _ _ (ps_set (i:=7) sc.nd rfl (Or.inl rfl) (@pe_lst _ _ _ _ pa_nil))
  (@pss_cons _ _ _ _ _ (ps_for own_outF rfl (pi_range1 rfl T.Z0b (pa_cons (pv 1) pa_nil)) (pg_name (i:=8) sc.nd rfl (Or.inl rfl))
   (@pss_cons _ _ _ _ _ (ps_set (i:=9) sc.nd rfl (Or.inl rfl) (@pe_ix _ _ _ _ _ _ _ ix_str (pv 2) (pe_op op_mod (pe_op op_add (pe_op op_fdiv (pv 0) pe_int) (pv 8)) pe_int) (fun _ _=>rfl)))
   (@pss_one _ _ _ (ps_expr (pe_bm PySem.F.plainAttrs_list PySem.F.slot_list_append PySem.F.type_list_append mt_append (pv 7) (pa_cons (pe_op op_add_str (pe_op op_add_str (pe_op op_add_str (pe_slice sl_str (pv 6) po_none (po_some (pv 5))) (pv 9)) (pe_slice sl_str (pv 6) (po_some (pe_op op_add (pv 5) pe_int)) po_none)) (pe_slice sl_str pe_str po_none (po_some (pe_op op_fdiv (pv 8) pe_int)))) pa_nil))))))
  (@pss_one _ _ _ (@ps_ret _ _ _ _ (pv 7))))))))))),?_⟩
 walk_at "st"
 have line:=line_val
 have bl:=both_length
 walk_at "go"
 refine compR_pure (n:=7) (fun k=>V.str ⟨#[bc ((c / 36+5 * k * k) % 36)]⟩) (by omega) (fun b k H' Q' hk sm q'=>?_) fun D hD=>?_
 · walk_at "go"
   refine ⟨⟨by omega,by omega⟩,by decide,ixS_of (by omega) (ix_bc _ (by decide) (by decide)) q'⟩
 have etl:(List.range 7).map (fun i:Nat=>V.str ⟨#[bc ((c / 36+5 * (1+(i:Int)) * (1+(i:Int))) % 36)]⟩)=(((List.range 7).map fun j:Nat=>bc ((c / 36+5 * (1+(j:Int)) * (1+(j:Int))) % 36)).map fun c=>(⟨#[c]⟩:Str)).map V.str:=by
  rw [List.map_map,List.map_map];rfl
 rw [etl]
 clear etl
 have htl:((List.range 7).map fun j:Nat=>bc ((c / 36+5 * (1+(j:Int)) * (1+(j:Int))) % 36)).length=7∧True:=⟨by rw [List.length_map,List.length_range],trivial⟩
 have hnm1:∀k,nm1 (c / 4) (fun j:Nat=>c / 36+5 * (1+(j:Int)) * (1+(j:Int))) k=bc ((c / 4+k / 8) % 26)::((List.range 7).map fun j:Nat=>bc ((c / 36+5 * (1+(j:Int)) * (1+(j:Int))) % 36)).take (k % 8):=fun k=>rfl
 have hnd:((List.range m).map fun k=>tx (nm1 (c / 4) (fun j:Nat=>c / 36+5 * (1+(j:Int)) * (1+(j:Int))) k)).Nodup:=tx_nodup fun a b ha hb e=>nm1_inj (by omega) (by omega) e
 have hnn:∀k,nameB (nm1 (c / 4) (fun j:Nat=>c / 36+5 * (1+(j:Int)) * (1+(j:Int))) k)=true:=fun k=>nm1_name
 have htc:∀x∈(List.range 7).map (fun j:Nat=>bc ((c / 36+5 * (1+(j:Int)) * (1+(j:Int))) % 36)),x∈letters++figures:=fun x hx=>by
  obtain ⟨j,_,rfl⟩:=List.mem_map.mp hx
  exact bc_both
 have q1:c % 4=3→∀(p:Addr) (H':Hp),H p=none→Same H H'→H' p=some (.lst (((List.range m).map fun k=>tx (nm1 (c / 4) (fun j:Nat=>c / 36+5 * (1+(j:Int)) * (1+(j:Int))) k)).map V.str))→((List.range m).map fun k=>tx (nm1 (c / 4) (fun j:Nat=>c / 36+5 * (1+(j:Int)) * (1+(j:Int))) k)).Nodup→(∀y∈(List.range m).map fun k=>tx (nm1 (c / 4) (fun j:Nat=>c / 36+5 * (1+(j:Int)) * (1+(j:Int))) k),nameB y.cps.toList=true)→Q (.ref p) H':=fun hc p H' a1 a2 a3 a4 a5=>by
  have e0:nmL c m=(List.range m).map fun k=>tx (nm1 (c / 4) (fun j:Nat=>c / 36+5 * (1+(j:Int)) * (1+(j:Int))) k):=List.map_congr_left fun k _=>if_pos hc
  rw [← e0]at a3 a4 a5
  exact q p H' a1 a2 a3 a4 a5
 have q2:¬c % 4=3→∀(B:List Nat) (at' sz:Nat),1+c / 4 % 6=(sz:Int)→(at':Int)=c / 24 % (sz:Int)→B=[bc (c / 36 % 26)]++((List.range 7).map (fun j:Nat=>bc ((c / 36+5 * (1+(j:Int)) * (1+(j:Int))) % 36))).take (sz - 1)→∀(p:Addr) (H':Hp),H p=none→Same H H'→H' p=some (.lst (((List.range m).map fun k=>tx (nm3 B at' (c / 1296) k)).map V.str))→((List.range m).map fun k=>tx (nm3 B at' (c / 1296) k)).Nodup→(∀y∈(List.range m).map fun k=>tx (nm3 B at' (c / 1296) k),nameB y.cps.toList=true)→Q (.ref p) H':=fun hc B at' sz e1 e2 e3 p H' a1 a2 a3 a4 a5=>by
  have eB:nmB6 c=B:=by rw [e3];unfold nmB6;rw [e1,Int.toNat_natCast]
  have e0:nmL c m=(List.range m).map fun k=>tx (nm3 B at' (c / 1296) k):=List.map_congr_left fun k _=>by
   show nmF c k=_
   unfold nmF
   rw [if_neg hc,eB,e1,← e2,Int.toNat_natCast]
  rw [← e0]at a3 a4 a5
  exact q p H' a1 a2 a3 a4 a5
 clear q
 generalize nm1 (c / 4) (fun j:Nat=>c / 36+5 * (1+(j:Int)) * (1+(j:Int)))=N at hnm1 hnd hnn q1
 generalize (List.range 7).map (fun j:Nat=>bc ((c / 36+5 * (1+(j:Int)) * (1+(j:Int))) % 36))=tl at htl hnm1 htc q2 ⊢
 have hsum:((tl.map fun c=>(⟨#[c]⟩:Str)).map (·.length)).sum≤7:=by
  rw [List.map_map,show ((·.length)∘fun c=>(⟨#[c]⟩:Str))=fun _=>1 from rfl,List.map_const',htl.1]
  decide
 refine ⟨D,rfl,tl.map fun c=>(⟨#[c]⟩:Str),SqL.of upd_same,?_,?_⟩
 · have e0:(Str.ofString "").length=0:=by decide+kernel
   rw [e0];omega
 rw [N20.join_ones]
 have smD:Same H (upd H D (.lst ((tl.map fun c=>(⟨#[c]⟩:Str)).map V.str))):=Same.new hD
 generalize upd H D (.lst ((tl.map fun c=>(⟨#[c]⟩:Str)).map V.str))=H1 at smD ⊢
 clear hD hsum
 rename_i rest hrest
 subst hrest
 walk_at "go"
 split
 · rename_i hc3
   have hc3':c % 4=3:=by simpa using hc3
   walk_at "go"
   have hzl:(tx tl).length=7∧True:=⟨by rw [T_len];exact htl.1,trivial⟩
   refine compR_pure (fun k=>V.str (tx (N k.toNat))) (by omega) (fun b k H' Q' hk sm q'=>?_) fun D hD=>?_
   · have hl7:=htl.1
     walk_at "go"
     refine ixS_of (by omega) (ix_bc _ (by decide) (by decide)) ⟨by decide,by omega,_,rfl,?_⟩
     rw [slice_to (by omega) (by omega)]
     refine ⟨by rw [len_one,T_len,List.length_take];omega,?_⟩
     rw [T_one,T_app,show ((k:Int) % 8).toNat=k % 8 by omega]
     rw [Int.zero_add,Int.toNat_natCast,hnm1]at q'
     exact q'
   · have e:(List.range m).map (fun k:Nat=>V.str (tx (N (0+(k:Int)).toNat)))=((List.range m).map fun k=>tx (N k)).map V.str:=by
      rw [List.map_map]
      refine List.map_congr_left fun k _=>?_
      rw [Int.zero_add,Int.toNat_natCast]
      rfl
     rw [e]
     refine q1 hc3' D _ (same_none smD hD) (smD.trans (Same.new hD)) upd_same hnd fun y hy=>?_
     obtain ⟨k,_,rfl⟩:=List.mem_map.mp hy
     rw [T_list]
     exact hnn k
 · rename_i hc3
   have hc3':¬c % 4=3:=by simpa using hc3
   clear hnm1 hnd hnn q1 N
   have hs1:1≤(1+c / 4 % 6).toNat:=by omega
   have hs6:(1+c / 4 % 6).toNat≤6:=by omega
   have h8:(1+c / 4 % 6)=((1+c / 4 % 6).toNat:Int):=by omega
   walk_at "go"
   rw [h8]
   generalize (1+c / 4 % 6).toNat=sz at hs1 hs6 h8 ⊢
   have ha0:=Int.emod_nonneg (c / 24) (show (sz:Int)≠0 by omega)
   have ha1:=Int.emod_lt_of_pos (c / 24) (show (0:Int) < sz by omega)
   obtain ⟨at',hat⟩:∃at':Nat,(at':Int)=c / 24 % (sz:Int):=⟨(c / 24 % (sz:Int)).toNat,by omega⟩
   rw [← hat]at ha0 ha1 ⊢
   have hl7:=htl.1
   have hzl:(tx tl).length=7∧True:=⟨by rw [T_len];exact htl.1,trivial⟩
   refine ixS_of (by omega) (ix_bc _ (by decide) (by decide)) ⟨by omega,_,rfl,?_⟩
   rw [slice_to (by omega) (by omega),show ((sz:Int) - 1).toNat=sz - 1 by omega]
   refine ⟨by rw [len_one,T_len,List.length_take];omega,?_⟩
   rw [T_one,T_app]
   have hBl:([bc (c / 36 % 26)]++tl.take (sz - 1)).length=sz∧True:=⟨by rw [List.length_append,List.length_take];simp only [List.length_cons,List.length_nil];omega,trivial⟩
   have hBc:∀x∈[bc (c / 36 % 26)]++tl.take (sz - 1),x∈letters++figures:=fun x hx=>by
    rcases List.mem_append.mp hx with hx | hx
    · rw [List.mem_singleton.mp hx];exact List.mem_append_left _ bc_let
    · exact htc x (List.mem_of_mem_take hx)
   have hBh:∃d r,[bc (c / 36 % 26)]++tl.take (sz - 1)=d::r∧d∈letters:=⟨_,_,rfl,bc_let⟩
   have hBE:[bc (c / 36 % 26)]++tl.take (sz - 1)=[bc (c / 36 % 26)]++tl.take (sz - 1)∧True:=⟨rfl,trivial⟩
   generalize hBX:[bc (c / 36 % 26)]++tl.take (sz - 1)=B at hBl hBc hBh ⊢
   have hBY:B=[bc (c / 36 % 26)]++tl.take (sz - 1)∧True:=⟨hBX.symm,trivial⟩
   clear hBX hBE
   have hB1:=hBl.1
   rename_i rest hrest
   subst hrest
   walk_at "go"
   intro p hp
   rename_i rest hrest
   subst hrest
   walk_at "go"
   rename_i rest hrest
   refine forR_by (fun k σ H'=>∃(v8 v9:Option V),σ=[some (V.int c),some (V.int m),some (V.str (Str.ofString "abcdefghijklmnopqrstuvwxyz0123456789")),some (V.str (tx tl)),some (V.int sz),some (V.int at'),some (V.str (tx B)),some (V.ref p),v8,v9]∧H'=upd H1 p (.lst (((List.range k).map fun k=>tx (nm3 B at' (c / 1296) k)).map V.str))) ⟨none,none,rfl,rfl⟩ ?_ ?_
   · clear hrest
     rintro k σ H' hk ⟨v8,v9,rfl,rfl⟩
     have hlen:(((List.range k).map fun k=>tx (nm3 B at' (c / 1296) k)).map V.str).length=k∧True:=⟨by simp,trivial⟩
     have hlen1:=hlen.1
     have hBt:(tx B).length=sz∧True:=⟨by rw [T_len];exact hB1,trivial⟩
     have hBt1:=hBt.1
     rw [List.range_succ,List.map_append,List.map_append]
     generalize hz:(((List.range k).map fun k=>tx (nm3 B at' (c / 1296) k)).map V.str)=zs at hlen1 ⊢
     clear hz hlen hBt
     walk_at "go"
     refine ixS_of (by omega) (ix_bc _ (by decide) (by decide)) ?_
     rename_i rest hrest
     subst hrest
     walk_at "go"
     have e1:Txt.slice (tx B) none (some (at':Int))=tx (B.take at'):=slice_to (by omega) (by omega)
     have e2:Txt.slice (tx B) (some ((at':Int)+1)) none=tx (B.drop (at'+1)):=by
      have:=slice_from (l:=B) (n:=(at':Int)+1) (by omega) (by omega)
      rw [show ((at':Int)+1).toNat=at'+1 by omega]at this
      exact this
     have e3:Txt.slice (Str.ofString "zz") none (some ((k:Int) / 26))=tx (List.replicate (k / 26) 122):=zz_slice (by omega)
     rw [e1,e2,e3]
     have z2:(Str.ofString "zz").length=2:=by decide+kernel
     have l1:(tx (B.take at')).length≤6:=by rw [T_len,List.length_take];omega
     have l2:(tx (B.drop (at'+1))).length≤6:=by rw [T_len,List.length_drop];omega
     have l3:(tx (List.replicate (k / 26) 122)).length≤6:=by rw [T_len,List.length_replicate];omega
     refine ⟨.inl ⟨rfl,_,SqL.of upd_same⟩,by omega,by rw [len_one];omega,by omega,by rw [len_app,len_one];omega,cdiv_of (by decide) (by decide),by omega,by rw [len_app,len_app,len_one];omega,p,_,_,rfl,rfl,upd_same,by omega,?_⟩
     rw [upd_upd,T_one,T_app,T_app,T_app]
     rfl
   · rintro σ H' ⟨v8,v9,rfl,rfl⟩
     subst hrest
     walk_at "go"
     exact q2 hc3' B at' sz h8 hat hBY.1 p _ (same_none smD hp) (smD.trans (Same.new hp)) upd_same (tx_nodup fun a b ha hb e=>nm3_inj (by omega) e) (fun y hy=>by
      obtain ⟨k,hk,rfl⟩:=List.mem_map.mp hy
      rw [T_list]
      exact nm3_name (by omega) (by omega) (by have:=List.mem_range.mp hk;omega) hBc hBh)
theorem Z9m{f:Addr}{fd:FuncData}(F:Fun K "_law_rows" "_law_rows" Z4r f fd)(T:Txt K mg Z3 Z4 Z7 Z2 Z8 Z6 Z1 Z5 Z9 Z0)(Zh:Def P w K mg base (CXF P w) 1 "_law_cell" ["_law_script","_law_k"] (sp_cell K))(Z0m:Def P w K mg base (CXF P w) 1 "_law_names" ["_law_cell_here","_law_many"] (sp56_names))(Z0d:Def P w K mg base (CXF P w) 1 "_law_stream" ["_law_cell_here","_law_many"] (sp20_stream)):FnOk P w K mg base (CXF P w) 2 f fd ["_law_script"] (sp56_rows K):=by
 have sc:FnScope ["_law_script","_law_cell_here","_law_many","_law_names_here","_law_wide","_law_xs"] ["_law_script"] (defScope Z4r):=by walk_at "sc"
 refine F.okF sc (fun vs H Q E h=>?_) (fun cdv A outer s H vs Q E hr h=>?_)
 · obtain ⟨_,_,rfl,_⟩:=h;rfl
 obtain ⟨a,ns,rfl,hS,hl,q⟩:=h
 refine ⟨_,(@pss_cons _ _ _ _ _ (ps_set (i:=1) sc.nd rfl (Or.inl rfl) (pe_callD Zh hr rfl pass_onF (pa_cons (pv 0) (pa_cons pe_int pa_nil))))
  (@pss_cons _ _ _ _ _ (ps_set (i:=2) sc.nd rfl (Or.inr rfl) (pe_op op_add pe_int (pe_op op_mod (pv 1) pe_int)))
  (@pss_cons _ _ _ _ _ (ps_if (pt_cmpR op_eq (pe_op op_mod (pe_op op_fdiv (pv 1) pe_int) pe_int) pe_int (nomark _))
   (@pss_one _ _ _ (ps_set (i:=2) sc.nd rfl (Or.inr rfl) (pe_op op_add pe_int (pe_op op_mod (pe_op op_fdiv (pv 1) pe_int) pe_int))))
   pss_nil)
  (@pss_cons _ _ _ _ _ (ps_set (i:=3) sc.nd rfl (Or.inr rfl) (pe_callD Z0m hr rfl pass_onF (pa_cons (pe_callD Zh hr rfl pass_onF (pa_cons (pv 0) (pa_cons pe_int pa_nil))) (pa_cons (pv 2) pa_nil))))
  (@pss_cons _ _ _ _ _ (ps_set (i:=4) sc.nd rfl (Or.inr rfl) (@pe_ix _ _ _ _ _ _ _ ix_list (@pe_lst _ _ _ _ (pa_cons pe_int (pa_cons pe_int (pa_cons pe_int pa_nil)))) (pe_op op_mod (pe_callD Zh hr rfl pass_onF (pa_cons (pv 0) (pa_cons pe_int pa_nil))) pe_int) (fun _ _=>rfl)))
  (@pss_cons _ _ _ _ _ (ps_set (i:=5) sc.nd rfl (Or.inr rfl) (pe_callD Z0d hr rfl pass_onF (pa_cons (pe_callD Zh hr rfl pass_onF (pa_cons (pv 0) (pa_cons pe_int pa_nil))) (pa_cons (pe_op op_mul pe_int (pv 2)) pa_nil))))
  (@pss_one _ _ _ (@ps_ret _ _ _ _ (pe_comp1 "_law_k" [3,5,4,2] rfl rfl (pi_range1 rfl T.Z0b (pa_cons (pv 2) pa_nil)) (fun b=>(pe_tup (pa_cons (@pe_ix _ _ _ _ _ _ _ ix_list (pv 1) (pv 0) (fun _ _=>rfl)) (pa_cons (pe_op op_mod (@pe_ix _ _ _ _ _ _ _ ix_list (pv 2) (pv 0) (fun _ _=>rfl)) pe_int) (pa_cons (pe_op op_add pe_int (pe_op op_mod (@pe_ix _ _ _ _ _ _ _ ix_list (pv 2) (pe_op op_add (pv 4) (pv 0)) (fun _ _=>rfl)) (pv 3))) pa_nil)))))))))))))),?_⟩
 walk_at "st"
 have line:=line_val
 walk_at "go"
 rename_i rest hrest
 have key:∀m:Nat,1≤m→m≤60→rest [some (V.ref a),some (V.int (ns.getD 0 0)),some (V.int m),none,none,none] H:=by
  intro m hm1 hm2
  subst hrest
  walk_at "go"
  refine ⟨m,rfl,by omega,fun np H1 hnp sm1 hny ynd hyn=>?_⟩
  have hyl:=nmL_len (c:=ns.getD 1 0) (m:=m)
  generalize hys:nmL (ns.getD 1 0) m=ys at hny ynd hyn hyl
  have hys2:ys=nmL (ns.getD 1 0) m∧True:=⟨hys.symm,trivial⟩
  clear hys
  have hyl1:=Nat.le_of_eq hyl
  have hyl2:=Nat.le_of_eq hyl.symm
  have hnames:∀xs w,(mkTs ys xs m w).map (·.1)=ys:=fun xs w=>mkTs_names hyl
  clear hyl
  have hS1:=sm1.seq hS
  rename_i rest hrest
  subst hrest
  walk_at "go"
  intro wp hwp
  refine ⟨ns,(Same.new hwp).seq hS1,by decide,hl,by decide,?_⟩
  obtain ⟨v,hv,hM⟩:=atI_in (xs:=[V.int 1,V.int 4,V.int 1000]) (i:=ns.getD 2 0 % 3) (by omega) (by simp;omega)
  refine ixL_of (SqL.of upd_same) hv ?_
  obtain ⟨mo,rfl,hmo1,hmo2⟩:∃mo:Int,v=V.int mo∧1≤mo∧mo≤1000:=by
   simp only [List.mem_cons,List.not_mem_nil,or_false]at hM
   rcases hM with rfl | rfl | rfl
   · exact ⟨1,rfl,by decide,by decide⟩
   · exact ⟨4,rfl,by decide,by decide⟩
   · exact ⟨1000,rfl,by decide,by decide⟩
  have sm2:=sm1.trans (Same.new (o:= .lst [V.int 1,V.int 4,V.int 1000]) hwp)
  have hny2:=Same.new (o:= .lst [V.int 1,V.int 4,V.int 1000]) hwp _ _ hny
  generalize upd H1 wp (.lst [V.int 1,V.int 4,V.int 1000])=H2 at sm2 hny2 ⊢
  clear hv hM hny hS1 sm1 hwp hnp
  have hS2:=sm2.seq hS
  rename_i rest hrest
  subst hrest
  walk_at "go"
  refine ⟨2 * m,by omega,by omega,fun xp xs H3 hxp sm3 hx3 hxl hx0=>?_⟩
  have hxl2:=Nat.le_of_eq hxl.symm
  clear hxl
  have sm03:=sm2.trans sm3
  have hny3:=sm3 _ _ hny2
  rename_i rest hrest
  subst hrest
  walk_at "go"
  refine compR_mk (n:=m) (fun i y H=>∃t,y=V.ref t∧SqT K H t [.str ((mkTs ys xs m mo).getD i th0).1,.int ((mkTs ys xs m mo).getD i th0).2.1,.int ((mkTs ys xs m mo).getD i th0).2.2]) (fun i y H H' l zs ⟨t,e,h⟩ hl sb=>⟨t,e,SqT.butL sb hl h⟩) (by omega) (fun b i H4 Q' hi sm4 q'=>?_) fun D yl H4 hD sm4 hD4 hyl4 hall=>?_
  · have hny4:=sm4 _ _ hny3
    have hx4:=sm4 _ _ hx3
    rw [mkTs_at hi]at q'
    have g1:=N41.getD_s (ys:=ys) (k:=i) (by omega)
    have g2:=int_at (xs:=xs) (i:=i) (by omega)
    have g3:=int_at (xs:=xs) (i:=m+i) (by omega)
    walk_at "go"
    refine ixL_of (SqL.of hny4) (v:=V.str (ys.getD i Str.empty)) (atI_nat (by rw [List.getElem?_map,g1];rfl)) ?_
    refine ixL_of (SqL.of hx4) (v:=V.int (xs.getD i 0)) (atI_nat (by rw [List.getElem?_map,g2];rfl)) ⟨_,rfl,by decide,?_⟩
    rw [show (m:Int)+(i:Int)=((m+i:Nat):Int) by omega]
    refine ixL_of (SqL.of hx4) (v:=V.int (xs.getD (m+i) 0)) (atI_nat (by rw [List.getElem?_map,g3];rfl)) ⟨_,rfl,by omega,by omega,fun p hp=>?_⟩
    exact q' _ _ (Same.new hp) ⟨p,rfl,SqT.of upd_same⟩
  · have hok:∀t∈mkTs ys xs m mo,nameB t.1.cps.toList=true∧0≤t.2.1∧t.2.1≤10 ^ 30∧1≤t.2.2∧t.2.2≤1000:=fun t ht=>by
     have hin:t.1∈ys:=by rw [← hnames xs mo];exact List.mem_map.mpr ⟨t,ht,rfl⟩
     have hnn:=hyn _ hin
     unfold mkTs at ht
     obtain ⟨k,_,rfl⟩:=List.mem_map.mp ht
     have f0:=Int.emod_nonneg (xs.getD (m+k) 0) (show mo≠0 by omega)
     have f1:=Int.emod_lt_of_pos (xs.getD (m+k) 0) (show 0 < mo by omega)
     exact ⟨hnn,by show 0≤xs.getD k 0 % 1000;omega,by show xs.getD k 0 % 1000≤10 ^ 30;omega,by show 1≤1+xs.getD (m+k) 0 % mo;omega,by show 1+xs.getD (m+k) 0 % mo≤1000;omega⟩
    obtain ⟨as,rfl,hR⟩:=rows_ts (K:=K) hD4 (by rw [hyl4,mkTs_len]) (by rw [mkTs_len];exact hm2) (by rw [hnames];exact ynd) hok hall
    exact q D as _ _ (sm03.trans sm4) hD4 hR (by rw [mkTs_len];exact hm1) (fun t ht=>by
     unfold mkTs at ht
     obtain ⟨k,_,rfl⟩:=List.mem_map.mp ht
     show xs.getD k 0 % 1000 < 1000
     omega) (by rw [hnames,mkTs_len];exact hys2.1)
 clear hrest
 split
 · have k:=key (20+ns.getD 0 0 / 72 % 41).toNat (by omega) (by omega)
   rw [show (((20+ns.getD 0 0 / 72 % 41).toNat:Nat):Int)=20+ns.getD 0 0 / 72 % 41 by omega]at k
   exact ⟨cdiv_of (by decide) (by decide),by decide,k⟩
 · have k:=key (1+ns.getD 0 0 % 8).toNat (by omega) (by omega)
   rw [show (((1+ns.getD 0 0 % 8).toNat:Nat):Int)=1+ns.getD 0 0 % 8 by omega]at k
   exact k
theorem Z6k{f:Addr}{fd:FuncData}(F:Fun K "_law_places" "_law_places" Z34 f fd)(T:Txt K mg Z3 Z4 Z7 Z2 Z8 Z6 Z1 Z5 Z9 Z0):FnOk P w K mg base (CXF P w) 1 f fd ["_law_rows_here","_law_cell_here"] (sp20_places K):=by
 have sc:FnScope ["_law_rows_here","_law_cell_here","_law_rooms_here"] ["_law_rows_here","_law_cell_here"] (defScope Z34):=by walk_at "sc"
 refine F.okF sc (fun vs H Q E h=>?_) (fun cdv A outer s H vs Q E hr h=>?_)
 · obtain ⟨_,_,_,_,rfl,_⟩:=h;rfl
 obtain ⟨r,c,as,ts,rfl,hR,h1,q⟩:=h
 refine ⟨_,(@pss_cons _ _ _ _ _ (ps_comp1 (i:=2) "_law_row" [] sc.nd rfl rfl rfl rfl (pi_list (pv 0)) (fun b=>(@pe_ix _ _ _ _ _ _ _ ix_tup (pv 0) pe_int (fun _ _=>rfl))))
  (@pss_cons _ _ _ _ _ (ps_if (pt_cmpR op_eq (pe_op op_mod (pe_op op_fdiv (pv 1) pe_int) pe_int) pe_int (nomark _))
   (@pss_one _ _ _ (@ps_ret _ _ _ _ (pe_op op_pow pe_int pe_int)))
   pss_nil)
  (@pss_one _ _ _ (@ps_ret _ _ _ _ (pe_op op_add (pe_callB (call_maxL rfl) rfl T.Z57 (by first | rfl | decide+kernel) (pa_cons (pv 2) pa_nil)) (pe_op op_mod (pv 1) (pe_callB (call_sumL rfl) rfl T.Z2y (by first | rfl | decide+kernel) (pa_cons (pv 2) pa_nil)))))))),?_⟩
 walk_at "st"
 have line:=line_val
 have hn:=hR.n
 have hm:=hR.m
 walk_at "go"
 refine ⟨⟨_,hR.l⟩,?_⟩
 refine compL_ix (fun i=>V.int (ts.getD i th0).2.2) hR.l (by rw [List.length_map];omega) (fun b i x H' Q' hx sm q'=>?_) fun D hD=>?_
 · rw [List.getElem?_map]at hx
   cases ha:as[i]? with
   | none=>rw [ha]at hx;cases hx
   | some p=>
   rw [ha]at hx
   cases hx
   have hi:i < ts.length:=by rw [← hn];exact (List.getElem?_eq_some_iff.mp ha).1
   have hT:=sm.tup (hR.at_ i p _ ha (th_at hi))
   walk_at "go"
   exact q'
 have eD:(List.range (as.map V.ref).length).map (fun i=>V.int (ts.getD i th0).2.2)=(ts.map (·.2.2)).map V.int:=by
  rw [List.length_map,hn,List.map_map]
  refine List.ext_getElem? fun i=>?_
  rw [List.getElem?_map,List.getElem?_map]
  by_cases hi:i < ts.length
  · rw [List.getElem?_range hi,th_at hi];rfl
  · rw [List.getElem?_eq_none (by rw [List.length_range];omega),List.getElem?_eq_none (by omega)];rfl
 rw [eD]
 clear eD
 have smD:Same H (upd H D (.lst ((ts.map (·.2.2)).map V.int))):=Same.new hD
 have hDD:upd H D (.lst ((ts.map (·.2.2)).map V.int)) D=some (.lst ((ts.map (·.2.2)).map V.int)):=upd_same
 generalize upd H D (.lst ((ts.map (·.2.2)).map V.int))=H1 at smD hDD ⊢
 clear hD
 have hrb:∀x∈ts.map (·.2.2),1≤x∧x≤1000:=fun x hx=>by
  obtain ⟨t,ht,rfl⟩:=List.mem_map.mp hx
  exact (hR.ok t ht).2.2.2
 have hsum:(ts.map (·.2.2)).sum≤60000∧1≤(ts.map (·.2.2)).sum:=by
  have hlen:(ts.map (·.2.2)).length=ts.length:=List.length_map ..
  have:=sum_bounds hrb
  omega
 rename_i rest hrest
 subst hrest
 walk_at "go"
 split
 · refine ⟨cpow_of (by decide) (by decide) (by decide),?_⟩
   refine q _ _ smD ?_ ?_ ?_
   · decide
   · decide
   · intro t ht
     have:=(hR.ok t ht).2.2.2.2
     show t.2.2≤1000000
     omega
 · rename_i rest hrest
   walk_at "go"
   refine ⟨ts.map (·.2.2),SqL.of hDD,fun e=>by have:=congrArg List.length e;rw [List.length_map,List.length_nil]at this;omega,fun v hv hmax=>⟨ts.map (·.2.2),SqL.of hDD,by omega,?_⟩⟩
   have hvb:=hrb v hv
   have f0:=Int.emod_nonneg c (show (ts.map (·.2.2)).sum≠0 by omega)
   have f1:=Int.emod_lt_of_pos c (show 0 < (ts.map (·.2.2)).sum by omega)
   exact q _ _ smD (by omega) (by omega) (fun t ht=>by have:=hmax _ (List.mem_map.mpr ⟨t,ht,rfl⟩);omega)
theorem Z9n{f:Addr}{fd:FuncData}(F:Fun K "_law_asks" "_law_asks" Z4s f fd)(T:Txt K mg Z3 Z4 Z7 Z2 Z8 Z6 Z1 Z5 Z9 Z0)(Zh:Def P w K mg base (CXF P w) 1 "_law_cell" ["_law_script","_law_k"] (sp_cell K))(Z0d:Def P w K mg base (CXF P w) 1 "_law_stream" ["_law_cell_here","_law_many"] (sp20_stream)):FnOk P w K mg base (CXF P w) 2 f fd ["_law_script","_law_rows_here"] (sp56_asks K):=by
 have sc:FnScope ["_law_script","_law_rows_here","_law_most","_law_picks"] ["_law_script","_law_rows_here"] (defScope Z4s):=by walk_at "sc"
 refine F.okF sc (fun vs H Q E h=>?_) (fun cdv A outer s H vs Q E hr h=>?_)
 · obtain ⟨_,_,_,_,_,rfl,_⟩:=h;rfl
 obtain ⟨a,r,ns,as,ts,rfl,hS,hl,hR,h1,q⟩:=h
 refine ⟨_,(@pss_cons _ _ _ _ _ (ps_set (i:=2) sc.nd rfl (Or.inl rfl) pe_int)
  (@pss_cons _ _ _ _ _ (ps_if (pt_cmpR op_eq (pe_op op_mod (pe_callD Zh hr rfl pass_onF (pa_cons (pv 0) (pa_cons pe_int pa_nil))) pe_int) pe_int (nomark _))
   (@pss_one _ _ _ (ps_set (i:=2) sc.nd rfl (Or.inl rfl) pe_int))
   pss_nil)
  (@pss_cons _ _ _ _ _ (ps_set (i:=3) sc.nd rfl (Or.inl rfl) (pe_op op_cat (pe_slice sl_list (pv 0) (po_some pe_int) (po_some pe_int)) (pe_callD Z0d hr rfl pass_onF (pa_cons (pe_callD Zh hr rfl pass_onF (pa_cons (pv 0) (pa_cons pe_int pa_nil))) (pa_cons (pe_op op_mod (pe_callD Zh hr rfl pass_onF (pa_cons (pv 0) (pa_cons pe_int pa_nil))) (pv 2)) pa_nil)))))
  (@pss_one _ _ _ (@ps_ret _ _ _ _ (pe_comp1 "_law_pick" [1] rfl rfl (pi_list (pv 3)) (fun b=>(@pe_ix _ _ _ _ _ _ _ ix_tup (@pe_ix _ _ _ _ _ _ _ ix_list (pv 1) (pe_op op_mod (pv 0) (pe_callB call_len_seq rfl T.Zy PySem.boot_len (pa_cons (pv 1) pa_nil))) (fun _ _=>rfl)) pe_int (fun _ _=>rfl))))))))),?_⟩
 walk_at "st"
 have line:=line_val
 have hn:=hR.n
 have hm:=hR.m
 walk_at "go"
 rename_i rest hrest
 have key:∀mo:Int,1≤mo→mo≤139→rest [some (V.ref a),some (V.ref r),some (V.int mo),none] H:=by
  intro mo hm1 hm2
  subst hrest
  walk_at "go"
  obtain ⟨cs,hcs,hcl⟩:=cut_8_68 ns
  refine ⟨_,hS,fun p hp=>?_⟩
  rw [hcs]
  have s1:Same H (upd H p (.lst (cs.map V.int))):=Same.new hp
  have k1:upd H p (.lst (cs.map V.int)) p=some (.lst (cs.map V.int)):=upd_same
  generalize upd H p (.lst (cs.map V.int))=H1 at s1 k1 ⊢
  have f0:=Int.emod_nonneg (ns.getD 5 0) (show mo≠0 by omega)
  have f1:=Int.emod_lt_of_pos (ns.getD 5 0) (show 0 < mo by omega)
  refine ⟨ns,s1.seq hS,by decide,hl,ns,s1.seq hS,by decide,hl,by omega,(ns.getD 5 0 % mo).toNat,by omega,by omega,fun p1 xs H2 hp1 s2 k2 hxl hx0=>?_⟩
  have hxl1:xs.length≤138:=by rw [hxl];omega
  clear hxl
  refine ⟨p,p1,_,_,rfl,rfl,s2 _ _ k1,k2,by rw [List.length_map,List.length_map];omega,fun p2 hp2=>?_⟩
  rw [cat_ints]
  have hpl:(cs++xs).length≤195:=by rw [List.length_append];omega
  have s3:=(s1.trans s2).trans (Same.new (o:= .lst ((cs++xs).map V.int)) hp2)
  have k3:upd H2 p2 (.lst ((cs++xs).map V.int)) p2=some (.lst ((cs++xs).map V.int)):=upd_same
  generalize upd H2 p2 (.lst ((cs++xs).map V.int))=H3 at s3 k3 ⊢
  generalize cs++xs=ps at hpl k3
  clear k1 k2 s1 s2 hp2 hp hcs
  have hR3:=hR.same s3
  rename_i rest hrest
  subst hrest
  walk_at "go"
  refine ⟨⟨_,SqL.of k3⟩,?_⟩
  refine compL_pure (pickV ts) (SqL.of k3) (by rw [List.length_map];omega) (fun b x H4 Q' hx sm4 q'=>?_) fun D hD=>?_
  · obtain ⟨c,hc,rfl⟩:=List.mem_map.mp hx
    have hR4:=hR3.same sm4
    have g0:=Int.emod_nonneg c (show (ts.length:Int)≠0 by omega)
    have g1:=Int.emod_lt_of_pos c (show (0:Int) < ts.length by omega)
    have ht:=th_at (ts:=ts) (i:=(c % (ts.length:Int)).toNat) (by omega)
    have ha:=List.getElem?_eq_getElem (l:=as) (i:=(c % (ts.length:Int)).toNat) (by omega)
    have hT:=hR4.at_ _ _ _ ha ht
    walk_at "go"
    refine ⟨_,.inl hR4.l,?_⟩
    rw [List.length_map,hn]
    refine ⟨by omega,?_⟩
    refine ixL_of hR4.l (v:=V.ref _) (by rw [show c % (ts.length:Int)=(((c % (ts.length:Int)).toNat:Nat):Int) by omega];exact atI_nat (by rw [List.getElem?_map,ha];rfl)) ?_
    exact ⟨_,_,0,_,rfl,rfl,hT,rfl,q'⟩
  · rw [pickV_list]
    exact q D _ _ (s3.trans (Same.new hD)) upd_same (by rw [List.length_map];exact hpl) (fun y hy=>by
     obtain ⟨c,hc,rfl⟩:=List.mem_map.mp hy
     have g0:=Int.emod_nonneg c (show (ts.length:Int)≠0 by omega)
     have g1:=Int.emod_lt_of_pos c (show (0:Int) < ts.length by omega)
     exact List.mem_map.mpr ⟨_,List.mem_of_getElem? (th_at (ts:=ts) (i:=(c % (ts.length:Int)).toNat) (by omega)),rfl⟩)
 clear hrest
 split
 · exact key 139 (by decide) (by decide)
 · exact key 30 (by decide) (by decide)
theorem Z7t{f:Addr}{fd:FuncData}(F:Fun K "_law_rooms" "_law_rooms" Z46 f fd)(T:Txt K mg Z3 Z4 Z7 Z2 Z8 Z6 Z1 Z5 Z9 Z0):FnOk P w K mg base (CXF P w) 1 f fd ["_law_rows_here"] (sp20_rooms K):=by
 have sc:FnScope ["_law_rows_here","_law_rooms_here","_law_name","_law_cost","_law_room"] ["_law_rows_here"] (defScope Z46):=by walk_at "sc"
 refine F.okF sc (fun vs H Q E h=>?_) (fun cdv A outer s H vs Q E hr h=>?_)
 · obtain ⟨_,_,_,rfl,_⟩:=h;rfl
 obtain ⟨r,as,ts,rfl,hR,q⟩:=h
 refine ⟨_,(@pss_cons _ _ _ _ _ (ps_set (i:=1) sc.nd rfl (Or.inl rfl) pe_dnewK)
  (@pss_cons _ _ _ _ _ (ps_for own_outF rfl (pi_list (pv 0)) (pg_tup rfl (pgs_cons (pg_name (i:=2) sc.nd rfl (Or.inl rfl)) (pgs_cons (pg_name (i:=3) sc.nd rfl (Or.inl rfl)) (pgs_cons (pg_name (i:=4) sc.nd rfl (Or.inl rfl)) pgs_nil))))
   (@pss_one _ _ _ (ps_dput (hu_of hr) (pv 1) (pv 2) (pv 4) rfl)))
  (@pss_one _ _ _ (@ps_ret _ _ _ _ (pv 1))))),?_⟩
 walk_at "st"
 have line:=line_val
 have hn:=hR.n
 have hm:=hR.m
 walk_at "go"
 intro e he
 have sme:Same H (upd H e (.dK [])):=Same.new he
 have hee:upd H e (.dK []) e=some (.dK []):=upd_same
 generalize upd H e (.dK [])=H1 at sme hee ⊢
 rename_i rest hrest
 subst hrest
 walk_at "go"
 refine ⟨⟨_,sme.seq hR.l⟩,?_⟩
 rename_i rest hrest
 refine forL_by (xs:=as.map V.ref) (fun i σ H'=>∃(v2 v3 v4:Option V),σ=[some (V.ref r),some (V.ref e),v2,v3,v4]∧Same H H'∧H' e=some (.dK (lyK (lyOf (ts.take i))))) ⟨none,none,none,rfl,sme,hee⟩ (fun i σ H' _ ⟨_,_,_,_,sm,_⟩=>sm.seq hR.l) ?_ ?_
 · clear hrest
   rintro i u σ H' hu ⟨v2,v3,v4,rfl,sm,hE⟩
   rw [List.getElem?_map]at hu
   cases ha:as[i]? with
   | none=>rw [ha]at hu;cases hu
   | some p=>
   rw [ha]at hu
   cases hu
   have hi:i < ts.length:=by rw [← hn];exact (List.getElem?_eq_some_iff.mp ha).1
   have ht:=th_at hi
   have hT:=sm.tup (hR.at_ i p _ ha ht)
   have hno:¬(ts.getD i th0).1∈lyN (lyOf (ts.take i)):=by
    rw [lyOf_names]
    intro hmem
    have nd:=hR.nd
    rw [← List.take_append_drop i ts,List.map_append,List.nodup_append]at nd
    refine nd.2.2 _ hmem _ ?_ rfl
    rw [List.drop_eq_getElem_cons hi,List.map_cons]
    rw [List.getElem?_eq_getElem hi]at ht
    rw [← Option.some.inj ht]
    exact List.mem_cons_self ..
   generalize ts.getD i th0=t at hT hno ht
   walk_at "go"
   refine ⟨_,hT,rfl,_,_,rfl,_,_,rfl,_,_,rfl,rfl,?_⟩
   walk_at "go"
   refine ⟨_,DPut.k (k:=Sum.inr t.1) hE (by unfold lyK lyOf;rw [List.length_map,List.length_map,List.length_take];omega),fun b o e'=>by rw [upd_ne (ne_of_none e' he)];exact sm _ _ e',?_⟩
   rw [upd_same,lyK_put hno,List.take_add_one,ht]
   unfold lyOf
   rw [List.map_append]
   rfl
 · rintro σ H' ⟨v2,v3,v4,rfl,sm,hE⟩
   rw [List.length_map,hn,List.take_length,lyOf_K]at hE
   subst hrest
   walk_at "go"
   exact q e H' sm hE
theorem Z9o{f:Addr}{fd:FuncData}(F:Fun K "_law_same" "_law_same" Z4t f fd)(T:Txt K mg Z3 Z4 Z7 Z2 Z8 Z6 Z1 Z5 Z9 Z0):FnOk P w K mg base (CXF P w) 1 f fd ["_law_found","_law_due_here"] (sp20_same K):=by
 have sc:FnScope ["_law_found","_law_due_here","_law_row","_law_other"] ["_law_found","_law_due_here"] (defScope Z4t):=by walk_at "sc"
 refine F.okF sc (fun vs H Q E h=>?_) (fun cdv A outer s H vs Q E hr h=>?_)
 · obtain ⟨_,_,_,_,_,_,_,rfl,_⟩:=h;rfl
 obtain ⟨x,y,as,gs,as2,gs2,rs,rfl,hx0,hxt,hx,hy,hl,q⟩:=h
 refine ⟨_,(@pss_cons _ _ _ _ _ (ps_if (PW.pt (pw_or (pt_not (pt_val (pe_callB call_isinst rfl T.Zc (by first | rfl | decide+kernel) (pa_cons (pv 0) (pa_cons (pe_bltn (v:= .ty "list") rfl T.Z0h (by first | rfl | decide+kernel) rfl) pa_nil))))) (pw_or1 (pt_cmpR op_ne (pe_callB call_len_seq rfl T.Zy PySem.boot_len (pa_cons (pv 0) pa_nil)) (pe_callB call_len_seq rfl T.Zy PySem.boot_len (pa_cons (pv 1) pa_nil)) (nomark _)))))
  (@pss_one _ _ _ (@ps_ret _ _ _ _ pe_bl))
  pss_nil)
  (@pss_cons _ _ _ _ _ (ps_for own_outF rfl (pi_zip rfl T.Z56 (pa_cons (pv 0) (pa_cons (pv 1) pa_nil))) (pg_tup rfl (pgs_cons (pg_name (i:=2) sc.nd rfl (Or.inl rfl)) (pgs_cons (pg_name (i:=3) sc.nd rfl (Or.inl rfl)) pgs_nil)))
   (@pss_cons _ _ _ _ _ (ps_if (PW.pt (pw_or (pt_not (pt_val (pe_callB call_isinst rfl T.Zc (by first | rfl | decide+kernel) (pa_cons (pv 2) (pa_cons (pe_bltn (v:= .ty "tuple") rfl T.Z1d (by first | rfl | decide+kernel) rfl) pa_nil))))) (pw_or (pt_cmpR op_ne (pe_callB call_len_seq rfl T.Zy PySem.boot_len (pa_cons (pv 2) pa_nil)) pe_int (nomark _)) (pw_or1 (pt_not (pt_val (pe_callB call_isinst rfl T.Zc (by first | rfl | decide+kernel) (pa_cons (@pe_ix _ _ _ _ _ _ _ ix_tup (pv 2) pe_int (fun _ _=>rfl)) (pa_cons (pe_bltn (v:= .ty "bool") rfl T.Z1e (by first | rfl | decide+kernel) rfl) pa_nil)))))))))
    (@pss_one _ _ _ (@ps_ret _ _ _ _ pe_bl))
    pss_nil)
   (@pss_one _ _ _ (ps_if (pt_cmpR (op_neN 1 hr) (pv 2) (pv 3) (nomark _))
    (@pss_one _ _ _ (@ps_ret _ _ _ _ pe_bl))
    pss_nil))))
  (@pss_one _ _ _ (@ps_ret _ _ _ _ pe_bl)))),?_⟩
 walk_at "st"
 have line:=line_val
 have hxn:=hx.n
 have hyn:=hy.n
 walk_at "go"
 refine ⟨_,.inl hx.l,_,.inl hy.l,?_⟩
 rw [if_neg (by rw [List.length_map,List.length_map,hxn,hyn];exact fun h=>h rfl)]
 rename_i rest hrest
 subst hrest
 walk_at "go"
 refine ⟨⟨_,hx.l⟩,⟨_,hy.l⟩,?_⟩
 rename_i rest hrest
 refine forZ_by (xs:=as.map V.ref) (ys:=as2.map V.ref) (by rw [List.length_map,List.length_map,hxn,hyn]) (fun i σ H'=>∃v2 v3,σ=[some (V.ref x),some (V.ref y),v2,v3]∧Same H H') ⟨none,none,rfl,Same.refl _⟩ (fun i σ H' _ ⟨v2,v3,_,sm⟩=>⟨sm.seq hx.l,sm.seq hy.l⟩) ?_ ?_
 · clear hrest
   rintro i u v σ H' t hu hv ⟨v2,v3,rfl,sm⟩ ht
   rw [List.getElem?_map]at hu hv
   cases h1:as[i]? with
   | none=>rw [h1]at hu;cases hu
   | some p=>
   rw [h1]at hu
   cases hu
   cases h2:as2[i]? with
   | none=>rw [h2]at hv;cases hv
   | some p2=>
   rw [h2]at hv
   cases hv
   have hi:i < rs.length:=by rw [← hxn];exact (List.getElem?_eq_some_iff.mp h1).1
   have er:=List.getElem?_eq_getElem hi
   have eg:=List.getElem?_eq_getElem (show i < gs.length by rw [hx.m];exact hi)
   have eg2:=List.getElem?_eq_getElem (show i < gs2.length by rw [hy.m];exact hi)
   obtain ⟨t1,l1⟩:=hx.t i _ _ _ h1 eg er
   obtain ⟨t2,l2⟩:=hy.t i _ _ _ h2 eg2 er
   generalize gs[i]'(by rw [hx.m];exact hi)=g at t1 l1
   generalize gs2[i]'(by rw [hy.m];exact hi)=g2 at t2 l2
   generalize rs[i]'hi=row at t1 t2 l1 l2
   walk_at "go"
   refine ⟨_,SqT.of upd_same,rfl,_,_,rfl,_,_,rfl,rfl,?_⟩
   have smt:Same H' (upd H' t (.tup [V.ref p,V.ref p2])):=Same.new ht
   have sm2:=sm.trans smt
   generalize upd H' t (.tup [V.ref p,V.ref p2])=H2 at sm2 ⊢
   have t3:=sm2.tup t1
   have t4:=sm2.tup t2
   have l3:=sm2.seq l1
   have l4:=sm2.seq l2
   obtain ⟨us,hus⟩:=hxt i p h1
   have hus2:=sm2 _ _ hus
   clear smt sm ht t1 t2 l1 l2
   walk_at "go"
   rw [if_neg (by simp)]
   refine ⟨p,_,1,_,rfl,rfl,t3,rfl,_,isi_bb,?_⟩
   rw [if_neg (by decide)]
   rename_i rest hrest
   subst hrest
   walk_at "go"
   exact ⟨row_like t3 t4 l3 l4,sm2⟩
 · rintro σ H' ⟨v2,v3,rfl,sm⟩
   subst hrest
   walk_at "go"
   exact q _ sm
theorem Z6l{f:Addr}{fd:FuncData}(F:Fun K "_law_priced" "_law_priced" Z35 f fd)(T:Txt K mg Z3 Z4 Z7 Z2 Z8 Z6 Z1 Z5 Z9 Z0):FnOk P w K mg base (CXF P w) 1 f fd ["_law_rows_here","_law_cell_here"] (sp56_priced K):=by
 have sc:FnScope ["_law_rows_here","_law_cell_here","_law_priced_here","_law_name","_law_cost","_law_room","_law_great"] ["_law_rows_here","_law_cell_here"] (defScope Z35):=by walk_at "sc"
 refine F.okF sc (fun vs H Q E h=>?_) (fun cdv A outer s H vs Q E hr h=>?_)
 · obtain ⟨_,_,_,_,rfl,_⟩:=h;rfl
 obtain ⟨r,c,as,ts,rfl,hR,ht1,hc,q⟩:=h
 refine ⟨_,(@pss_cons _ _ _ _ _ (ps_set (i:=2) sc.nd rfl (Or.inl rfl) (@pe_lst _ _ _ _ pa_nil))
  (@pss_cons _ _ _ _ _ (ps_for own_outF rfl (pi_list (pv 0)) (pg_tup rfl (pgs_cons (pg_name (i:=3) sc.nd rfl (Or.inl rfl)) (pgs_cons (pg_name (i:=4) sc.nd rfl (Or.inl rfl)) (pgs_cons (pg_name (i:=5) sc.nd rfl (Or.inl rfl)) pgs_nil))))
   (@pss_cons _ _ _ _ _ (ps_if (pt_cmpR op_eq (pe_op op_mod (pv 1) pe_int) pe_int (nomark _))
    (@pss_one _ _ _ (ps_set (i:=4) sc.nd rfl (Or.inl rfl) (pe_op op_mod (pv 4) pe_int)))
    pss_nil)
   (@pss_cons _ _ _ _ _ (ps_if (pt_cmpR op_eq (pe_op op_mod (pv 1) pe_int) pe_int (nomark _))
    (@pss_cons _ _ _ _ _ (ps_set (i:=6) sc.nd rfl (Or.inl rfl) (pe_op op_mod (pe_op op_pow (pe_op op_mulH (pv 4) (pe_op op_add pe_int (pe_op op_mod (pe_op op_fdiv (pv 1) pe_int) pe_int))) pe_int) (pe_op op_add (pe_op op_pow pe_int pe_int) pe_int)))
    (@pss_one _ _ _ (ps_set (i:=4) sc.nd rfl (Or.inl rfl) (@pe_ix _ _ _ _ _ _ _ ix_list (@pe_lst _ _ _ _ (pa_cons (pe_op op_mod (pv 4) pe_int) (pa_cons (pv 6) pa_nil))) (pe_op op_mod (pe_op op_fdiv (pv 4) pe_int) pe_int) (fun _ _=>rfl)))))
    pss_nil)
   (@pss_cons _ _ _ _ _ (ps_if (pt_cmpR op_eq (pe_op op_mod (pv 1) pe_int) pe_int (nomark _))
    (@pss_one _ _ _ (ps_set (i:=4) sc.nd rfl (Or.inl rfl) (pe_op op_add pe_int (pe_op op_mod (pe_op op_fdiv (pv 1) pe_int) pe_int))))
    pss_nil)
   (@pss_one _ _ _ (ps_expr (pe_bm PySem.F.plainAttrs_list PySem.F.slot_list_append PySem.F.type_list_append mt_append (pv 2) (pa_cons (pe_tup (pa_cons (pv 3) (pa_cons (pv 4) (pa_cons (pv 5) pa_nil)))) pa_nil))))))))
  (@pss_one _ _ _ (@ps_ret _ _ _ _ (pv 2))))),?_⟩
 walk_at "st"
 have line:=line_val
 have hn:=hR.n
 have hm:=hR.m
 walk_at "go"
 intro p hp
 have sm0:Same H (upd H p (.lst [])):=Same.new hp
 have hp0:upd H p (.lst []) p=some (.lst (([]:List Addr).map V.ref)):=upd_same
 generalize upd H p (.lst [])=H0 at sm0 hp0 ⊢
 rename_i rest hrest
 subst hrest
 walk_at "go"
 refine ⟨⟨_,sm0.seq hR.l⟩,?_⟩
 rename_i rest hrest
 refine forL_by (xs:=as.map V.ref) (fun i σ H'=>∃(as':List Addr) (ts':List Th) (v3 v4 v5 v6:Option V),σ=[some (V.ref r),some (V.int c),some (V.ref p),v3,v4,v5,v6]∧Same H H'∧H' p=some (.lst (as'.map V.ref))∧RowsAt K H' p as' ts'∧ts'.map (·.1)=(ts.take i).map (·.1)) ⟨[],[],none,none,none,none,rfl,sm0,hp0,⟨SqL.of hp0,rfl,by decide,(fun i a t h=>by simp at h),(fun t ht=>by cases ht),List.nodup_nil⟩,rfl⟩ (fun i σ H' _ h_=>by obtain ⟨_,_,_,_,_,_,_,sm,_⟩:=h_;exact sm.seq hR.l) ?_ ?_
 · clear hrest
   rintro i u σ H' hu ⟨as',ts',v3,v4,v5,v6,rfl,sm,hp',hR',hnm⟩
   rw [List.getElem?_map]at hu
   cases ha:as[i]? with
   | none=>rw [ha]at hu;cases hu
   | some pa=>
   rw [ha]at hu
   cases hu
   have hi:i < ts.length:=by rw [← hn];exact (List.getElem?_eq_some_iff.mp ha).1
   have ht:=th_at hi
   have hT:=sm.tup (hR.at_ i pa _ ha ht)
   have hok:=hR.ok _ (List.mem_of_getElem? ht)
   have hc1:=hc _ (List.mem_of_getElem? ht)
   have htk:(ts.take (i+1)).map (·.1)=(ts.take i).map (·.1)++[(ts.getD i th0).1]:=by rw [List.take_succ,ht,List.map_append];rfl
   have hno:(ts.getD i th0).1∉(ts.take i).map (·.1):=fun hmem=>by
    have nd:=hR.nd
    rw [← List.take_append_drop i ts,List.map_append,List.nodup_append]at nd
    refine nd.2.2 _ hmem _ ?_ rfl
    rw [List.drop_eq_getElem_cons hi,List.map_cons]
    rw [List.getElem?_eq_getElem hi]at ht
    rw [← Option.some.inj ht]
    exact List.mem_cons_self ..
   have hl':ts'.length=i:=by
    have:=congrArg List.length hnm
    rw [List.length_map,List.length_map,List.length_take]at this
    omega
   generalize ts.getD i th0=t at hT hno ht hok hc1 htk
   obtain ⟨k1,k2,k3,k4,k5⟩:=hok
   walk_at "go"
   refine ⟨_,hT,rfl,_,_,rfl,_,_,rfl,_,_,rfl,rfl,?_⟩
   walk_at "go"
   rename_i rest hrest
   have key:∀w:Int,0≤w→w < 1000→rest [some (V.ref r),some (V.int c),some (V.ref p),some (V.str t.1),some (V.int w),some (V.int t.2.2),v6] H':=by
    intro w hw0 hw1
    subst hrest
    walk_at "go"
    rename_i rest hrest
    have key2:∀(w:Int) (v6:Option V) (H2:Hp),0≤w→w≤10 ^ 30→Same H' H2→rest [some (V.ref r),some (V.int c),some (V.ref p),some (V.str t.1),some (V.int w),some (V.int t.2.2),v6] H2:=by
     intro w v6 H2 hw0 hw1 sm2
     subst hrest
     walk_at "go"
     rename_i rest hrest
     have key3:∀(w:Int),0≤w→w≤10 ^ 30→rest [some (V.ref r),some (V.int c),some (V.ref p),some (V.str t.1),some (V.int w),some (V.int t.2.2),v6] H2:=by
      intro w hw0 hw1
      subst hrest
      walk_at "go"
      refine ⟨.inl ⟨rfl,_,SqL.of (sm2 _ _ hp')⟩,by omega,fun ta hta=>?_⟩
      have sm3:Same H2 (upd H2 ta (.tup [V.str t.1,V.int w,V.int t.2.2])):=Same.new hta
      have hta3:upd H2 ta (.tup [V.str t.1,V.int w,V.int t.2.2]) ta=some (.tup [V.str t.1,V.int w,V.int t.2.2]):=upd_same
      generalize upd H2 ta (.tup [V.str t.1,V.int w,V.int t.2.2])=H3 at sm3 hta3 ⊢
      have sm23:=sm2.trans sm3
      have hp3:=sm23 _ _ hp'
      have hal:as'.length≤60:=by rw [hR'.n];exact hR'.m
      refine ⟨p,_,_,rfl,rfl,hp3,by rw [List.length_map];omega,?_⟩
      rw [show as'.map V.ref++[V.ref ta]=(as'++[ta]).map V.ref by rw [List.map_append];rfl]
      have sb4:SameBut p H3 (upd H3 p (.lst ((as'++[ta]).map V.ref))):=sameBut_upd
      have npt:ta≠p:=fun e=>by rw [e,hp3]at hta3;cases hta3
      refine ⟨fun b o e=>?_,as'++[ta],upd_same,ts'++[(t.1,w,t.2.2)],(hR'.same sm23).snoc (t:=(t.1,w,t.2.2)) hp3 sb4 upd_same (SqT.of (by rw [upd_ne npt];exact hta3)) ⟨k1,hw0,hw1,k4,k5⟩ (by rw [hnm];exact hno) (by omega),?_⟩
      · rw [upd_ne (ne_of_none e hp)];exact sm23 _ _ (sm _ _ e)
      · rw [htk,List.map_append,hnm];rfl
     clear hrest
     split
     · exact ⟨cdiv_of (by decide) (by decide),by decide,key3 _ (by omega) (by omega)⟩
     · exact key3 w hw0 hw1
    clear hrest
    split
    · walk_at "go"
      have u0:=Int.emod_nonneg (c / 4) (show (1000:Int)≠0 by decide)
      have u1:=Int.emod_lt_of_pos (c / 4) (show (0:Int) < 1000 by decide)
      generalize c / 4 % 1000=u at u0 u1 ⊢
      have hT9:(10000:Nat) < 10 ^ 1000:=by decide+kernel
      have hp1:0≤w * (7919+u):=Int.mul_nonneg hw0 (by omega)
      have hp2:w * (7919+u)≤1000 * 9000:=Int.mul_le_mul (by omega) (by omega) (by omega) (by decide)
      refine ⟨⟨Nat.lt_trans (by omega) hT9,Nat.lt_trans (by omega) hT9⟩,cpow_of (by decide) (by decide) (by omega),cpow_of (by decide) (by decide) (by decide),by decide,?_⟩
      have e0:=Int.emod_nonneg ((w * (7919+u)) ^ 5) (show (10 ^ 30+1:Int)≠0 by decide)
      have e1:=Int.emod_lt_of_pos ((w * (7919+u)) ^ 5) (show (0:Int) < 10 ^ 30+1 by decide)
      generalize (w * (7919+u)) ^ 5 % (10 ^ 30+1)=gr at e0 e1 ⊢
      clear hp1 hp2 hT9
      rename_i rest2 hrest2
      subst hrest2
      walk_at "go"
      intro l hl
      refine ⟨cdiv_of (by decide) (by decide),by decide,?_⟩
      have h2:w / 10 % 2=0∨w / 10 % 2=1:=by omega
      rcases h2 with e | e <;> rw [e]
      · exact ixL_of (SqL.of upd_same) (v:=V.int (w % 10)) rfl (key2 _ _ _ (by omega) (by omega) (Same.new hl))
      · exact ixL_of (SqL.of upd_same) (v:=V.int gr) rfl (key2 _ _ _ (by omega) (by omega) (Same.new hl))
    · exact key2 w v6 H' hw0 (by omega) (Same.refl _)
   clear hrest
   split
   · exact ⟨by decide,key _ (by omega) (by omega)⟩
   · exact key _ k2 hc1
 · rintro σ H' ⟨as',ts',v3,v4,v5,v6,rfl,sm,hp',hR',hnm⟩
   rw [List.length_map,hn,List.take_length]at hnm
   subst hrest
   walk_at "go"
   refine q p as' ts' H' sm hp' hR' ?_ hnm
   have:=congrArg List.length hnm
   rw [List.length_map,List.length_map]at this
   omega
theorem Z7u{f:Addr}{fd:FuncData}(F:Fun K "_law_whole" "_law_whole" Z47 f fd)(T:Txt K mg Z3 Z4 Z7 Z2 Z8 Z6 Z1 Z5 Z9 Z0):FnOk P w K mg base (CXF P w) 1 f fd ["_law_found"] (sp57_whole):=by
 have sc:FnScope ["_law_found"] ["_law_found"] (defScope Z47):=by walk_at "sc"
 refine F.okF sc (fun vs H Q E h=>?_) (fun cdv A outer s H vs Q E hr h=>?_)
 · obtain ⟨_,rfl,_⟩:=h;rfl
 obtain ⟨i,rfl,q⟩:=h
 refine ⟨_,(@pss_one _ _ _ (@ps_ret _ _ _ _ (pe_and (pe_callB call_isinst rfl T.Zc (by first | rfl | decide+kernel) (pa_cons (pv 0) (pa_cons (pe_bltn (v:= .ty "int") rfl T.Z4k (by first | rfl | decide+kernel) rfl) pa_nil))) (pe_one (pe_not (pe_callB call_isinst rfl T.Zc (by first | rfl | decide+kernel) (pa_cons (pv 0) (pa_cons (pe_bltn (v:= .ty "bool") rfl T.Z1e (by first | rfl | decide+kernel) rfl) pa_nil)))))))),?_⟩
 walk_at "st"
 walk_at "go"
 exact q
theorem Z6m{f:Addr}{fd:FuncData}(F:Fun K "_law_shared" "_law_shared" Z36 f fd)(T:Txt K mg Z3 Z4 Z7 Z2 Z8 Z6 Z1 Z5 Z9 Z0):FnOk P w K mg base (CXF P w) 1 f fd ["_law_one","_law_other"] (sp57_shared):=by
 have sc:FnScope ["_law_one","_law_other"] ["_law_one","_law_other"] (defScope Z36):=by walk_at "sc"
 refine F.okF sc (fun vs H Q E h=>?_) (fun cdv A outer s H vs Q E hr h=>?_)
 · obtain ⟨_,_,rfl,_⟩:=h;rfl
 obtain ⟨i,j,rfl,hj,q⟩:=h
 refine ⟨_,(@pss_cons _ _ _ _ _ (ps_set (i:=0) sc.nd rfl (Or.inl rfl) (pe_callB call_abs rfl T.Z2z (by first | rfl | decide+kernel) (pa_cons (pv 0) pa_nil)))
  (@pss_cons _ _ _ _ _ (ps_while own_outF (pt_cmpR op_ne (pv 1) pe_int (nomark _))
   (@pss_one _ _ _ (ps_par (i:=0) (j:=1) rfl sc.nd rfl rfl (by decide) rfl rfl (pa_cons (pv 1) (pa_cons (pe_op op_mod (pv 0) (pv 1)) pa_nil)) rfl)))
  (@pss_one _ _ _ (@ps_ret _ _ _ _ (pv 0))))),?_⟩
 walk_at "st"
 walk_at "go"
 rename_i rest hrest
 refine while_d (m0:=j.toNat) (fun m σ H'=>∃(x y:Int),σ=[some (V.int x),some (V.int y)]∧H'=H∧0≤x∧0≤y∧m=y.toNat∧Int.gcd x y=Int.gcd i j) ⟨_,_,rfl,rfl,by split <;> omega,hj,rfl,gcd_abs1 i j⟩ ?_
 rintro m σ H' ⟨x,y,rfl,rfl,hx,hy,rfl,hg⟩
 walk_at "go"
 split
 · rename_i hy0
   refine ⟨fun σ' H''=>∃m',m' < y.toNat∧∃(x y:Int),σ'=[some (V.int x),some (V.int y)]∧H''=H'∧0≤x∧0≤y∧m'=y.toNat∧Int.gcd x y=Int.gcd i j,fun _ _ h=>h,?_⟩
   have hp:0 < y:=by omega
   walk_at "go"
   have h1:=Int.emod_nonneg x (show y≠0 by omega)
   have h2:=Int.emod_lt_of_pos x hp
   exact ⟨(x % y).toNat,by omega,by omega,h1,rfl,gcd_step hx hp hg⟩
 · rename_i hy0
   have hy0:y=0:=by omega
   subst hy0
   subst hrest
   walk_at "go"
   have hh:=gcd_zero_right' hx
   rw [hg]at hh
   rw [← hh];exact q
theorem Z7v{f:Addr}{fd:FuncData}(F:Fun K "_law_ratio" "_law_ratio" Z48 f fd)(T:Txt K mg Z3 Z4 Z7 Z2 Z8 Z6 Z1 Z5 Z9 Z0)(Z1x:Def P w K mg base (CXF P w) 1 "_law_whole" ["_law_found"] (sp57_whole))(Z0e:Def P w K mg base (CXF P w) 1 "_law_shared" ["_law_one","_law_other"] (sp57_shared)):FnOk P w K mg base (CXF P w) 2 f fd ["_law_found"] (sp57_lratio):=by
 have sc:FnScope ["_law_found"] ["_law_found"] (defScope Z48):=by walk_at "sc"
 refine F.okF sc (fun vs H Q E h=>?_) (fun cdv A outer s H vs Q E hr h=>?_)
 · obtain ⟨_,_,_,rfl,_⟩:=h;rfl
 obtain ⟨a,U,v,rfl,ha,hU,q⟩:=h
 refine ⟨_,(@pss_cons _ _ _ _ _ (ps_if (PW.pt (pw_or (pt_not (pt_val (pe_callB call_isinst rfl T.Zc (by first | rfl | decide+kernel) (pa_cons (pv 0) (pa_cons (pe_bltn (v:= .ty "tuple") rfl T.Z1d (by first | rfl | decide+kernel) rfl) pa_nil))))) (pw_or (pt_cmpR op_ne (pe_callB call_len_seq rfl T.Zy PySem.boot_len (pa_cons (pv 0) pa_nil)) pe_int (nomark _)) (pw_or (pt_not (pt_val (pe_callD Z1x hr rfl pass_onF (pa_cons (@pe_ix _ _ _ _ _ _ _ ix_tup (pv 0) pe_int (fun _ _=>rfl)) pa_nil)))) (pw_or1 (pt_not (pt_val (pe_callD Z1x hr rfl pass_onF (pa_cons (@pe_ix _ _ _ _ _ _ _ ix_tup (pv 0) pe_int (fun _ _=>rfl)) pa_nil)))))))))
  (@pss_one _ _ _ (@ps_ret _ _ _ _ pe_bl))
  pss_nil)
  (@pss_one _ _ _ (@ps_ret _ _ _ _ (pe_and (pe_cmpR op_gt (@pe_ix _ _ _ _ _ _ _ ix_tup (pv 0) pe_int (fun _ _=>rfl)) pe_int (nomark _)) (pe_one (pe_cmpR op_eq (pe_callD Z0e hr rfl pass_onF (pa_cons (@pe_ix _ _ _ _ _ _ _ ix_tup (pv 0) pe_int (fun _ _=>rfl)) (pa_cons (@pe_ix _ _ _ _ _ _ _ ix_tup (pv 0) pe_int (fun _ _=>rfl)) pa_nil))) pe_int (nomark _))))))),?_⟩
 walk_at "st"
 have line:=line_val
 obtain ⟨c1,c2,c3,_⟩:=rt_all (v:=v) hU
 unfold RtA at ha
 walk_at "go"
 refine ⟨_,.inr (SqT.of ha),?_⟩
 rw [if_neg (by show ¬¬((2:Nat):Int)=2;decide)]
 refine ixT_of (SqT.of ha) (v:=V.int (rt U v).1) rfl ⟨_,rfl,ixT_of (SqT.of ha) (v:=V.int (rt U v).2) rfl ⟨_,rfl,?_⟩⟩
 rename_i rest hrest
 subst hrest
 walk_at "go"
 refine ixT_of (SqT.of ha) (v:=V.int (rt U v).2) rfl ⟨_,rfl,?_⟩
 rw [if_pos c2]
 refine ixT_of (SqT.of ha) (v:=V.int (rt U v).1) rfl (ixT_of (SqT.of ha) (v:=V.int (rt U v).2) rfl ⟨_,rfl,_,rfl,by omega,?_⟩)
 rw [c3,decide_eq_true (by rfl)]
 exact q
theorem Z7w{f:Addr}{fd:FuncData}(F:Fun K "_law_scale" "_law_scale" Z49 f fd)(T:Txt K mg Z3 Z4 Z7 Z2 Z8 Z6 Z1 Z5 Z9 Z0)(Z0e:Def P w K mg base (CXF P w) 1 "_law_shared" ["_law_one","_law_other"] (sp57_shared)):FnOk P w K mg base (CXF P w) 2 f fd ["_law_rows_here"] (sp56_scale K):=by
 have sc:FnScope ["_law_rows_here","_law_scale_here","_law_name","_law_cost","_law_room"] ["_law_rows_here"] (defScope Z49):=by walk_at "sc"
 refine F.okF sc (fun vs H Q E h=>?_) (fun cdv A outer s H vs Q E hr h=>?_)
 · obtain ⟨_,_,_,rfl,_⟩:=h;rfl
 obtain ⟨r,as,ts,rfl,hR,q⟩:=h
 refine ⟨_,(@pss_cons _ _ _ _ _ (ps_set (i:=1) sc.nd rfl (Or.inl rfl) pe_int)
  (@pss_cons _ _ _ _ _ (ps_for own_outF rfl (pi_list (pv 0)) (pg_tup rfl (pgs_cons (pg_name (i:=2) sc.nd rfl (Or.inl rfl)) (pgs_cons (pg_name (i:=3) sc.nd rfl (Or.inl rfl)) (pgs_cons (pg_name (i:=4) sc.nd rfl (Or.inl rfl)) pgs_nil))))
   (@pss_one _ _ _ (ps_set (i:=1) sc.nd rfl (Or.inl rfl) (pe_op op_fdivH (pe_op op_mulH (pv 1) (pv 4)) (pe_callD Z0e hr rfl pass_onF (pa_cons (pv 1) (pa_cons (pv 4) pa_nil)))))))
  (@pss_one _ _ _ (@ps_ret _ _ _ _ (pv 1))))),?_⟩
 walk_at "st"
 have line:=line_val
 have hn:=hR.n
 have hm:=hR.m
 walk_at "go"
 refine ⟨⟨_,hR.l⟩,?_⟩
 rename_i rest hrest
 refine forL_by (xs:=as.map V.ref) (fun i σ H'=>∃(S:Int) (v2 v3 v4:Option V),σ=[some (V.ref r),some (V.int S),v2,v3,v4]∧H'=H∧0 < S∧S≤1000 ^ i∧∀t∈ts.take i,t.2.2 ∣ S) ⟨1,none,none,none,rfl,rfl,by decide,by decide,fun t ht=>by rw [List.take_zero]at ht;cases ht⟩ (fun i σ H' _ h_=>by obtain ⟨_,_,_,_,_,rfl,_⟩:=h_;exact hR.l) ?_ ?_
 · clear hrest
   rintro i u σ H' hu ⟨S,v2,v3,v4,rfl,rfl,hS,hSb,hall⟩
   rw [List.getElem?_map]at hu
   cases ha:as[i]? with
   | none=>rw [ha]at hu;cases hu
   | some p=>
   rw [ha]at hu
   cases hu
   have hi:i < ts.length:=by rw [← hn];exact (List.getElem?_eq_some_iff.mp ha).1
   have ht:=th_at hi
   have hT:=hR.at_ i p _ ha ht
   obtain ⟨k1,k2,k3,k4,k5⟩:=hR.ok _ (List.mem_of_getElem? ht)
   have htk:ts.take (i+1)=ts.take i++[ts.getD i th0]:=by rw [List.take_succ,ht];rfl
   generalize ts.getD i th0=t at hT ht k1 k2 k3 k4 k5 htk
   have hp60:(1000:Int) ^ i≤10 ^ 180:=by
    have e1:(1000:Int) ^ 60=10 ^ 180:=by decide+kernel
    rw [← e1]
    have:=pow_up i (60 - i)
    rw [show i+(60 - i)=60 by omega]at this
    exact this
   have hg:=gcd_bounds hS (show 0 < t.2.2 by omega)
   walk_at "go"
   refine ⟨_,hT,rfl,_,_,rfl,_,_,rfl,_,_,rfl,rfl,?_⟩
   walk_at "go"
   obtain ⟨g1,g2,g3,g4,g5⟩:=hg
   have ht0:0 < t.2.2:=by omega
   obtain ⟨l1,l2,l3,l4⟩:=lcm_step hS ht0 (Int.dvd_mul_right S t.2.2) (Int.dvd_mul_left S t.2.2)
   have eL:(S * t.2.2).fdiv (Int.gcd S t.2.2)=S.fdiv (Int.gcd S t.2.2) * t.2.2:=by
    obtain ⟨k,hk⟩:(Int.gcd S t.2.2:Int) ∣ S:=Int.gcd_dvd_left ..
    rw [Int.fdiv_eq_ediv_of_nonneg _ (by omega),Int.fdiv_eq_ediv_of_nonneg _ (by omega)]
    have g1':(0:Int) < (Int.gcd S t.2.2:Int):=by omega
    generalize (Int.gcd S t.2.2:Int)=G at hk g1' ⊢
    rw [hk,Int.mul_assoc,Int.mul_ediv_cancel_left _ (by omega),Int.mul_ediv_cancel_left _ (by omega)]
   rw [eL]
   have hbd:S.fdiv (Int.gcd S t.2.2) * t.2.2≤1000 ^ (i+1):=by
    rw [Int.pow_succ]
    exact Int.mul_le_mul (by omega) k5 (by omega) (Int.pow_nonneg (by decide))
   have hSn:S.natAbs < 10 ^ 1000:=nat_lt (a:=180) (by omega) (by omega) (by decide)
   have htn:t.2.2.natAbs < 10 ^ 1000:=nat_lt (a:=10) (by omega) (by omega) (by decide)
   refine ⟨⟨hSn,htn⟩,by omega,by omega,nat_lt (a:=10) (by omega) (by omega) (by decide),l1,hbd,fun u hu=>?_⟩
   rw [htk]at hu
   rcases List.mem_append.mp hu with hu | hu
   · exact Int.dvd_trans (hall u hu) l4
   · rw [List.mem_singleton.mp hu];exact l3
 · rintro σ H' ⟨S,v2,v3,v4,rfl,rfl,hS,hSb,hall⟩
   rw [List.length_map,hn,List.take_length]at hall
   rw [List.length_map]at hSb
   have hp60:(1000:Int) ^ as.length≤10 ^ 180:=by
    have e1:(1000:Int) ^ 60=10 ^ 180:=by decide+kernel
    rw [← e1]
    have:=pow_up as.length (60 - as.length)
    rw [show as.length+(60 - as.length)=60 by omega]at this
    exact this
   subst hrest
   walk_at "go"
   exact q S hS (Int.le_trans hSb hp60) hall
theorem Z7x{f:Addr}{fd:FuncData}(F:Fun K "_law_least" "_law_least" Z4a f fd)(T:Txt K mg Z3 Z4 Z7 Z2 Z8 Z6 Z1 Z5 Z9 Z0):FnOk P w K mg base (CXF P w) 1 f fd ["_law_lying","_law_due_here","_law_last"] (sp56_least):=by
 have sc:FnScope ["_law_lying","_law_due_here","_law_last","_law_pick","_law_name"] ["_law_lying","_law_due_here","_law_last"] (defScope Z4a):=by walk_at "sc"
 refine F.okF sc (fun vs H Q E h=>?_) (fun cdv A outer s H vs Q E hr h=>?_)
 · obtain ⟨_,_,_,_,_,_,_,_,rfl,_⟩:=h;rfl
 obtain ⟨ly,co,la,L,kc,kl,c,m,rfl,hL,hne,hc,hm,hcv,hmv,q⟩:=h
 refine ⟨_,(@pss_cons _ _ _ _ _ (ps_set (i:=3) sc.nd rfl (Or.inl rfl) (@pe_ix _ _ _ _ _ _ _ ix_list (pv 0) pe_int (fun _ _=>rfl)))
  (@pss_cons _ _ _ _ _ (ps_for own_outF rfl (pi_list (pv 0)) (pg_name (i:=4) sc.nd rfl (Or.inl rfl))
   (@pss_one _ _ _ (ps_if (PW.pt (pw_or (pt_cmpR op_lt (pe_dget (hu_of hr) (pv 1) (pv 4) (fun _ _=>rfl)) (pe_dget (hu_of hr) (pv 1) (pv 3) (fun _ _=>rfl)) (nomark _)) (pw_or1 (PW.pt (pw_and (pt_cmpR op_eq (pe_dget (hu_of hr) (pv 1) (pv 4) (fun _ _=>rfl)) (pe_dget (hu_of hr) (pv 1) (pv 3) (fun _ _=>rfl)) (nomark _)) (pw_and1 (pt_cmpR op_lt (pe_dget (hu_of hr) (pv 2) (pv 4) (fun _ _=>rfl)) (pe_dget (hu_of hr) (pv 2) (pv 3) (fun _ _=>rfl)) (nomark _))))))))
    (@pss_one _ _ _ (ps_set (i:=3) sc.nd rfl (Or.inl rfl) (pv 4)))
    pss_nil)))
  (@pss_one _ _ _ (@ps_ret _ _ _ _ (pv 3))))),?_⟩
 walk_at "st"
 have line:=line_val
 have hl0:0 < L.length:=List.length_pos_iff.mpr hne
 have h0:=List.getElem?_eq_getElem hl0
 have hp0:=List.getElem_mem hl0
 generalize L[0]=p0 at h0 hp0
 walk_at "go"
 refine ixL_of (SqL.of hL) (v:=V.str p0) (atI_nat (j:=0) (by rw [List.getElem?_map,h0];rfl)) ?_
 rename_i rest hrest
 subst hrest
 walk_at "go"
 refine ⟨⟨_,SqL.of hL⟩,?_⟩
 rename_i rest hrest
 refine forL_by (xs:=L.map V.str) (fun i σ H'=>∃(p:Str) (v4:Option V),σ=[some (V.ref ly),some (V.ref co),some (V.ref la),some (V.str p),v4]∧H'=H∧p∈L∧∀j u,j < i→L[j]?=some u→c p < c u∨(c p=c u∧m p≤m u)) ⟨p0,none,rfl,rfl,hp0,fun j u hj=>absurd hj (Nat.not_lt_zero _)⟩ (fun i σ H' _ ⟨_,_,_,e,_⟩=>by rw [e];exact SqL.of hL) ?_ ?_
 · clear hrest
   rintro i v σ H' hu ⟨p,v4,rfl,rfl,hp,hall⟩
   rw [List.getElem?_map]at hu
   cases hz:L[i]? with
   | none=>rw [hz]at hu;cases hu
   | some x=>
   rw [hz]at hu
   cases hu
   have hx:=List.mem_of_getElem? hz
   walk_at "go"
   have hend:∀p3,p3∈L→(∀j u,j < i→L[j]?=some u→c p3 < c u∨(c p3=c u∧m p3≤m u))→(c p3 < c x∨(c p3=c x∧m p3≤m x))→p3∈L∧∀(j:Nat) (u:Str),j < i+1→L[j]?=some u→c p3 < c u∨(c p3=c u∧m p3≤m u):=fun p3 h1 h2 h3=>⟨h1,fun j u hj hu=>by
    by_cases e:j=i
    · rw [e,hz]at hu
      cases hu
      exact h3
    · exact h2 j u (by omega) hu⟩
   have gcx:=DGet.k (k:=Sum.inr x) hc
   have gcp:=DGet.k (k:=Sum.inr p) hc
   rw [hcv x hx]at gcx
   rw [hcv p hp]at gcp
   refine ⟨_,gcx,_,gcp,_,rfl,_,rfl,?_⟩
   by_cases hlt:c x < c p
   · rw [if_pos hlt]
     exact hend x hx (fun j u hj hu=>by have:=hall j u hj hu;omega) (.inr ⟨rfl,Int.le_refl _⟩)
   · rw [if_neg hlt]
     refine ⟨_,gcx,_,gcp,rfl,?_⟩
     by_cases he:c x=c p
     · rw [if_pos (by rw [he])]
       refine ⟨_,by rw [← hmv x hx];exact DGet.k (k:=Sum.inr x) hm,_,by rw [← hmv p hp];exact DGet.k (k:=Sum.inr p) hm,_,rfl,_,rfl,?_⟩
       by_cases hml:m x < m p
       · rw [if_pos hml]
         exact hend x hx (fun j u hj hu=>by have:=hall j u hj hu;omega) (.inr ⟨rfl,Int.le_refl _⟩)
       · rw [if_neg hml]
         exact hend p hp hall (.inr ⟨he.symm,by omega⟩)
     · rw [if_neg (fun e=>he (by injection e))]
       exact hend p hp hall (.inl (by omega))
 · rintro σ H' ⟨p,v4,rfl,rfl,hp,hall⟩
   rw [List.length_map]at hall
   subst hrest
   walk_at "go"
   exact q p ⟨hp,fun u hu=>by
    obtain ⟨j,hj⟩:=List.mem_iff_getElem?.mp hu
    exact hall j u (List.getElem?_eq_some_iff.mp hj).1 hj⟩
theorem Z9r{f:Addr}{fd:FuncData}(F:Fun K "_law_due" "_law_due" Z5f f fd)(T:Txt K mg Z3 Z4 Z7 Z2 Z8 Z6 Z1 Z5 Z9 Z0)(Z4e:Def P w K mg base (CXF P w) 1 "_law_least" ["_law_lying","_law_due_here","_law_last"] (sp56_least)):FnOk P w K mg base (CXF P w) 2 f fd ["_law_rooms_here","_law_shares","_law_asks_here","_law_places_here"] (sp56_run K Z0):=by
 have sc:FnScope ["_law_rooms_here","_law_shares","_law_asks_here","_law_places_here","_law_level","_law_due_here","_law_last","_law_lying","_law_book","_law_number","_law_name","_law_went","_law_there","_law_left","_law_pick"] ["_law_rooms_here","_law_shares","_law_asks_here","_law_places_here"] (defScope Z5f):=by walk_at "sc"
 refine F.okF sc (fun vs H Q E h=>?_) (fun cdv A outer s H vs Q E hr h=>?_)
 · obtain ⟨_,_,_,_,_,_,_,_,rfl,_⟩:=h;rfl
 obtain ⟨e,se,a,n,U,ts,ys,ks0,rfl,he,hse,hsv,hU,nd,htl,ha,hlen,hin,hrm,q⟩:=h
 refine ⟨_,(@pss_cons _ _ _ _ _ (ps_set (i:=4) sc.nd rfl (Or.inl rfl) pe_int)
  (@pss_cons _ _ _ _ _ (ps_set (i:=5) sc.nd rfl (Or.inl rfl) pe_dnewK)
  (@pss_cons _ _ _ _ _ (ps_set (i:=6) sc.nd rfl (Or.inl rfl) pe_dnewK)
  (@pss_cons _ _ _ _ _ (ps_set (i:=7) sc.nd rfl (Or.inl rfl) (@pe_lst _ _ _ _ pa_nil))
  (@pss_cons _ _ _ _ _ (ps_set (i:=8) sc.nd rfl (Or.inl rfl) (@pe_lst _ _ _ _ pa_nil))
  (@pss_cons _ _ _ _ _ (ps_for own_outF rfl (pi_enum rfl T.Z05 (pa_cons (pv 2) pa_nil)) (pg_tup rfl (pgs_cons (pg_name (i:=9) sc.nd rfl (Or.inl rfl)) (pgs_cons (pg_name (i:=10) sc.nd rfl (Or.inl rfl)) pgs_nil)))
   (@pss_cons _ _ _ _ _ (ps_dput (hu_of hr) (pv 6) (pv 10) (pv 9) rfl)
   (@pss_cons _ _ _ _ _ (ps_set (i:=11) sc.nd rfl (Or.inl rfl) (@pe_lst _ _ _ _ pa_nil))
   (@pss_cons _ _ _ _ _ (ps_set (i:=12) sc.nd rfl (Or.inl rfl) (pe_cmpR op_in_seq (pv 10) (pv 7) (by with_unfolding_all rfl)))
   (@pss_cons _ _ _ _ _ (ps_set (i:=13) sc.nd rfl (Or.inl rfl) (pe_op op_sub (pv 3) (pe_callB (call_sumL rfl) rfl T.Z2y (by first | rfl | decide+kernel) (pa_cons (pe_comp1 "_law_other" [0] rfl rfl (pi_list (pv 7)) (fun b=>(pe_dget (hu_of hr) (pv 1) (pv 0) (fun _ _=>rfl)))) pa_nil))))
   (@pss_cons _ _ _ _ _ (ps_while own_outF (PW.pt (pw_and (pt_not (pt_val (pv 12))) (pw_and1 (pt_cmpR op_lt (pv 13) (pe_dget (hu_of hr) (pv 0) (pv 10) (fun _ _=>rfl)) (nomark _)))))
    (@pss_cons _ _ _ _ _ (ps_set (i:=14) sc.nd rfl (Or.inl rfl) (pe_callD Z4e hr rfl pass_onF (pa_cons (pv 7) (pa_cons (pv 5) (pa_cons (pv 6) pa_nil)))))
    (@pss_cons _ _ _ _ _ (ps_expr (pe_bm PySem.F.plainAttrs_list PySem.F.slot_list_remove PySem.F.type_list_remove mt_remove (pv 7) (pa_cons (pv 14) pa_nil)))
    (@pss_cons _ _ _ _ _ (ps_set (i:=13) sc.nd rfl (Or.inl rfl) (pe_op op_add (pv 13) (pe_dget (hu_of hr) (pv 0) (pv 14) (fun _ _=>rfl))))
    (@pss_cons _ _ _ _ _ (ps_set (i:=4) sc.nd rfl (Or.inl rfl) (pe_dpop1 (pv 5) (pv 14) ⟨rfl,rfl,rfl,rfl⟩))
    (@pss_one _ _ _ (ps_expr (pe_bm PySem.F.plainAttrs_list PySem.F.slot_list_append PySem.F.type_list_append mt_append (pv 11) (pa_cons (pv 14) pa_nil)))))))))
   (@pss_cons _ _ _ _ _ (ps_if (pt_not (pt_val (pv 12)))
    (@pss_one _ _ _ (ps_expr (pe_bm PySem.F.plainAttrs_list PySem.F.slot_list_append PySem.F.type_list_append mt_append (pv 7) (pa_cons (pv 10) pa_nil))))
    pss_nil)
   (@pss_cons _ _ _ _ _ (ps_dput (hu_of hr) (pv 5) (pv 10) (pe_op op_add (pv 4) (pe_dget (hu_of hr) (pv 1) (pv 10) (fun _ _=>rfl))) rfl)
   (@pss_one _ _ _ (ps_expr (pe_bm PySem.F.plainAttrs_list PySem.F.slot_list_append PySem.F.type_list_append mt_append (pv 8) (pa_cons (pe_tup (pa_cons (pv 10) (pa_cons (pv 12) (pa_cons (pv 11) pa_nil)))) pa_nil))))))))))))
  (@pss_one _ _ _ (@ps_ret _ _ _ _ (pe_tup (pa_cons (pv 8) (pa_cons (pv 4) (pa_cons (pv 5) pa_nil)))))))))))),?_⟩
 walk_at "st"
 have line:=line_val
 have hDI0:DI U ts (ts.map (·.1)) ⟨0,[],fun _=>0,[]⟩ []:=(PI.start (ys:=ys) (F:=n) (P:=n) hU nd fun y h=>h).di
 walk_at "go"
 intro co hco
 have s1:Same H (upd H co (.dK [])):=Same.new hco
 have g1:upd H co (.dK []) co=some (.dK []):=upd_same
 generalize upd H co (.dK [])=H1 at s1 g1 ⊢
 rename_i rest hrest
 subst hrest
 walk_at "go"
 intro la hla
 have s2:Same H1 (upd H1 la (.dK [])):=Same.new hla
 have g2:upd H1 la (.dK []) la=some (.dK []):=upd_same
 have g21:=s2 _ _ g1
 have ncl:co≠la:=fun e=>by rw [e,hla]at g1;cases g1
 generalize upd H1 la (.dK [])=H2 at s2 g2 g21 ⊢
 rename_i rest hrest
 subst hrest
 walk_at "go"
 intro ly hly
 have s3:Same H2 (upd H2 ly (.lst [])):=Same.new hly
 have g3:upd H2 ly (.lst []) ly=some (.lst (([]:List Str).map V.str)):=upd_same
 have g31:=s3 _ _ g21
 have g32:=s3 _ _ g2
 generalize upd H2 ly (.lst [])=H3 at s3 g3 g31 g32 ⊢
 rename_i rest hrest
 subst hrest
 walk_at "go"
 intro bk hbk
 have s4:Same H3 (upd H3 bk (.lst [])):=Same.new hbk
 have g4:upd H3 bk (.lst []) bk=some (.lst (([]:List Addr).map V.ref)):=upd_same
 have g41:=s4 _ _ g31
 have g42:=s4 _ _ g32
 have g43:=s4 _ _ g3
 have nlb:ly≠bk:=fun e=>by rw [e,hbk]at g3;cases g3
 generalize upd H3 bk (.lst [])=H4 at s4 g4 g41 g42 g43 ⊢
 have s04:=((s1.trans s2).trans s3).trans s4
 have hM:∀p∈[co,la,ly,bk],H p=none:=fun p hp=>by
  simp only [List.mem_cons,List.not_mem_nil,or_false]at hp
  rcases hp with e | e | e | e
  · rw [e];exact hco
  · rw [e];exact same_none s1 hla
  · rw [e];exact same_none (s1.trans s2) hly
  · rw [e];exact same_none ((s1.trans s2).trans s3) hbk
 clear s1 s2 s3 s4 g1 g2 g21 g3 g31 g32 hco hla hly hbk
 rename_i rest hrest
 subst hrest
 walk_at "go"
 rename_i rest hrest
 refine ⟨⟨_,s04.seq ha⟩,?_⟩
 refine forE_by (xs:=ys.map V.str) (fun i σ H'=>∃(v9 v10 v11 v12 v13 v14:Option V) (as gs:List Addr) (kd kl:List (Key×V)) (g:Str→Int),σ=[some (V.ref e),some (V.ref se),some (V.ref a),some (V.int n),some (V.int (gst (TD Z0 U ts) (rm ts) n ⟨0,[],fun _=>0,[]⟩ ys i).1.r),some (V.ref co),some (V.ref la),some (V.ref ly),some (V.ref bk),v9,v10,v11,v12,v13,v14]∧Same H H'∧H' co=some (.dK kd)∧H' la=some (.dK kl)∧kd.length≤i∧kl.length≤i∧LawU (gst (TD Z0 U ts) (rm ts) n ⟨0,[],fun _=>0,[]⟩ ys i).1 (gst (TD Z0 U ts) (rm ts) n ⟨0,[],fun _=>0,[]⟩ ys i).2 i kd kl g∧H' ly=some (.lst ((gst (TD Z0 U ts) (rm ts) n ⟨0,[],fun _=>0,[]⟩ ys i).2.map V.str))∧H' bk=some (.lst (as.map V.ref))∧RunB [co,la,ly,bk] H' as gs (grows (TD Z0 U ts) (rm ts) n ⟨0,[],fun _=>0,[]⟩ ys i)) ⟨none,none,none,none,none,none,[],[],[],[],fun _=>0,rfl,s04,g41,g42,Nat.le_refl _,Nat.le_refl _,LawU.nil,g43,g4,RunB.nil⟩ (fun i σ H' _ ⟨_,_,_,_,_,_,_,_,_,_,_,_,sm,_⟩=>sm.seq ha) ?_ ?_
 · clear hrest g41 g42 g43 g4 s04
   rintro i u σ H' t hu ⟨v9,v10,v11,v12,v13,v14,as,gs,kd,kl,g,rfl,sm,hCo,hLa,hcl,hll0,hD,hLy,hBk,hrun⟩ ht
   rw [List.getElem?_map]at hu
   cases hz:ys[i]? with
   | none=>rw [hz]at hu;cases hu
   | some z=>
   rw [hz]at hu
   cases hu
   have hi:i < ys.length:=(List.getElem?_eq_some_iff.mp hz).1
   have hzm:=List.mem_of_getElem? hz
   have hsi:=gst_inv (T:=TD Z0 U ts) (R:=rm ts) (n:=n) (s0:=⟨0,[],fun _=>0,[]⟩) (ns:=ts.map (·.1)) hDI0 hin hrm i (by omega)
   have hll:=N25.nd_len hsi.nd hsi.s
   rw [List.length_map]at hll
   have hrs:=grows_succ (T:=TD Z0 U ts) (R:=rm ts) (n:=n) (s0:=⟨0,[],fun _=>0,[]⟩) hz
   have hss:=gst_succ (T:=TD Z0 U ts) (R:=rm ts) (n:=n) (s0:=⟨0,[],fun _=>0,[]⟩) hz
   have hrn:=hrun.n
   rw [grows_len (T:=TD Z0 U ts) (R:=rm ts) (n:=n) (s0:=⟨0,[],fun _=>0,[]⟩) (ys:=ys) (i:=i)]at hrn
   have hrn1:=Nat.le_of_eq hrn
   clear hrn
   rw [hss,hrs]
   generalize gst (TD Z0 U ts) (rm ts) n ⟨0,[],fun _=>0,[]⟩ ys i=S at hsi hll hD hLy ⊢
   obtain ⟨s,l,rfl⟩:∃(s:DuS) (l:List Str),S=(s,l):=⟨S.1,S.2,rfl⟩
   have hdi:DI U ts (ts.map (·.1)) s l:=hsi.i
   have hlnd:l.Nodup:=hsi.nd
   have hsub:∀u∈l,u∈ts.map (·.1):=hsi.s
   have hD2:LawU s l i kd kl g:=hD
   simp only at hll hLy ⊢
   generalize grows (TD Z0 U ts) (rm ts) n ⟨0,[],fun _=>0,[]⟩ ys i=rs at hrun ⊢
   clear hss hrs hsi hD
   have smt:Same H' (upd H' t (.tup [V.int i,V.str z])):=Same.new ht
   have ktt:upd H' t (.tup [V.int i,V.str z]) t=some (.tup [V.int i,V.str z]):=upd_same
   have sm1:=sm.trans smt
   have hCo1:=smt _ _ hCo
   have hLa1:=smt _ _ hLa
   have hLy1:=smt _ _ hLy
   have hBk1:=smt _ _ hBk
   have hrun1:=hrun.kp (.of smt)
   generalize upd H' t (.tup [V.int i,V.str z])=H5 at smt ktt sm1 hCo1 hLa1 hLy1 hBk1 hrun1 ⊢
   clear smt sm hCo hLa hLy hBk hrun ht
   walk_at "go"
   refine ⟨_,SqT.of ktt,rfl,_,_,rfl,_,_,rfl,rfl,?_⟩
   have hlk:=length_putK kl (Sum.inr z:Key) (V.int (i:Int))
   have hCL:co≠ly:=fun e=>by rw [e,hLy1]at hCo1;cases hCo1
   have hCB:co≠bk:=fun e=>by rw [e,hBk1]at hCo1;cases hCo1
   have hLL:la≠ly:=fun e=>by rw [e,hLy1]at hLa1;cases hLa1
   have hLB:la≠bk:=fun e=>by rw [e,hBk1]at hLa1;cases hLa1
   walk_at "go"
   refine ⟨_,DPut.k (k:=Sum.inr z) hLa1 (by omega),?_⟩
   have sm3:Same H (upd H5 la (.dK (putK kl (Sum.inr z) (.int (i:Int))))):=upd_but sm1 (hM la (by simp))
   have hCo3:upd H5 la (.dK (putK kl (Sum.inr z) (.int (i:Int)))) co=some (.dK kd):=by rw [upd_ne ncl];exact hCo1
   have hLa3:upd H5 la (.dK (putK kl (Sum.inr z) (.int (i:Int)))) la=some (.dK (putK kl (Sum.inr z) (.int (i:Int)))):=upd_same
   have hLy3:upd H5 la (.dK (putK kl (Sum.inr z) (.int (i:Int)))) ly=some (.lst (l.map V.str)):=by rw [upd_ne hLL.symm];exact hLy1
   have hBk3:upd H5 la (.dK (putK kl (Sum.inr z) (.int (i:Int)))) bk=some (.lst (as.map V.ref)):=by rw [upd_ne hLB.symm];exact hBk1
   have hrun3:=hrun1.kp ((Kp.of (Same.refl H5)).upd (p:=la) (o:= .dK (putK kl (Sum.inr z) (.int (i:Int)))) (by simp))
   generalize upd H5 la (.dK (putK kl (Sum.inr z) (.int (i:Int))))=H7 at sm3 hCo3 hLa3 hLy3 hBk3 hrun3 ⊢
   clear sm1 hCo1 hLa1 hLy1 hBk1 hrun1 ktt
   rename_i rest2 hrest2
   subst hrest2
   walk_at "go"
   intro w hw
   have hw0:=same_none sm3 hw
   have n1:ly≠w:=fun e=>by rw [e,hw]at hLy3;cases hLy3
   have n3:bk≠w:=fun e=>by rw [e,hw]at hBk3;cases hBk3
   have n4:co≠w:=fun e=>by rw [e,hw]at hCo3;cases hCo3
   have n5:la≠w:=fun e=>by rw [e,hw]at hLa3;cases hLa3
   have smw:Same H7 (upd H7 w (.lst [])):=Same.new hw
   have hww:upd H7 w (.lst []) w=some (.lst (([]:List Str).map V.str)):=upd_same
   have hrun4:=(RunB.wide hrun3 hw).kp (.of smw)
   have hCo4:=smw _ _ hCo3
   have hLa4:=smw _ _ hLa3
   have hLy4:=smw _ _ hLy3
   have hBk4:=smw _ _ hBk3
   have sm4:=sm3.trans smw
   generalize upd H7 w (.lst [])=H8 at hww hrun4 hCo4 hLa4 hLy4 hBk4 sm4 ⊢
   clear smw hw hrun3 hCo3 hLa3 hLy3 hBk3 sm3
   rename_i rest2 hrest2
   subst hrest2
   walk_at "go"
   refine in_go (SqL.of hLy4) ?_
   rename_i rest2 hrest2
   subst hrest2
   walk_at "go"
   refine ⟨⟨_,SqL.of hLy4⟩,?_⟩
   refine compL_pure (fun v=>match v with | .str y=>V.int (rm ts y) | v=>v) (SqL.of hLy4) (by rw [List.length_map];omega) (fun b x H9 Q' hx sm9 q'=>?_) fun D hD=>?_
   · obtain ⟨y,hy,rfl⟩:=List.mem_map.mp hx
     have he9:=(sm4.trans sm9) _ _ he
     have hRy:=rmK_val nd (hsub y hy)
     walk_at "go"
     exact ⟨_,by rw [← hRy];exact DGet.k (k:=Sum.inr y) he9,q'⟩
   have eD:((l.map V.str).map fun v=>match v with | .str y=>V.int (rm ts y) | v=>v)=(l.map (rm ts)).map V.int:=by rw [List.map_map,List.map_map];rfl
   rw [eD]
   clear eD
   have smD:Same H8 (upd H8 D (.lst ((l.map (rm ts)).map V.int))):=Same.new hD
   have hDD:upd H8 D (.lst ((l.map (rm ts)).map V.int)) D=some (.lst ((l.map (rm ts)).map V.int)):=upd_same
   generalize upd H8 D (.lst ((l.map (rm ts)).map V.int))=H9 at smD hDD ⊢
   refine ⟨D,rfl,l.map (rm ts),SqL.of hDD,?_⟩
   rw [show (l.map (rm ts)).sum=N41.sm (rm ts) l from rfl]
   have hww9:=smD _ _ hww
   have hrun9:=hrun4.kp (.of smD)
   have hCo9:=smD _ _ hCo4
   have hLa9:=smD _ _ hLa4
   have hLy9:=smD _ _ hLy4
   have hBk9:=smD _ _ hBk4
   have sm9:=sm4.trans smD
   clear hww hrun4 hCo4 hLa4 hLy4 hBk4 sm4 smD hDD hD
   rename_i rest2 hrest2
   subst hrest2
   walk_at "go"
   rename_i rest3 hrest3
   have hvz:=hsv z (hin z hzm)
   have hk2z:valV (putK kl (Sum.inr z) (.int (i:Int))) (Sum.inr z)=some (.int (i:Int)):=by rw [valV_put,if_pos rfl]
   have hkp:∀(hz2:z∉l),LawU (askS U ts s z) l i kd (putK kl (Sum.inr z) (.int (i:Int))) g:=fun hz2=>hD2.mid (fun k=>hz2 (hdi.pm.mem_iff.mp k)) hz2
   have hkh:∀(hz2:z∈l),LawU (askS U ts s z) l (i+1) (putK kd (Sum.inr z) (.int (s.r+sh U ts z))) (putK kl (Sum.inr z) (.int (i:Int))) (N74s g z i):=fun hz2=>hD2.hit hdi hz2
   generalize putK kl (Sum.inr z) (.int (i:Int))=kl2 at hlk hLa9 hk2z hkp hkh
   by_cases hzL:z∈l
   · rw [decide_eq_true hzL]
     refine while_d (m0:=0) (fun m σ H10=>σ=[some (V.ref e),some (V.ref se),some (V.ref a),some (V.int n),some (V.int s.r),some (V.ref co),some (V.ref la),some (V.ref ly),some (V.ref bk),some (V.int (i:Int)),some (V.str z),some (V.ref w),some (V.bl true),some (V.int (n - N41.sm (rm ts) l)),v14]∧H10=H9) ⟨rfl,rfl⟩ ?_
     rintro m' σ H10 ⟨rfl,rfl⟩
     walk_at "go"
     have eA:askS U ts s z=⟨s.r,s.ks.erase z++[z],N74s s.f z (s.r+sh U ts z),s.rs++[0]⟩:=if_pos (hdi.pm.mem_iff.mpr hzL)
     have hlu:=hkh hzL
     rw [eA]at hlu
     have hask:gask (TD Z0 U ts) (rm ts) n (s,l) z=((⟨s.r,s.ks.erase z++[z],N74s s.f z (s.r+sh U ts z),s.rs++[0]⟩,l),(z,true,[]))∧True:=⟨by unfold gask;rw [if_pos hzL,← eA],trivial⟩
     clear eA hkp hkh
     have hlc:=length_putK kd (Sum.inr z:Key) (V.int (s.r+sh U ts z))
     refine ⟨_,by rw [← hvz];exact DGet.k (k:=Sum.inr z) (sm9 _ _ hse),_,rfl,_,DPut.k (k:=Sum.inr z) hCo9 (by omega),?_⟩
     have smF:Same H (upd H10 co (.dK (putK kd (Sum.inr z) (.int (s.r+sh U ts z))))):=upd_but sm9 (hM co (by simp))
     have hCoF:upd H10 co (.dK (putK kd (Sum.inr z) (.int (s.r+sh U ts z)))) co=some (.dK (putK kd (Sum.inr z) (.int (s.r+sh U ts z)))):=upd_same
     have hLaF:upd H10 co (.dK (putK kd (Sum.inr z) (.int (s.r+sh U ts z)))) la=some (.dK kl2):=by rw [upd_ne ncl.symm];exact hLa9
     have hLyF:upd H10 co (.dK (putK kd (Sum.inr z) (.int (s.r+sh U ts z)))) ly=some (.lst (l.map V.str)):=by rw [upd_ne hCL.symm];exact hLy9
     have hBkF:upd H10 co (.dK (putK kd (Sum.inr z) (.int (s.r+sh U ts z)))) bk=some (.lst (as.map V.ref)):=by rw [upd_ne hCB.symm];exact hBk9
     have hwF:upd H10 co (.dK (putK kd (Sum.inr z) (.int (s.r+sh U ts z)))) w=some (.lst (([]:List Str).map V.str)):=by rw [upd_ne n4.symm];exact hww9
     have hrunF:=hrun9.kp ((Kp.of (Same.refl H10)).upd (p:=co) (o:= .dK (putK kd (Sum.inr z) (.int (s.r+sh U ts z)))) (by simp))
     generalize upd H10 co (.dK (putK kd (Sum.inr z) (.int (s.r+sh U ts z))))=HF at smF hCoF hLaF hLyF hBkF hwF hrunF ⊢
     rename_i rest4 hrest4
     subst hrest4
     rw [hask.1]
     walk_at "go"
     refine ⟨.inl ⟨rfl,_,SqL.of hBkF⟩,by omega,fun tp htp=>?_⟩
     have m1:ly≠tp:=fun e=>by rw [e,htp]at hLyF;cases hLyF
     have m3:bk≠tp:=fun e=>by rw [e,htp]at hBkF;cases hBkF
     have m4:co≠tp:=fun e=>by rw [e,htp]at hCoF;cases hCoF
     have m5:la≠tp:=fun e=>by rw [e,htp]at hLaF;cases hLaF
     have smt:Same HF (upd HF tp (.tup [V.str z,V.bl true,V.ref w])):=Same.new htp
     have ktp:upd HF tp (.tup [V.str z,V.bl true,V.ref w]) tp=some (.tup [V.str z,V.bl true,V.ref w]):=upd_same
     have hCo10:=smt _ _ hCoF
     have hLa10:=smt _ _ hLaF
     have hLy10:=smt _ _ hLyF
     have hBk10:=smt _ _ hBkF
     have hw10:=smt _ _ hwF
     have sm10:=smF.trans smt
     have hrun10:=RunB.narrow (hrunF.kp (.of smt))
     generalize upd HF tp (.tup [V.str z,V.bl true,V.ref w])=H10 at ktp hCo10 hLa10 hLy10 hBk10 hw10 sm10 hrun10 ⊢
     refine ⟨bk,_,_,rfl,rfl,hBk10,by rw [List.length_map];omega,?_⟩
     refine ⟨upd_but sm10 (hM bk (by simp)),as++[tp],gs++[w],_,by rw [upd_ne hCB];exact hCo10,kl2,by rw [upd_ne hLB];exact hLa10,by omega,by omega,_,hlu,by rw [upd_ne nlb];exact hLy10,by rw [upd_same,List.map_append];rfl,?_⟩
     exact (hrun10.kp ((Kp.of (Same.refl H10)).upd (by simp))).add (r:=(z,true,[])) (by simp [m1.symm,m3.symm,m4.symm,m5.symm]) (by simp [n1.symm,n3.symm,n4.symm,n5.symm]) (by rw [upd_ne m3.symm];exact ktp) (by rw [upd_ne n3.symm];exact hw10)
   · rw [decide_eq_false hzL]
     have hmid0:DM U ts (ts.map (·.1)) z (askS U ts s z) l:=(TD Z0 U ts).i_mid (n:=n) hdi (hin z hzm) hzL
     have hlu0:=hkp hzL
     have hr0:(askS U ts s z).r=s.r:=by unfold askS;split <;> rfl
     refine while_d (m0:=l.length) (fun m σ H9=>∃(s':DuS) (l' wl:List Str) (kd':List (Key×V)) (w14:Option V),σ=[some (V.ref e),some (V.ref se),some (V.ref a),some (V.int n),some (V.int s'.r),some (V.ref co),some (V.ref la),some (V.ref ly),some (V.ref bk),some (V.int (i:Int)),some (V.str z),some (V.ref w),some (V.bl false),some (V.int (n - N41.sm (rm ts) l')),w14]∧Same H H9∧H9 co=some (.dK kd')∧H9 la=some (.dK kl2)∧H9 ly=some (.lst (l'.map V.str))∧H9 bk=some (.lst (as.map V.ref))∧H9 w=some (.lst (wl.map V.str))∧RunB [w,co,la,ly,bk] H9 as gs rs∧DM U ts (ts.map (·.1)) z s' l'∧LawU s' l' i kd' kl2 g∧kd'.length≤i∧l'.Nodup∧(∀u∈l',u∈l)∧gf (TD Z0 U ts) (rm ts) n (rm ts z) (askS U ts s z) l []=gf (TD Z0 U ts) (rm ts) n (rm ts z) s' l' wl∧wl.length+l'.length≤60∧m=l'.length) ⟨askS U ts s z,l,[],kd,v14,by rw [hr0],sm9,hCo9,hLa9,hLy9,hBk9,hww9,hrun9,hmid0,hlu0,hcl,hlnd,fun u hu=>hu,rfl,by rw [List.length_nil];omega,rfl⟩ ?_
     clear hww9 hrun9 hCo9 hLa9 hLy9 hBk9 sm9 hmid0 hlu0 hr0
     rintro m' σ H9 ⟨s',l',wl,kd',w14,rfl,sm9,hCo9,hLa9,hLy9,hBk9,hw9,hrun9,hmid9,hlu9,hkl9,hnd9,hsub9,hf9,hl9,rfl⟩
     have he9:=sm9 _ _ he
     have hRz:=rmK_val nd (hin z hzm)
     walk_at "go"
     refine ⟨_,by rw [← hRz];exact DGet.k (k:=Sum.inr z) he9,_,rfl,?_⟩
     by_cases hlt:rm ts z≤n - N41.sm (rm ts) l'
     · rw [if_neg (by omega)]
       have hask:gask (TD Z0 U ts) (rm ts) n (s,l) z=((⟨s'.r,s'.ks++[z],N74s s'.f z (s'.r+sh U ts z),s'.rs⟩,l'++[z]),(z,false,wl))∧True:=⟨by
        have e:=hf9.trans (gf_end (T:=TD Z0 U ts) hlt)
        unfold gask
        rw [if_neg hzL]
        show (((TD Z0 U ts).came n (gf (TD Z0 U ts) (rm ts) n (rm ts z) (askS U ts s z) l []).1 z,(gf (TD Z0 U ts) (rm ts) n (rm ts z) (askS U ts s z) l []).2.1++[z]),(z,false,(gf (TD Z0 U ts) (rm ts) n (rm ts z) (askS U ts s z) l []).2.2))=_
        rw [e],trivial⟩
       have hzl':z∉l':=fun k=>hzL (hsub9 z k)
       have hlu:=hlu9.come (U:=U) (ts:=ts) hmid9.i.pm hzl' hk2z
       clear hf9 hkp hkh
       have hlc:=length_putK kd' (Sum.inr z:Key) (V.int (s'.r+sh U ts z))
       subst hrest3
       walk_at "go"
       refine ⟨.inl ⟨rfl,_,SqL.of hLy9⟩,ly,_,_,rfl,rfl,hLy9,by rw [List.length_map];omega,?_⟩
       rw [show l'.map V.str++[V.str z]=(l'++[z]).map V.str by rw [List.map_append];rfl]
       have sm11:Same H (upd H9 ly (.lst ((l'++[z]).map V.str))):=upd_but sm9 (hM ly (by simp))
       have hCo11:upd H9 ly (.lst ((l'++[z]).map V.str)) co=some (.dK kd'):=by rw [upd_ne hCL];exact hCo9
       have hLa11:upd H9 ly (.lst ((l'++[z]).map V.str)) la=some (.dK kl2):=by rw [upd_ne hLL];exact hLa9
       have hLy11:upd H9 ly (.lst ((l'++[z]).map V.str)) ly=some (.lst ((l'++[z]).map V.str)):=upd_same
       have hBk11:upd H9 ly (.lst ((l'++[z]).map V.str)) bk=some (.lst (as.map V.ref)):=by rw [upd_ne nlb.symm];exact hBk9
       have hw11:upd H9 ly (.lst ((l'++[z]).map V.str)) w=some (.lst (wl.map V.str)):=by rw [upd_ne n1.symm];exact hw9
       have hrun11:=hrun9.kp ((Kp.of (Same.refl H9)).upd (p:=ly) (o:= .lst ((l'++[z]).map V.str)) (by simp))
       generalize upd H9 ly (.lst ((l'++[z]).map V.str))=H11 at sm11 hCo11 hLa11 hLy11 hBk11 hw11 hrun11 ⊢
       rename_i rest4 hrest4
       subst hrest4
       walk_at "go"
       refine ⟨_,by rw [← hvz];exact DGet.k (k:=Sum.inr z) (sm11 _ _ hse),_,rfl,_,DPut.k (k:=Sum.inr z) hCo11 (by omega),?_⟩
       have smF:Same H (upd H11 co (.dK (putK kd' (Sum.inr z) (.int (s'.r+sh U ts z))))):=upd_but sm11 (hM co (by simp))
       have hCoF:upd H11 co (.dK (putK kd' (Sum.inr z) (.int (s'.r+sh U ts z)))) co=some (.dK (putK kd' (Sum.inr z) (.int (s'.r+sh U ts z)))):=upd_same
       have hLaF:upd H11 co (.dK (putK kd' (Sum.inr z) (.int (s'.r+sh U ts z)))) la=some (.dK kl2):=by rw [upd_ne ncl.symm];exact hLa11
       have hLyF:upd H11 co (.dK (putK kd' (Sum.inr z) (.int (s'.r+sh U ts z)))) ly=some (.lst ((l'++[z]).map V.str)):=by rw [upd_ne hCL.symm];exact hLy11
       have hBkF:upd H11 co (.dK (putK kd' (Sum.inr z) (.int (s'.r+sh U ts z)))) bk=some (.lst (as.map V.ref)):=by rw [upd_ne hCB.symm];exact hBk11
       have hwF:upd H11 co (.dK (putK kd' (Sum.inr z) (.int (s'.r+sh U ts z)))) w=some (.lst (wl.map V.str)):=by rw [upd_ne n4.symm];exact hw11
       have hrunF:=hrun11.kp ((Kp.of (Same.refl H11)).upd (p:=co) (o:= .dK (putK kd' (Sum.inr z) (.int (s'.r+sh U ts z)))) (by simp))
       generalize upd H11 co (.dK (putK kd' (Sum.inr z) (.int (s'.r+sh U ts z))))=HF at smF hCoF hLaF hLyF hBkF hwF hrunF ⊢
       rename_i rest4 hrest4
       subst hrest4
       rw [hask.1]
       walk_at "go"
       refine ⟨.inl ⟨rfl,_,SqL.of hBkF⟩,by omega,fun tp htp=>?_⟩
       have m1:ly≠tp:=fun e=>by rw [e,htp]at hLyF;cases hLyF
       have m3:bk≠tp:=fun e=>by rw [e,htp]at hBkF;cases hBkF
       have m4:co≠tp:=fun e=>by rw [e,htp]at hCoF;cases hCoF
       have m5:la≠tp:=fun e=>by rw [e,htp]at hLaF;cases hLaF
       have smt:Same HF (upd HF tp (.tup [V.str z,V.bl false,V.ref w])):=Same.new htp
       have ktp:upd HF tp (.tup [V.str z,V.bl false,V.ref w]) tp=some (.tup [V.str z,V.bl false,V.ref w]):=upd_same
       have hCo10:=smt _ _ hCoF
       have hLa10:=smt _ _ hLaF
       have hLy10:=smt _ _ hLyF
       have hBk10:=smt _ _ hBkF
       have hw10:=smt _ _ hwF
       have sm10:=smF.trans smt
       have hrun10:=RunB.narrow (hrunF.kp (.of smt))
       generalize upd HF tp (.tup [V.str z,V.bl false,V.ref w])=H10 at ktp hCo10 hLa10 hLy10 hBk10 hw10 sm10 hrun10 ⊢
       refine ⟨bk,_,_,rfl,rfl,hBk10,by rw [List.length_map];omega,?_⟩
       refine ⟨upd_but sm10 (hM bk (by simp)),as++[tp],gs++[w],_,by rw [upd_ne hCB];exact hCo10,kl2,by rw [upd_ne hLB];exact hLa10,by omega,by omega,_,hlu,by rw [upd_ne nlb];exact hLy10,by rw [upd_same,List.map_append];rfl,?_⟩
       exact (hrun10.kp ((Kp.of (Same.refl H10)).upd (by simp))).add (r:=(z,false,wl)) (by simp [m1.symm,m3.symm,m4.symm,m5.symm]) (by simp [n1.symm,n3.symm,n4.symm,n5.symm]) (by rw [upd_ne m3.symm];exact ktp) (by rw [upd_ne n3.symm];exact hw10)
     · rw [if_pos (by omega)]
       clear hrest3
       refine ⟨_,fun σ' H7 h=>h,?_⟩
       have hne:l'≠[]:=fun e=>hlt (by rw [e,N41.sm_nil];have:=hrm z hzm;omega)
       walk_at "go"
       refine ⟨l',hLy9,hne,kd',hCo9,kl2,hLa9,s'.f,(fun u hu=>by rw [hlu9.d u,if_pos hu]),g,hlu9.m,fun p hp=>?_⟩
       have hpl:p∈l':=hp.1
       have hfm:=pick_eq hp hmid9.i.pm hlu9.o
       obtain ⟨hpk1,hpk2⟩:lst1 s'.f s'.ks∈l'∧DM U ts (ts.map (·.1)) z (goneS s' (lst1 s'.f s'.ks)) (l'.erase (lst1 s'.f s'.ks)):=(TD Z0 U ts).i_pick (n:=n) hmid9 hne
       have hgo0:=hf9.trans (gf_go (T:=TD Z0 U ts) (s:=s') hlt hpk1)
       change gf (TD Z0 U ts) (rm ts) n (rm ts z) (askS U ts s z) l []=gf (TD Z0 U ts) (rm ts) n (rm ts z) (goneS s' (lst1 s'.f s'.ks)) (l'.erase (lst1 s'.f s'.ks)) (wl++[lst1 s'.f s'.ks]) at hgo0
       rw [hfm]at hpk2 hgo0
       have hgo:gf (TD Z0 U ts) (rm ts) n (rm ts z) (askS U ts s z) l []=gf (TD Z0 U ts) (rm ts) n (rm ts z) (goneS s' p) (l'.erase p) (wl++[p])∧True:=⟨hgo0,trivial⟩
       have hlu10:LawU (goneS s' p) (l'.erase p) i (dropK kd' (Sum.inr p)) kl2 g:=hlu9.pop hnd9
       have hsm:N41.sm (rm ts) l'=rm ts p+N41.sm (rm ts) (l'.erase p):=by rw [N25.sm_perm (List.perm_cons_erase hpl),N41.sm_cons]
       have hRp:=rmK_val nd (hsub p (hsub9 p hpl))
       have hvp:valV kd' (Sum.inr p)=some (.int (s'.f p)):=by rw [hlu9.d p,if_pos hpl]
       have hdl:=length_dropK kd' (Sum.inr p)
       have hel:=List.length_erase_of_mem hpl
       have hlp:0 < l'.length:=List.length_pos_of_mem hpl
       clear hf9 hfm hp hpk1 hgo0 hkp hkh
       rename_i rest4 hrest4
       subst hrest4
       walk_at "go"
       refine ⟨.inl ⟨rfl,_,SqL.of hLy9⟩,l',hLy9,hpl,?_⟩
       have sm10:Same H (upd H9 ly (.lst ((l'.erase p).map V.str))):=upd_but sm9 (hM ly (by simp))
       have hCo10:upd H9 ly (.lst ((l'.erase p).map V.str)) co=some (.dK kd'):=by rw [upd_ne hCL];exact hCo9
       have hLa10:upd H9 ly (.lst ((l'.erase p).map V.str)) la=some (.dK kl2):=by rw [upd_ne hLL];exact hLa9
       have hLy10:upd H9 ly (.lst ((l'.erase p).map V.str)) ly=some (.lst ((l'.erase p).map V.str)):=upd_same
       have hBk10:upd H9 ly (.lst ((l'.erase p).map V.str)) bk=some (.lst (as.map V.ref)):=by rw [upd_ne nlb.symm];exact hBk9
       have hw10:upd H9 ly (.lst ((l'.erase p).map V.str)) w=some (.lst (wl.map V.str)):=by rw [upd_ne n1.symm];exact hw9
       have hrun10:=hrun9.kp ((Kp.of (Same.refl H9)).upd (p:=ly) (o:= .lst ((l'.erase p).map V.str)) (by simp))
       generalize upd H9 ly (.lst ((l'.erase p).map V.str))=H10 at sm10 hCo10 hLa10 hLy10 hBk10 hw10 hrun10 ⊢
       have he10:=sm10 _ _ he
       rename_i rest4 hrest4
       subst hrest4
       walk_at "go"
       refine ⟨_,by rw [← hRp];exact DGet.k (k:=Sum.inr p) he10,_,rfl,?_⟩
       rename_i rest4 hrest4
       subst hrest4
       walk_at "go"
       refine ⟨.inl ⟨_,.inl hCo10⟩,kd',hCo10,Sum.inr p,rfl,_,hvp,?_⟩
       have sm11:Same H (upd H10 co (.dK (dropK kd' (Sum.inr p)))):=upd_but sm10 (hM co (by simp))
       have hCo11:upd H10 co (.dK (dropK kd' (Sum.inr p))) co=some (.dK (dropK kd' (Sum.inr p))):=upd_same
       have hLa11:upd H10 co (.dK (dropK kd' (Sum.inr p))) la=some (.dK kl2):=by rw [upd_ne ncl.symm];exact hLa10
       have hLy11:upd H10 co (.dK (dropK kd' (Sum.inr p))) ly=some (.lst ((l'.erase p).map V.str)):=by rw [upd_ne hCL.symm];exact hLy10
       have hBk11:upd H10 co (.dK (dropK kd' (Sum.inr p))) bk=some (.lst (as.map V.ref)):=by rw [upd_ne hCB.symm];exact hBk10
       have hw11:upd H10 co (.dK (dropK kd' (Sum.inr p))) w=some (.lst (wl.map V.str)):=by rw [upd_ne n4.symm];exact hw10
       have hrun11:=hrun10.kp ((Kp.of (Same.refl H10)).upd (p:=co) (o:= .dK (dropK kd' (Sum.inr p))) (by simp))
       generalize upd H10 co (.dK (dropK kd' (Sum.inr p)))=H11 at sm11 hCo11 hLa11 hLy11 hBk11 hw11 hrun11 ⊢
       clear sm10 hCo10 hLa10 hLy10 hBk10 hw10 hrun10 he10
       rename_i rest4 hrest4
       subst hrest4
       walk_at "go"
       refine ⟨.inl ⟨rfl,_,SqL.of hw11⟩,w,_,_,rfl,rfl,hw11,by rw [List.length_map];omega,?_⟩
       refine ⟨(l'.erase p).length,by omega,goneS s' p,rfl,l'.erase p,by omega,upd_but sm11 hw0,wl++[p],dropK kd' (Sum.inr p),by rw [upd_ne n4];exact hCo11,by rw [upd_ne n5];exact hLa11,by rw [upd_ne n1];exact hLy11,by rw [upd_ne n3];exact hBk11,by rw [upd_same,List.map_append];rfl,hrun11.kp ((Kp.of (Same.refl H11)).upd (p:=w) (by simp)),hpk2,hlu10,by omega,hnd9.erase p,fun u hu=>hsub9 u (List.mem_of_mem_erase hu),hgo.1,by rw [List.length_append];simp only [List.length_cons,List.length_nil];omega,rfl⟩
 · rintro σ H' ⟨v9,v10,v11,v12,v13,v14,as,gs,kd,kl,g,rfl,sm,hCo,hLa,hcl,hll0,hD,hLy,hBk,hrun⟩
   rw [List.length_map]at hrun hD hLy
   rw [List.length_map]
   have hsi:=gst_inv (T:=TD Z0 U ts) (R:=rm ts) (n:=n) (s0:=⟨0,[],fun _=>0,[]⟩) (ns:=ts.map (·.1)) hDI0 hin hrm ys.length (Nat.le_refl _)
   have hpm:(gst (TD Z0 U ts) (rm ts) n ⟨0,[],fun _=>0,[]⟩ ys ys.length).1.ks.Perm (gst (TD Z0 U ts) (rm ts) n ⟨0,[],fun _=>0,[]⟩ ys ys.length).2:=(show DI U ts (ts.map (·.1)) _ _ from hsi.i).pm
   subst hrest
   walk_at "go"
   intro p hp
   have smp:=Same.new (o:= .tup [V.ref bk,V.int (gst (TD Z0 U ts) (rm ts) n ⟨0,[],fun _=>0,[]⟩ ys ys.length).1.r,V.ref co]) hp
   refine q p bk co as gs kd _ (sm.trans smp) upd_same ⟨SqL.of (smp _ _ hBk),hrun.n,hrun.m,fun i a g r e1 e2 e3=>?_⟩ (smp _ _ hCo) (fun z=>?_)
   · obtain ⟨_,_,h1,h2⟩:=hrun.t i a g r e1 e2 e3
     exact ⟨SqT.of (smp _ _ h1),SqL.of (smp _ _ h2)⟩
   · rw [hD.d z]
     by_cases hzl:z∈(gst (TD Z0 U ts) (rm ts) n ⟨0,[],fun _=>0,[]⟩ ys ys.length).2
     · rw [if_pos hzl,if_pos (hpm.mem_iff.mpr hzl)]
     · rw [if_neg hzl,if_neg (fun k=>hzl (hpm.mem_iff.mp k))]
theorem Z9p{f:Addr}{fd:FuncData}(F:Fun K "_law_told" "_law_told" Z4u f fd)(T:Txt K mg Z3 Z4 Z7 Z2 Z8 Z6 Z1 Z5 Z9 Z0)(Z19:DefM P w K mg base (CXF P w) 1 Z0 "due_of" ["self","name"] (sp56_due Z0 Z6))(Z0n:Def P w K mg base (CXF P w) 2 "_law_ratio" ["_law_found"] (sp57_lratio)):FnOk P w K mg base (CXF P w) 3 f fd ["_law_rule","_law_name","_law_due_here","_law_scale_here"] (sp56_told Z0):=by
 have sc:FnScope ["_law_rule","_law_name","_law_due_here","_law_scale_here","_law_found"] ["_law_rule","_law_name","_law_due_here","_law_scale_here"] (defScope Z4u):=by walk_at "sc"
 refine F.okF sc (fun vs H Q E h=>?_) (fun cdv A outer s H vs Q E hr h=>?_)
 · obtain ⟨_,_,_,_,_,_,_,_,_,rfl,_⟩:=h;rfl
 obtain ⟨q',p,dd,n,U,x,s,z,kd,rfl,hd,hU,hUb,hrz,hdd,hkd,q⟩:=h
 refine ⟨_,(@pss_cons _ _ _ _ _ (ps_tryF rfl rfl (fun t hp=>(@pss_one _ _ _ (ps_set (i:=4) sc.nd rfl (Or.inl rfl) (pe_methS Z19 T.Za hr hp (pv 0) (pa_cons (pv 1) pa_nil)))))
  (ph_clsF rfl rfl T.Z53 (fun x=>(@pss_one _ _ _ (@ps_ret _ _ _ _ (pe_cmp (pc_dnotin (have h:=hu_of hr;h) (pv 1) (pv 2)))))) ph_nilF))
  (@pss_cons _ _ _ _ _ (ps_if (PW.pt (pw_or (pt_cmp (pc_dnotin (have h:=hu_of hr;h) (pv 1) (pv 2))) (pw_or1 (pt_not (pt_val (pe_callD Z0n hr rfl pass_onF (pa_cons (pv 4) pa_nil)))))))
   (@pss_one _ _ _ (@ps_ret _ _ _ _ pe_bl))
   pss_nil)
  (@pss_one _ _ _ (@ps_ret _ _ _ _ (pe_cmpR op_eq (pe_op op_mulH (@pe_ix _ _ _ _ _ _ _ ix_tup (pv 4) pe_int (fun _ _=>rfl)) (pv 3)) (pe_op op_mulH (pe_dget (have h:=hu_of hr;h) (pv 2) (pv 1) (fun _ _=>rfl)) (@pe_ix _ _ _ _ _ _ _ ix_tup (pv 4) pe_int (fun _ _=>rfl))) (nomark _)))))),?_⟩
 walk_at "st"
 have line:=line_val
 obtain ⟨dx,fs,ho,hf⟩:=hd.o
 have hkz:=hkd z
 walk_at "go"
 refine ⟨dx,fs,ho,hf.m _ (by simp),p,n,U,x,s,hd,hrz,fun hz a ha=>?_,fun hz H' y sm hy er=>⟨true,T.Z41,?_⟩⟩
 · rw [if_pos hz]at hkz
   have hdz:=DGet.k (k:=Sum.inr z) hdd
   rw [hkz]at hdz
   obtain ⟨c1,c2,c3,c4,c5⟩:=rt_all (v:=s.f z) hU
   obtain ⟨b1,b2⟩:=hd.b.2.1 z hz
   walk_at "go"
   refine ⟨_,hdz,?_⟩
   rw [if_neg (by simp)]
   refine ⟨U,s.f z,ha,hU,?_⟩
   rename_i rest hrest
   subst hrest
   walk_at "go"
   refine ixT_of (SqT.of ha) (v:=V.int (rt U (s.f z)).1) rfl ⟨_,rfl,⟨Nat.lt_of_le_of_lt c4 (nat_lt (a:=230) b1 b2 (by decide)),nat_lt (a:=180) (by omega) hUb (by decide)⟩,_,hdz,?_⟩
   refine ixT_of (SqT.of ha) (v:=V.int (rt U (s.f z)).2) rfl ⟨_,rfl,_,rfl,⟨nat_lt (a:=230) b1 b2 (by decide),Nat.lt_of_le_of_lt c5 (nat_lt (a:=180) (by omega) hUb (by decide))⟩,?_⟩
   rw [decide_eq_true c1]
   exact q H (Same.refl H)
 · rw [if_pos rfl]
   rw [if_neg hz]at hkz
   have hdz:=DGet.k (k:=Sum.inr z) (sm _ _ hdd)
   rw [hkz]at hdz
   exact ⟨_,hdz,q H' sm⟩
theorem Z6d{f:Addr}{fd:FuncData}(F:Fun K "_law_refused" "_law_refused" Z27 f fd)(T:Txt K mg Z3 Z4 Z7 Z2 Z8 Z6 Z1 Z5 Z9 Z0)(Z0v:DefI P w K mg base (CXF P w) 5 "Dues" Z0 ["self","stock","places"] (sp56_init K Z0 Z2))(Z0o:Def P w K mg base (CXF P w) 10 "book_of" ["rule","asks"] (sp56_book Z0 K Z1 Z5 Z4)):FnOk P w K mg base (CXF P w) 11 f fd ["_law_stock","_law_places_here","_law_asks_here","_law_stranger","_law_cell_here"] (sp56_refused K Z0 Z1):=by
 have sc:FnScope ["_law_stock","_law_places_here","_law_asks_here","_law_stranger","_law_cell_here","_law_far","_law_bad","_law_told_here","_law_rule","e"] ["_law_stock","_law_places_here","_law_asks_here","_law_stranger","_law_cell_here"] (defScope Z27):=by walk_at "sc"
 refine F.okF sc (fun vs H Q E h=>?_) (fun cdv A outer s H vs Q E hr h=>?_)
 · obtain ⟨_,_,_,_,_,_,_,_,rfl,_⟩:=h;rfl
 obtain ⟨p,a,n,c,U,ts,ys,z,rfl,hst,nd,ha,hlen,hin,hrm,hz,hn1,hn2,hU,q⟩:=h
 refine ⟨_,(@pss_cons _ _ _ _ _ (ps_set (i:=5) sc.nd rfl (Or.inl rfl) (pe_op op_mod (pe_op op_fdiv (pv 4) pe_int) (pe_op op_pow pe_int pe_int)))
  (@pss_cons _ _ _ _ _ (ps_set (i:=6) sc.nd rfl (Or.inl rfl) (@pe_ix _ _ _ _ _ _ _ ix_list (@pe_lst _ _ _ _ (@pa_consK _ _ _ _ _ _ _ pe_int (@pa_consB _ _ _ _ _ _ _ _ (pe_op op_add (pe_op op_pow pe_int pe_int) pe_int) (@pa_consK _ _ _ _ _ _ _ pe_non (@pa_consK _ _ _ _ _ _ _ pe_bl (@pa_consK _ _ _ _ _ _ _ pe_bl (@pa_consK _ _ _ _ _ _ _ pe_str (pa_cons (@pe_lst _ _ _ _ (pa_cons pe_int pa_nil)) (@pa_consT _ _ _ _ _ _ _ (pe_tup (pa_cons pe_int pa_nil)) (@pa_consB _ _ _ _ _ _ _ _ (pe_op op_sub (pe_op op_sub pe_int pe_int) (pv 5)) (@pa_consB _ _ _ _ _ _ _ _ (pe_op op_add (pe_op op_add (pe_op op_pow pe_int pe_int) pe_int) (pv 5)) pa_nil))))))))))) (pe_op op_mod (pv 4) pe_int) (fun _ _=>rfl)))
  (@pss_cons _ _ _ _ _ (ps_set (i:=7) sc.nd rfl (Or.inl rfl) (@pe_lst _ _ _ _ (pa_cons pe_bl (pa_cons pe_bl pa_nil))))
  (@pss_cons _ _ _ _ _ (ps_tryF rfl rfl (fun t hp=>(@pss_one _ _ _ (ps_expr (pe_makeS Z0v hr rfl hp (pa_cons (pv 0) (pa_cons (pv 6) pa_nil))))))
   (ph_clsF rfl rfl T.Z52 (fun x=>(@pss_one _ _ _ (ps_asg pe_bl (pg_sub (pv 7) pe_int set_list)))) ph_nilF))
  (@pss_cons _ _ _ _ _ (ps_set (i:=8) sc.nd rfl (Or.inl rfl) (pe_makeS Z0v hr rfl (passS pass_onF) (pa_cons (pv 0) (pa_cons (pv 1) pa_nil))))
  (@pss_cons _ _ _ _ _ (ps_tryF rfl rfl (fun t hp=>(@pss_one _ _ _ (ps_expr (pe_callE Z0o hr rfl hp (pa_cons (pv 8) (pa_cons (pe_op op_cat (pv 2) (@pe_lst _ _ _ _ (pa_cons (pv 3) pa_nil))) pa_nil))))))
   (ph_asF (i:=9) rfl sc.nd rfl rfl rfl T.Z9h (fun x=>(@pss_one _ _ _ (ps_asg (pe_and (pe_cmpR op_eq (pe_fldX (pv 9) rfl) (pv 3) (nomark _)) (pe_one (pe_cmpR op_eq (pe_fldX (pv 9) rfl) (pe_callB call_len_seq rfl T.Zy PySem.boot_len (pa_cons (pv 2) pa_nil)) (nomark _)))) (pg_sub (pv 7) pe_int set_list)))) ph_nilF))
  (@pss_cons _ _ _ _ _ (ps_if (pt_cmpR (op_neQ hr) (pv 7) (@pe_lst _ _ _ _ (pa_cons pe_bl (pa_cons pe_bl pa_nil))) (nomark _))
   (@pss_one _ _ _ (@ps_ret _ _ _ _ pe_non))
   pss_nil)
  (@pss_one _ _ _ (@ps_ret _ _ _ _ (pv 8)))))))))),?_⟩
 walk_at "st"
 have line:=line_val
 walk_at "go"
 intro p1 hp1
 refine ⟨by omega,fun p2 hp2=>⟨cpow_of (by decide) (by decide) (by decide),by omega,fun p3 hp3=>⟨by decide,?_⟩⟩⟩
 have f0:=Int.emod_nonneg (c / 10) (show (10 ^ 9:Int)≠0 by decide)
 have f1:=Int.emod_lt_of_pos (c / 10) (show (0:Int) < 10 ^ 9 by decide)
 generalize c / 10 % 10 ^ 9=fr at f0 f1 ⊢
 have n12:p1≠p2:=ne_of_none upd_same hp2
 have s1:Same H (upd H p1 (.lst [V.int 3])):=Same.new hp1
 have k1:upd H p1 (.lst [V.int 3]) p1=some (.lst [V.int 3]):=upd_same
 generalize upd H p1 (.lst [V.int 3])=H1 at s1 k1 hp2 hp3 ⊢
 have s2:Same H1 (upd H1 p2 (.tup [V.int 2])):=Same.new hp2
 have k2:upd H1 p2 (.tup [V.int 2]) p2=some (.tup [V.int 2]):=upd_same
 have k21:=s2 _ _ k1
 generalize upd H1 p2 (.tup [V.int 2])=H2 at s2 k2 k21 hp3 ⊢
 obtain ⟨v,hv,hM⟩:=atI_in (xs:=[V.int 0,V.int (10 ^ 6+1),V.non,V.bl true,V.bl false,V.str (Str.ofString "7"),V.ref p1,V.ref p2,V.int (0 - 1 - fr),V.int (10 ^ 6+1+fr)]) (i:=c % 10) (by omega) (by simp;omega)
 have s3:Same H2 (upd H2 p3 (.lst [V.int 0,V.int (10 ^ 6+1),V.non,V.bl true,V.bl false,V.str (Str.ofString "7"),V.ref p1,V.ref p2,V.int (0 - 1 - fr),V.int (10 ^ 6+1+fr)])):=Same.new hp3
 refine ixL_of (SqL.of upd_same) hv ?_
 generalize upd H2 p3 (.lst [V.int 0,V.int (10 ^ 6+1),V.non,V.bl true,V.bl false,V.str (Str.ofString "7"),V.ref p1,V.ref p2,V.int (0 - 1 - fr),V.int (10 ^ 6+1+fr)])=H3 at s3 ⊢
 have hbad:N53.NumV K H3 v∧wIn 1 1000000 v=false:=by
  simp only [List.mem_cons,List.not_mem_nil,or_false]at hM
  rcases hM with e | e | e | e | e | e | e | e | e | e <;> rw [e]
  · exact ⟨N53.NumV.flat rfl,rfl⟩
  · exact ⟨N53.NumV.flat rfl,rfl⟩
  · exact ⟨N53.NumV.flat rfl,rfl⟩
  · exact ⟨N53.NumV.flat rfl,rfl⟩
  · exact ⟨N53.NumV.flat rfl,rfl⟩
  · exact ⟨N53.NumV.flat rfl,rfl⟩
  · exact ⟨N53.NumV.lst (s3 _ _ k21),rfl⟩
  · exact ⟨N53.NumV.tup (s3 _ _ k2),rfl⟩
  · exact ⟨N53.NumV.flat rfl,by show (decide (1≤0 - 1 - fr) && decide (0 - 1 - fr≤1000000))=false;rw [decide_eq_false (by omega)];rfl⟩
  · exact ⟨N53.NumV.flat rfl,by show (decide (1≤10 ^ 6+1+fr) && decide (10 ^ 6+1+fr≤1000000))=false;rw [decide_eq_false (p:=10 ^ 6+1+fr≤1000000) (by omega),Bool.and_false]⟩
 have sm3:=(s1.trans s2).trans s3
 clear hv hM s1 s2 s3 k1 k2 k21 hp1 hp2 hp3 n12
 rename_i rest hrest
 subst hrest
 walk_at "go"
 intro tp htp
 have s4:Same H3 (upd H3 tp (.lst [V.bl false,V.bl false])):=Same.new htp
 have k4:upd H3 tp (.lst [V.bl false,V.bl false]) tp=some (.lst [V.bl false,V.bl false]):=upd_same
 have htp0:=same_none sm3 htp
 generalize upd H3 tp (.lst [V.bl false,V.bl false])=H4 at s4 k4 ⊢
 have sm4:=sm3.trans s4
 have hv4:=hbad.1.same s4
 have hw4:=hbad.2
 clear s4 sm3 htp hbad
 rename_i rest hrest
 subst hrest
 walk_at "go"
 intro q8 dy hq8 hdy ne8
 have smq:Same H4 (upd (upd H4 dy (.own q8)) q8 (.ins Z0 dy [])):=fun b o e=>by rw [upd_ne (ne_of_none e hq8),upd_ne (ne_of_none e hdy)];exact e
 refine ⟨dy,upd_same,hv4.same smq,1,by decide,fun n1 e1 hw=>by (rw [hw4]at hw;cases hw),fun _ H5 y sm5 hy er=>⟨true,T.Z40,?_⟩⟩
 rw [if_pos rfl]
 have s5:=smq.trans sm5
 have k5:=s5 _ _ k4
 have sm5':=sm4.trans s5
 clear smq sm5 hy er hq8 hdy ne8 s5 hv4 hw4 k4 sm4
 walk_at "go"
 refine ⟨_,k5,0,rfl,?_⟩
 have s6:SameBut tp H5 (upd H5 tp (.lst [V.bl true,V.bl false])):=sameBut_upd
 have k6:upd H5 tp (.lst [V.bl true,V.bl false]) tp=some (.lst [V.bl true,V.bl false]):=upd_same
 show tSeq _ _ _ _ (upd H5 tp (.lst [V.bl true,V.bl false]))
 have sm6:Same H (upd H5 tp (.lst [V.bl true,V.bl false])):=upd_but sm5' htp0
 generalize upd H5 tp (.lst [V.bl true,V.bl false])=H6 at s6 k6 sm6 ⊢
 clear s6 k5 sm5'
 walk_at "go"
 intro q9 dz hq9 hdz ne9
 have smq:Same H6 (upd (upd H6 dz (.own q9)) q9 (.ins Z0 dz [])):=fun b o e=>by rw [upd_ne (ne_of_none e hq9),upd_ne (ne_of_none e hdz)];exact e
 refine ⟨dz,upd_same,N53.NumV.flat rfl,U,hU,fun n1 en hw x H7 sb7 hfr hd7=>?_,fun hw=>by (rw [N53.wIn_is hn1 hn2]at hw;cases hw)⟩
 subst en
 clear hw
 have sm7:Same H6 H7:=same_made hq9 hdz sb7
 have hfr6:∀b∈DuM q9 x,H6 b=none:=fun b hb=>by
  have hb':b=q9∨b=x.dd∨b=x.rr:=by simpa [DuM] using hb
  have nn:∀b,(upd (upd H6 dz (.own q9)) q9 (.ins Z0 dz [])) b=none→H6 b=none:=fun b k=>by
   cases k2:H6 b with
   | none=>rfl
   | some o=>rw [smq _ _ k2]at k;cases k
  rcases hb' with k | k | k <;> rw [k]
  · exact hq9
  · exact nn _ (hfr _ (by simp))
  · exact nn _ (hfr _ (by simp))
 have hfr0:∀b∈DuM q9 x,H b=none:=fun b hb=>same_none sm6 (hfr6 b hb)
 have ntp:tp∉DuM q9 x:=fun k=>by have:=hfr6 tp k;rw [k6]at this;cases this
 have k7:=sm7 _ _ k6
 have sm07:=sm6.trans sm7
 have hst7:=hst.same sm07
 have ha7:=sm07 _ _ ha
 clear smq sb7 hfr hq9 hdz ne9 sm7 k6 sm6 hfr6
 rename_i rest hrest
 subst hrest
 walk_at "go"
 intro lp hlp
 have s8:Same H7 (upd H7 lp (.lst [V.str z])):=Same.new hlp
 have k8:upd H7 lp (.lst [V.str z]) lp=some (.lst [V.str z]):=upd_same
 generalize upd H7 lp (.lst [V.str z])=H8 at s8 k8 ⊢
 refine ⟨a,lp,_,_,rfl,rfl,s8 _ _ ha7,k8,by rw [List.length_map];simp only [List.length_cons,List.length_nil];omega,fun cp hcp=>?_⟩
 have s9:Same H8 (upd H8 cp (.lst (ys.map V.str++[V.str z]))):=Same.new hcp
 have k9:upd H8 cp (.lst (ys.map V.str++[V.str z])) cp=some (.lst ((ys++[z]).map V.str)):=by rw [upd_same,List.map_append];rfl
 generalize upd H8 cp (.lst (ys.map V.str++[V.str z]))=H9 at s9 k9 ⊢
 have s79:=s8.trans s9
 have hd9:=hd7.same s79
 have hst9:=hst7.same s79
 have ha9:=s79 _ _ ha7
 have k9':=s79 _ _ k7
 have sm09:=sm07.trans s79
 clear s8 s9 k8 hlp hcp s79 hd7 hst7 ha7 k7 sm07
 refine ⟨cp,rfl,.inr ⟨p,DuM q9 x,n,U,ts,ys,_,⟨x,rfl,hd9⟩,hst9,nd,z,SqL.of k9,hlen,hin,hrm,hz,hn1,hn2,fun H10 y sm10 hy er=>⟨true,T.Z4n,?_⟩⟩⟩
 rw [if_pos rfl]
 obtain ⟨dy,e1,e2⟩:=er
 have hd10:=hd9.same sm10
 have ha10:=sm10 _ _ ha9
 have k10:=sm10 _ _ k9'
 have sm010:=sm09.trans sm10
 clear hd9 hst9 ha9 k9' sm09 sm10 k9 hy
 walk_at "go"
 refine ⟨false,Z4,Z3,dy,e1,_,e2,T.Z0k,T.Zv,_,unk_name,rfl,?_⟩
 rw [if_pos rfl]
 refine ⟨false,Z4,Z3,dy,e1,_,e2,T.Z0k,T.Zr,_,unk_place,_,.inl (SqL.of ha10),rfl,_,k10,1,rfl,?_⟩
 rw [decide_eq_true (by rw [List.length_map])]
 show tSeq _ _ _ _ (upd H10 tp (.lst [V.bl true,V.bl true]))
 have k11:upd H10 tp (.lst [V.bl true,V.bl true]) tp=some (.lst [V.bl true,V.bl true]):=upd_same
 have sm011:Same H (upd H10 tp (.lst [V.bl true,V.bl true])):=upd_but sm010 htp0
 have hd11:DuAt Z0 U (upd H10 tp (.lst [V.bl true,V.bl true])) q9 p n x _:=hd10.keep (fun b hb o e=>by rw [upd_ne (fun k=>ntp (by rw [← k];exact hb))];exact e) (fun v' e' hv'=>by rw [upd_ne (fun k=>by rw [k,k10]at hv';cases hv')];exact hv')
 generalize upd H10 tp (.lst [V.bl true,V.bl true])=H11 at k11 sm011 hd11 ⊢
 clear hd10 ha10 k10 sm010 e1 e2
 walk_at "go"
 intro ep hep
 have s12:Same H11 (upd H11 ep (.lst [V.bl true,V.bl true])):=Same.new hep
 have k12:upd H11 ep (.lst [V.bl true,V.bl true]) ep=some (.lst [V.bl true,V.bl true]):=upd_same
 generalize upd H11 ep (.lst [V.bl true,V.bl true])=H12 at s12 k12 ⊢
 refine ⟨_,⟨tp,ep,_,_,rfl,rfl,.inl ⟨SqL.of (s12 _ _ k11),SqL.of k12⟩,rfl,rfl,rfl⟩,?_⟩
 rw [flatEq_self (by rfl),if_neg (by decide)]
 rename_i rest hrest
 subst hrest
 walk_at "go"
 exact q q9 x H12 (sm011.trans s12) hfr0 (hd11.same s12)
theorem Z9v{f:Addr}{fd:FuncData}(F:Fun K "law" "law" Z1a f fd)(T:Txt K mg Z3 Z4 Z7 Z2 Z8 Z6 Z1 Z5 Z9 Z0)(Z4y:Def P w K mg base (CXF P w) 2 "_law_rows" ["_law_script"] (sp56_rows K))(Z38:Def P w K mg base (CXF P w) 1 "_law_priced" ["_law_rows_here","_law_cell_here"] (sp56_priced K))(Zh:Def P w K mg base (CXF P w) 1 "_law_cell" ["_law_script","_law_k"] (sp_cell K))(Z4f:Def P w K mg base (CXF P w) 1 "_law_rooms" ["_law_rows_here"] (sp20_rooms K))(Z4g:Def P w K mg base (CXF P w) 2 "_law_scale" ["_law_rows_here"] (sp56_scale K))(Z39:Def P w K mg base (CXF P w) 1 "_law_places" ["_law_rows_here","_law_cell_here"] (sp20_places K))(Z4z:Def P w K mg base (CXF P w) 2 "_law_asks" ["_law_script","_law_rows_here"] (sp56_asks K))(Z5n:Def P w K mg base (CXF P w) 2 "_law_due" ["_law_rooms_here","_law_shares","_law_asks_here","_law_places_here"] (sp56_run K Z0))(Z0m:Def P w K mg base (CXF P w) 1 "_law_names" ["_law_cell_here","_law_many"] (sp56_names))(Z1t:DefI P w K mg base (CXF P w) 4 "Stock" Z1 ["self","rows"] (sp_initG K Z1))(Z2e:Def P w K mg base (CXF P w) 11 "_law_refused" ["_law_stock","_law_places_here","_law_asks_here","_law_stranger","_law_cell_here"] (sp56_refused K Z0 Z1))(Z0o:Def P w K mg base (CXF P w) 10 "book_of" ["rule","asks"] (sp56_book Z0 K Z1 Z5 Z4))(Z50:Def P w K mg base (CXF P w) 1 "_law_same" ["_law_found","_law_due_here"] (sp20_same K))(Z1u:DefM P w K mg base (CXF P w) 1 Z0 "nests" ["self"] (sp25_nests Z0))(Z1v:DefM P w K mg base (CXF P w) 1 Z0 "level" ["self"] (sp57_level Z0))(Z0n:Def P w K mg base (CXF P w) 2 "_law_ratio" ["_law_found"] (sp57_lratio))(Z51:Def P w K mg base (CXF P w) 3 "_law_told" ["_law_rule","_law_name","_law_due_here","_law_scale_here"] (sp56_told Z0)):FnOk P w K mg base (CXF P w) 12 f fd ["_law_script"] (sp_law K):=by
 have sc:FnScope ["_law_script","_law_rows_here","_law_rooms_here","_law_scale_here","_law_shares","_law_name","_law_cost","_law_room","_law_places_here","_law_asks_here","_law_book","_law_level","_law_due_here","_law_stranger","_law_rule","_law_handed","_law_found"] ["_law_script"] (defScope Z1a):=by walk_at "sc"
 refine F.okF sc (fun vs H Q E h=>?_) (fun cdv A outer s H vs Q E hr h=>?_)
 · obtain ⟨_,_,rfl,_⟩:=h;rfl
 obtain ⟨a,ns,rfl,hS,hl,q⟩:=h
 refine ⟨_,(@pss_cons _ _ _ _ _ (ps_set (i:=1) sc.nd rfl (Or.inl rfl) (pe_callD Z38 hr rfl pass_onF (pa_cons (pe_callD Z4y hr rfl pass_onF (pa_cons (pv 0) pa_nil)) (pa_cons (pe_callD Zh hr rfl pass_onF (pa_cons (pv 0) (pa_cons pe_int pa_nil))) pa_nil))))
  (@pss_cons _ _ _ _ _ (ps_set (i:=2) sc.nd rfl (Or.inl rfl) (pe_callD Z4f hr rfl pass_onF (pa_cons (pv 1) pa_nil)))
  (@pss_cons _ _ _ _ _ (ps_set (i:=3) sc.nd rfl (Or.inl rfl) (pe_callD Z4g hr rfl pass_onF (pa_cons (pv 1) pa_nil)))
  (@pss_cons _ _ _ _ _ (ps_set (i:=4) sc.nd rfl (Or.inl rfl) pe_dnewK)
  (@pss_cons _ _ _ _ _ (ps_for own_outF rfl (pi_list (pv 1)) (pg_tup rfl (pgs_cons (pg_name (i:=5) sc.nd rfl (Or.inl rfl)) (pgs_cons (pg_name (i:=6) sc.nd rfl (Or.inl rfl)) (pgs_cons (pg_name (i:=7) sc.nd rfl (Or.inl rfl)) pgs_nil))))
   (@pss_one _ _ _ (ps_dput (hu_of hr) (pv 4) (pv 5) (pe_op op_mulH (pv 6) (pe_op op_fdivH (pv 3) (pv 7))) rfl)))
  (@pss_cons _ _ _ _ _ (ps_set (i:=8) sc.nd rfl (Or.inl rfl) (pe_callD Z39 hr rfl pass_onF (pa_cons (pv 1) (pa_cons (pe_callD Zh hr rfl pass_onF (pa_cons (pv 0) (pa_cons pe_int pa_nil))) pa_nil))))
  (@pss_cons _ _ _ _ _ (ps_set (i:=9) sc.nd rfl (Or.inl rfl) (pe_callD Z4z hr rfl pass_onF (pa_cons (pv 0) (pa_cons (pv 1) pa_nil))))
  (@pss_cons _ _ _ _ _ (ps_asg (pe_callD Z5n hr rfl pass_onF (pa_cons (pv 2) (pa_cons (pv 4) (pa_cons (pv 9) (pa_cons (pv 8) pa_nil))))) (pg_tup rfl (pgs_cons (pg_name (i:=10) sc.nd rfl (Or.inl rfl)) (pgs_cons (pg_name (i:=11) sc.nd rfl (Or.inl rfl)) (pgs_cons (pg_name (i:=12) sc.nd rfl (Or.inl rfl)) pgs_nil)))))
  (@pss_cons _ _ _ _ _ (ps_set (i:=13) sc.nd rfl (Or.inl rfl) (@pe_ix _ _ _ _ _ _ _ ix_list (pe_callD Z0m hr rfl pass_onF (pa_cons (pe_callD Zh hr rfl pass_onF (pa_cons (pv 0) (pa_cons pe_int pa_nil))) (pa_cons (pe_op op_add (pe_callB call_len_seq rfl T.Zy PySem.boot_len (pa_cons (pv 1) pa_nil)) pe_int) pa_nil))) (pe_callB call_len_seq rfl T.Zy PySem.boot_len (pa_cons (pv 1) pa_nil)) (fun _ _=>rfl)))
  (@pss_cons _ _ _ _ _ (ps_set (i:=14) sc.nd rfl (Or.inl rfl) (pe_callD Z2e hr rfl pass_onF (pa_cons (pe_makeS Z1t hr rfl (passS pass_onF) (pa_cons (pe_callTy call_list_of rfl T.Z0h (by first | rfl | decide+kernel) (pa_cons (pv 1) pa_nil)) pa_nil)) (pa_cons (pv 8) (pa_cons (pv 9) (pa_cons (pv 13) (pa_cons (pe_callD Zh hr rfl pass_onF (pa_cons (pv 0) (pa_cons pe_int pa_nil))) pa_nil)))))))
  (@pss_cons _ _ _ _ _ (ps_if (PW.pt (pw_or (pt_cmpR op_isN (pv 14) pe_non (nomark _)) (pw_or1 (pt_not (pt_val (pe_callB call_isiO rfl T.Zc (by first | rfl | decide+kernel) (pa_cons (pv 14) (pa_cons (pe_glob (v:= .ref Z9) rfl T.Z9g rfl) pa_nil))))))))
   (@pss_one _ _ _ (@ps_ret _ _ _ _ pe_bl))
   pss_nil)
  (@pss_cons _ _ _ _ _ (ps_set (i:=15) sc.nd rfl (Or.inl rfl) (pe_callTy call_list_of rfl T.Z0h (by first | rfl | decide+kernel) (pa_cons (pv 9) pa_nil)))
  (@pss_cons _ _ _ _ _ (ps_if (PW.pt (pw_or (pt_not (pt_val (pe_callD Z50 hr rfl pass_onF (pa_cons (pe_callD Z0o hr rfl pass_onF (pa_cons (pv 14) (pa_cons (pv 15) pa_nil))) (pa_cons (pv 10) pa_nil))))) (pw_or (pt_cmpR (op_neQ hr) (pv 15) (pv 9) (nomark _)) (pw_or1 (pt_cmpR op_isnB (pe_methS0 Z1u T.Za hr (passS pass_onF) (pv 14)) pe_bl (nomark _))))))
   (@pss_one _ _ _ (@ps_ret _ _ _ _ pe_bl))
   pss_nil)
  (@pss_cons _ _ _ _ _ (ps_set (i:=16) sc.nd rfl (Or.inl rfl) (pe_methS0 Z1v T.Za hr (passS pass_onF) (pv 14)))
  (@pss_cons _ _ _ _ _ (ps_if (PW.pt (pw_or (pt_not (pt_val (pe_callD Z0n hr rfl pass_onF (pa_cons (pv 16) pa_nil)))) (pw_or1 (pt_cmpR op_ne (pe_op op_mulH (@pe_ix _ _ _ _ _ _ _ ix_tup (pv 16) pe_int (fun _ _=>rfl)) (pv 3)) (pe_op op_mulH (pv 11) (@pe_ix _ _ _ _ _ _ _ ix_tup (pv 16) pe_int (fun _ _=>rfl))) (nomark _)))))
   (@pss_one _ _ _ (@ps_ret _ _ _ _ pe_bl))
   pss_nil)
  (@pss_cons _ _ _ _ _ (ps_for own_outF rfl (pi_list (pe_op op_cat (pe_callTy (call_listD rfl) rfl T.Z0h (by first | rfl | decide+kernel) (pa_cons (pv 2) pa_nil)) (@pe_lst _ _ _ _ (pa_cons (pv 13) (pa_cons pe_str (pa_cons pe_str pa_nil)))))) (pg_name (i:=5) sc.nd rfl (Or.inl rfl))
   (@pss_one _ _ _ (ps_if (pt_not (pt_val (pe_callD Z51 hr rfl pass_onF (pa_cons (pv 14) (pa_cons (pv 5) (pa_cons (pv 12) (pa_cons (pv 3) pa_nil)))))))
    (@pss_one _ _ _ (@ps_ret _ _ _ _ pe_bl))
    pss_nil)))
  (@pss_one _ _ _ (@ps_ret _ _ _ _ pe_bl)))))))))))))))))),?_⟩
 walk_at "st"
 have line:=line_val
 walk_at "go"
 intro r0 as0 ts0 H1 sm1 hr1 hR1 ht1 hc1 hnm1
 have hS1:=sm1.seq hS
 refine ⟨ns,hS1,by decide,hl,as0,ts0,hR1,ht1,hc1,fun r as ts H2 sm2 hr2 hR2 ht2 hnm2=>?_⟩
 have hS2:=sm2.seq hS1
 have hlen0:ts.length=ts0.length∧True:=⟨by have:=congrArg List.length hnm2;rw [List.length_map,List.length_map]at this;exact this,trivial⟩
 rw [hnm1,← hlen0.1]at hnm2
 have hnm:ts.map (·.1)=N56.nmL (ns.getD 1 0) ts.length∧True:=⟨hnm2,trivial⟩
 clear hr1 hR1 ht1 hc1 sm1 sm2 hS1 hnm1 hnm2 hlen0
 have htl:=hR2.m
 have nd:=hR2.nd
 have hokk:=hR2.ok
 have hn:=hR2.n
 rename_i rest hrest
 subst hrest
 walk_at "go"
 refine ⟨as,ts,hR2,fun e H3 sm3 he=>?_⟩
 have hR3:=hR2.same sm3
 have hS3:=sm3.seq hS2
 have hr3:=sm3 _ _ hr2
 clear sm3 hS2 hR2 hr2
 rename_i rest hrest
 subst hrest
 walk_at "go"
 refine ⟨as,ts,hR3,fun U hUp hUb hUd=>?_⟩
 have hU:Un U ts:=⟨hUp,hUb,fun t ht=>⟨(hokk t ht).2.2.2.1,(hokk t ht).2.2.2.2,hUd t ht⟩,fun t ht=>⟨(hokk t ht).2.1,(hokk t ht).2.2.1⟩⟩
 rename_i rest hrest
 subst hrest
 walk_at "go"
 intro td htd
 have s4:Same H3 (upd H3 td (.dK [])):=Same.new htd
 have htd4:upd H3 td (.dK []) td=some (.dK []):=upd_same
 generalize upd H3 td (.dK [])=H4 at s4 htd4 ⊢
 have hR4:=hR3.same s4
 have hS4:=s4.seq hS3
 have he4:=s4 _ _ he
 have nte:e≠td:=fun k=>by rw [k,htd]at he;cases he
 clear s4 hR3 hS3 hr3 he htd
 rename_i rest hrest
 subst hrest
 walk_at "go"
 refine ⟨⟨_,hR4.l⟩,?_⟩
 rename_i rest hrest
 refine forL_by (xs:=as.map V.ref) (fun i σ H'=>∃(tks:List (Key×V)) (v5 v6 v7:Option V),σ=[some (V.ref a),some (V.ref r),some (V.ref e),some (V.int U),some (V.ref td),v5,v6,v7,none,none,none,none,none,none,none,none,none]∧SameBut td H4 H'∧H' td=some (.dK tks)∧tks.length≤i∧∀(j:Nat) (t:Th),j < i→ts[j]?=some t→valV tks (Sum.inr t.1)=some (.int (sh U ts t.1))) ⟨[],none,none,none,rfl,fun b o e _=>e,htd4,Nat.le_refl _,fun j t hj=>absurd hj (Nat.not_lt_zero j)⟩ (fun i σ H' _ h_=>by obtain ⟨_,_,_,_,_,sb,_⟩:=h_;exact SqL.butD sb htd4 hR4.l) ?_ ?_
 · clear hrest
   rintro i u σ H' hu ⟨tks,v5,v6,v7,rfl,sb,htd',hlt,hvt⟩
   rw [List.getElem?_map]at hu
   cases ha:as[i]? with
   | none=>rw [ha]at hu;cases hu
   | some pa=>
   rw [ha]at hu
   cases hu
   have hi:i < ts.length:=by rw [← hn];exact (List.getElem?_eq_some_iff.mp ha).1
   have ht:=th_at hi
   have hT:=SqT.butD sb htd4 (hR4.at_ i pa _ ha ht)
   have hok:=hokk _ (List.mem_of_getElem? ht)
   have hsh:sh U ts (ts.getD i th0).1=(ts.getD i th0).2.1 * (U.fdiv (ts.getD i th0).2.2):=by
    unfold sh
    rw [cst_at nd ht,rm_at nd ht,Int.fdiv_eq_ediv_of_nonneg _ (by omega)]
   walk_at "go"
   refine ⟨_,hT,rfl,_,_,rfl,_,_,rfl,_,_,rfl,rfl,?_⟩
   walk_at "go"
   have hfd:=fdiv_in hUp (show 0 < (ts.getD i th0).2.2 by omega)
   refine ⟨⟨nat_lt (a:=30) hok.2.1 hok.2.2.1 (by decide),nat_lt (a:=180) hfd.1 (by omega) (by decide)⟩,?_⟩
   rw [← hsh]
   have hlp:=length_putK tks (Sum.inr (ts.getD i th0).1:Key) (V.int (sh U ts (ts.getD i th0).1))
   refine ⟨_,DPut.k (k:=Sum.inr (ts.getD i th0).1) htd' (by omega),fun b o e nb=>by rw [upd_ne nb];exact sb _ _ e nb,_,upd_same,by omega,fun j t hj h2=>?_⟩
   rw [valV_put]
   by_cases hji:j=i
   · rw [hji,ht]at h2
     cases h2
     rw [if_pos rfl]
   · rw [if_neg (fun k=>hji ?_)]
     · exact hvt j t (by omega) h2
     · have k1:t.1=(ts.getD i th0).1:=Sum.inr.inj k
       have g1:(ts.map (·.1))[j]?=some t.1:=by rw [List.getElem?_map,h2];rfl
       have g2:(ts.map (·.1))[i]?=some (ts.getD i th0).1:=by rw [List.getElem?_map,ht];rfl
       rw [← k1]at g2
       exact (List.getElem?_inj (by rw [List.length_map];have:=(List.getElem?_eq_some_iff.mp h2).1;exact this) nd).mp (g1.trans g2.symm)
 · rintro σ H5 ⟨tks,v5,v6,v7,rfl,sb,htd5,hlt,hvt0⟩
   rw [List.length_map,hn]at hvt0
   have hvt:∀y∈ts.map (·.1),valV tks (Sum.inr y)=some (.int (sh U ts y)):=fun y hy=>by
    obtain ⟨j,t,ht,rfl⟩:=mem_nth hy
    exact hvt0 j t ((List.getElem?_eq_some_iff.mp ht).1) ht
   have hR5:RowsAt K H5 r as ts:=⟨SqL.butD sb htd4 hR4.l,hR4.n,hR4.m,fun i b t e1 e2=>SqT.butD sb htd4 (hR4.at_ i b t e1 e2),hR4.ok,hR4.nd⟩
   have hS5:=SqL.butD sb htd4 hS4
   have he5:=sb _ _ he4 nte
   clear sb hR4 hS4 htd4 hlt hvt0 he4 nte
   subst hrest
   walk_at "go"
   refine ⟨as,ts,hR5,ht2,fun n H6 sm6 hn1 hn2 hnt=>?_⟩
   have hR6:=hR5.same sm6
   have hS6:=sm6.seq hS5
   have he6:=sm6 _ _ he5
   have htd6:=sm6 _ _ htd5
   clear hR5 hS5 he5 htd5 sm6
   rename_i rest hrest
   subst hrest
   walk_at "go"
   refine ⟨as,ts,hR6,ht2,fun ap ys H7 sm7 hap7 hyl hin=>?_⟩
   have hR7:=hR6.same sm7
   have hS7:=sm7.seq hS6
   have he7:=sm7 _ _ he6
   have htd7:=sm7 _ _ htd6
   clear hR6 hS6 he6 htd6 sm7
   have hrm:∀y∈ys,rm ts y≤n:=fun y hy=>by
    obtain ⟨j,t,ht,e'⟩:=mem_nth (hin y hy)
    rw [← e',rm_at nd ht]
    exact hnt t (List.mem_of_getElem? ht)
   rename_i rest hrest
   subst hrest
   walk_at "go"
   refine ⟨U,ts,he7,ys,_,htd7,hvt,hU,nd,htl,SqL.of hap7,by omega,hin,hrm,fun tp bk dd bas gs kd H8 sm8 htp hbk hdd hkd=>?_⟩
   refine ⟨_,SqT.of htp,rfl,_,_,rfl,_,_,rfl,_,_,rfl,rfl,?_⟩
   have hR8:=hR7.same sm8
   have hS8:=sm8.seq hS7
   have he8:=sm8 _ _ he7
   have hap8:=sm8 _ _ hap7
   clear hR7 hS7 he7 htd7 hap7 sm8 htp
   rename_i rest hrest
   subst hrest
   walk_at "go"
   refine ⟨_,.inl hR8.l,ts.length+1,by rw [List.length_map,hn];omega,by omega,fun np H9 hnp sm9 hnp9 hnd9 hnm9=>⟨_,.inl (sm9.seq hR8.l),?_⟩⟩
   rw [List.length_map,hn]
   have hgz:(N56.nmL (ns.getD 1 0) (ts.length+1))[ts.length]?=some (nmF (ns.getD 1 0) ts.length):=by unfold N56.nmL;rw [List.getElem?_map,List.getElem?_range (by omega)];rfl
   refine ixL_of (SqL.of hnp9) (v:=V.str (nmF (ns.getD 1 0) ts.length)) (atI_nat (j:=ts.length) (by rw [List.getElem?_map,hgz];rfl)) ?_
   have hznew:nmF (ns.getD 1 0) ts.length∉ts.map (·.1):=by rw [hnm.1];exact nmL_new hnd9
   have hzrep:=repr_name (hnm9 _ (List.mem_of_getElem? hgz))
   generalize nmF (ns.getD 1 0) ts.length=z at hgz hznew hzrep ⊢
   have hR9:=hR8.same sm9
   have hS9:=sm9.seq hS8
   have he9:=sm9 _ _ he8
   have hap9:=sm9 _ _ hap8
   have hbk9:=hbk.same sm9
   have hdd9:=sm9 _ _ hdd
   clear hR8 hS8 he8 hap8 hbk hdd sm9 hnp hnp9 hnd9 hnm9 hgz hnm
   rename_i rest hrest
   subst hrest
   walk_at "go"
   refine ⟨_,.inl hR9.l,fun D2 hD2=>?_⟩
   have smE:Same H9 (upd H9 D2 (.lst (as.map V.ref))):=Same.new hD2
   have hDE:upd H9 D2 (.lst (as.map V.ref)) D2=some (.lst (as.map V.ref)):=upd_same
   generalize upd H9 D2 (.lst (as.map V.ref))=H10 at smE hDE ⊢
   have hR10:=hR9.same smE
   have hS10:=smE.seq hS9
   have he10:=smE _ _ he9
   have hap10:=smE _ _ hap9
   have hbk10:=hbk9.same smE
   have hdd10:=smE _ _ hdd9
   have hRD:RowsAt K H10 D2 as ts:=⟨SqL.of hDE,hR10.n,hR10.m,hR10.at_,hR10.ok,hR10.nd⟩
   obtain ⟨rws,e1,e2,e3,e4⟩:=hRD.init
   intro st dx hst hdx ne1
   have smx:Same H10 (upd (upd H10 dx (.own st)) st (.ins Z1 dx [])):=fun b o e=>by rw [upd_ne (ne_of_none e hst),upd_ne (ne_of_none e hdx)];exact e
   refine ⟨dx,upd_same,rws,by rw [e1];exact smx.seq hRD.l,fun t ht=>smx.tup (e2 t ht),e3,fun H11 sb11 stk=>?_⟩
   rw [e4]at stk
   have sm11:Same H10 H11:=same_made hst hdx sb11
   have hS11:=sm11.seq hS10
   have he11:=sm11 _ _ he10
   have hap11:=sm11 _ _ hap10
   have hbk11:=hbk10.same sm11
   have hdd11:=sm11 _ _ hdd10
   clear smx hRD e1 e2 e3 e4 sb11 hst hdx ne1 smE hD2 hDE hR10 sm11 hap10 hR9 hap9 hS9 hS10 he9 he10 hbk9 hbk10 hdd9 hdd10
   refine ⟨ns,hS11,by decide,hl,U,ts,stk,nd,ys,hap11,by omega,hin,hrm,hznew,hn1,hn2,hUp,fun q9 x H12 sm12 hfr hd12=>?_⟩
   have he12:=sm12 _ _ he11
   have hap12:=sm12 _ _ hap11
   have hbk12:=hbk11.same sm12
   have hdd12:=sm12 _ _ hdd11
   clear hS11
   obtain ⟨dx9,fs9,ho9,hf9⟩:=id hd12.o
   rename_i rest hrest
   subst hrest
   walk_at "go"
   refine ⟨Z0,dx9,fs9,ho9,T.w_Dues_Rule,?_⟩
   clear ho9 hf9
   rename_i rest hrest
   subst hrest
   walk_at "go"
   refine ⟨_,.inl (SqL.of hap12),fun hd hhd=>?_⟩
   have smh:Same H12 (upd H12 hd (.lst (ys.map V.str))):=Same.new hhd
   have hhd13:upd H12 hd (.lst (ys.map V.str)) hd=some (.lst (ys.map V.str)):=upd_same
   have hh12:AtD Z0 U H12 (DuM q9 x) q9 st n ⟨0,[],fun _=>0,[]⟩:=⟨x,rfl,hd12⟩
   have nhd:hd∉DuM q9 x:=fun k=>hh12.live _ k hhd
   generalize upd H12 hd (.lst (ys.map V.str))=H13 at smh hhd13 ⊢
   have sm13:=sm12.trans smh
   have hh13:=hh12.same smh
   have hDI0:=(PI.start (ys:=ys) (F:=n) (P:=n) hU nd fun y h=>h).di
   have hap13:=smh _ _ hap12
   have hbk13:=hbk12.same smh
   have hdd13:=smh _ _ hdd12
   have hM13:∀b∈DuM q9 x,H11 b=none:=hfr
   have nap:ap∉DuM q9 x:=fun k=>by have:=hfr ap k;rw [hap11]at this;cases this
   clear hh12 hd12 smh hhd hap12 hbk12 hdd12 he12
   rename_i rest hrest
   subst hrest
   walk_at "go"
   refine .inl ⟨H11,st,DuM q9 x,n,U,ts,ys,_,hh13,hDI0,stk,sm13,hfr,nd,htl,SqL.of hhd13,nhd,by omega,hin,hrm,hn1,hn2,Nat.zero_le _,fun b bs gs2 H14 kp14 hb14 htup hbkN hh14=>?_⟩
   have sm14:=Kp.same sm13 kp14 hfr
   have hd14:=kp14 _ _ nhd hhd13
   clear hh13 hDI0 hhd13 nhd hap13 hbk13 hdd13 sm13 kp14 sm12
   refine ⟨bs,hb14,htup,gs2,_,_,_,hbkN,hbk11.same sm14,by rw [grows_len];omega,fun H15 sm15=>?_⟩
   have sm115:=sm14.trans sm15
   have hd15:=sm15 _ _ hd14
   have hap15:=sm115 _ _ hap11
   have hdd15:=sm115 _ _ hdd11
   have he15:=sm115 _ _ he11
   have hh15:=hh14.same sm15
   clear hd14 hh14 hb14 htup hbkN sm14 sm15 hbk11 hap11 hdd11 he11
   refine ⟨_,⟨hd,ap,_,_,rfl,rfl,.inl ⟨SqL.of hd15,SqL.of hap15⟩,all_strs,all_strs,rfl⟩,?_⟩
   rw [flatEq_self all_strs,if_neg (by decide)]
   obtain ⟨x15,ex15,hdu⟩:=hh15
   obtain ⟨dq,fs,hoq,hfq⟩:=id hdu.o
   refine ⟨dq,fs,hoq,hfq.m _ (by simp),?_⟩
   rw [if_neg (by decide)]
   generalize (gst (TD Z0 U ts) (rm ts) n ⟨0,[],fun _=>0,[]⟩ ys ys.length).1=g at hdu hkd ⊢
   rename_i rest hrest
   subst hrest
   walk_at "go"
   refine ⟨dq,fs,hoq,hfq.m _ (by simp),st,n,U,x15,g,hdu,?_⟩
   obtain ⟨c1,c2,c3,c4,c5⟩:=rt_all (v:=g.r) hUp
   obtain ⟨b1,b2⟩:=hdu.b.1
   have hrp:=hdu.rp
   rename_i rest hrest
   subst hrest
   walk_at "go"
   refine ⟨U,g.r,hrp,hUp,?_⟩
   refine ixT_of (SqT.of hrp) (v:=V.int (rt U g.r).1) rfl ⟨_,rfl,⟨Nat.lt_of_le_of_lt c4 (nat_lt (a:=230) b1 b2 (by decide)),nat_lt (a:=180) (by omega) hUb (by decide)⟩,?_⟩
   refine ixT_of (SqT.of hrp) (v:=V.int (rt U g.r).2) rfl ⟨_,rfl,⟨nat_lt (a:=230) b1 b2 (by decide),Nat.lt_of_le_of_lt c5 (nat_lt (a:=180) (by omega) hUb (by decide))⟩,?_⟩
   rw [if_neg (fun h=>h c1)]
   clear c1 c2 c3 c4 c5 b1 b2
   rename_i rest hrest
   subst hrest
   walk_at "go"
   refine ⟨_,he15,fun l1 hl1=>⟨by omega,fun l2 hl2=>?_⟩⟩
   have eK:(N20.rmK ts).map (fun p=>kV p.1)=(ts.map (·.1)).map V.str:=by unfold N20.rmK;rw [List.map_map,List.map_map];rfl
   rw [eK]at hl2 ⊢
   clear eK
   have s16:Same H15 (upd H15 l1 (.lst ((ts.map (·.1)).map V.str))):=Same.new hl1
   have k16:upd H15 l1 (.lst ((ts.map (·.1)).map V.str)) l1=some (.lst ((ts.map (·.1)).map V.str)):=upd_same
   generalize upd H15 l1 (.lst ((ts.map (·.1)).map V.str))=H16 at s16 k16 hl2 ⊢
   have s17:Same H16 (upd H16 l2 (.lst [V.str z,V.str (Str.ofString ""),V.str (Str.ofString "no name")])):=Same.new hl2
   have k17:upd H16 l2 (.lst [V.str z,V.str (Str.ofString ""),V.str (Str.ofString "no name")]) l2=some (.lst [V.str z,V.str (Str.ofString ""),V.str (Str.ofString "no name")]):=upd_same
   generalize upd H16 l2 (.lst [V.str z,V.str (Str.ofString ""),V.str (Str.ofString "no name")])=H17 at s17 k17 ⊢
   refine ⟨l1,l2,_,_,rfl,rfl,s17 _ _ k16,k17,by rw [List.length_map,List.length_map];simp only [List.length_cons,List.length_nil];omega,fun l3 hl3=>?_⟩
   have ez:(ts.map (·.1)).map V.str++[V.str z,V.str (Str.ofString ""),V.str (Str.ofString "no name")]=(ts.map (·.1)++[z,Str.ofString "",Str.ofString "no name"]).map V.str:=by rw [List.map_append];rfl
   rw [ez]
   clear ez
   have hrep:∀y∈ts.map (·.1)++[z,Str.ofString "",Str.ofString "no name"],(reprText y).length≤1000:=fun y hy=>by
    rcases List.mem_append.mp hy with h | h
    · obtain ⟨j,t,ht,rfl⟩:=mem_nth h
      exact repr_name (hokk t (List.mem_of_getElem? ht)).1
    · simp only [List.mem_cons,List.not_mem_nil,or_false]at h
      rcases h with h | h | h <;> rw [h]
      · exact hzrep
      · decide+kernel
      · decide+kernel
   generalize ts.map (·.1)++[z,Str.ofString "",Str.ofString "no name"]=zs at hrep ⊢
   have s18:Same H17 (upd H17 l3 (.lst (zs.map V.str))):=Same.new hl3
   have k18:upd H17 l3 (.lst (zs.map V.str)) l3=some (.lst (zs.map V.str)):=upd_same
   generalize upd H17 l3 (.lst (zs.map V.str))=H18 at s18 k18 ⊢
   have s158:=(s16.trans s17).trans s18
   have hdu18:=hdu.same s158
   have hdd18:=s158 _ _ hdd15
   clear s16 s17 s18 k16 k17 hl1 hl2 hl3 hdu hdd15 hd15 hap15 he15 s158
   refine ⟨l3,rfl,⟨_,SqL.of k18⟩,?_⟩
   rename_i rest hrest
   refine forL_by (xs:=zs.map V.str) (fun i σ H'=>∃(v5:Option V),σ=[some (V.ref a),some (V.ref r),some (V.ref e),some (V.int U),some (V.ref td),v5,v6,v7,some (V.int n),some (V.ref ap),some (V.ref bk),some (V.int g.r),some (V.ref dd),some (V.str z),some (V.ref q9),some (V.ref hd),some (V.ref x15.rp)]∧Same H18 H') ⟨v5,rfl,Same.refl _⟩ (fun i σ H' _ h_=>by obtain ⟨_,_,sm⟩:=h_;exact SqL.of (sm _ _ k18)) ?_ ?_
   · clear hrest
     rintro i u σ H' hu ⟨w5,rfl,sm⟩
     rw [List.getElem?_map]at hu
     cases hy:zs[i]? with
     | none=>rw [hy]at hu;cases hu
     | some y=>
     rw [hy]at hu
     cases hu
     walk_at "go"
     exact ⟨st,n,x15,g,hdu18.same sm,hUp,hUb,hrep y (List.mem_of_getElem? hy),kd,sm _ _ hdd18,hkd,fun H'' sm2=>sm.trans sm2⟩
   · rintro σ H' ⟨w5,rfl,sm⟩
     subst hrest
     walk_at "go"
     exact q _
end
theorem all_mk{l:W.OpenLaw}{w:World}{K:W.Frag}{h:Heap}{mg:Str→Option Value}{fa f0 f1 f2 f3 f4 f5 f6 f7 f8 f9 f10 f11 f12 f13 f14 f15 f16 f17 f18 f19 f20 f21 f22 f23 f24 f25 f26 f27 f28 f29 f30 f31 f32 f33 f34 f35 f36 f37 f38 f39 f40 f41 f42 f43 f44 f45 f46 f47 f48 f49 f50 f51 f52 f53 f54 f55 Z3 Z4 Z7 Z2 Z8 Z6 Z1 Z5 Z9 Z0:Addr}(X:K.In h)(G:h.Ns mainGlobals mg)(hfa:mg "law"=some (.ref fa))
 {od6 an6 od7 an7 od25 an25 od55 an55:Option Addr} {sl6 sl7 sl25 sl55:Array (Option Value)} {oc6 kV6 dc6 pm6 cd6 ct6 oc7 kV7 dc7 pm7 cd7 ct7 oc25 kV25 dc25 pm25 cd25 ct25 oc55 kV55 dc55 pm55 cd55 ct55:Value}
 {d0 d1 d2 d3 d4 d5 d8 d9 d10 d11 d12 d13 d14 d15 d16 d17 d18 d19 d20 d21 d22 d23 d24 d26 d27 d28 d29 d30 d31 d32 d33 d34 d35 d36 d37 d38 d39 d40 d41 d42 d43 d44 d45 d46 d47 d48 d49 d50 d51 d52 d53 d54:FuncData}
 (a0:W.nsIn K mainGlobals "made_of"=some (some (.ref f0))) (F0:Fun K "made_of" "made_of" Z42 f0 d0)
 (a1:W.nsIn K mainGlobals "is_name"=some (some (.ref f1))) (F1:Fun K "is_name" "is_name" Z43 f1 d1)
 (a2:W.nsIn K mainGlobals "is_whole"=some (some (.ref f2))) (F2:Fun K "is_whole" "is_whole" Z30 f2 d2)
 (a3:W.nsIn K mainGlobals "is_within"=some (some (.ref f3))) (F3:Fun K "is_within" "is_within" Z20 f3 d3)
 (a4:W.nsIn K mainGlobals "check_thing"=some (some (.ref f4))) (F4:Fun K "check_thing" "check_thing" Z0x f4 d4)
 (M5:Mk K Z1 f5) (F5:Fun K "__init__" "Stock.__init__" Z1f f5 d5)
 (a6:W.findIn K (.ref Z4) "__init__"=some (some (.ref f6))) (l6:K.lookup f6=some ⟨oc6,od6,.func (W.fnOf "__init__" "Unknown.__init__" (defArgs Zw) (defBody Zw) (defScope Zw) .none kV6 dc6 pm6 an6 cd6 ct6),sl6⟩) (c6:W.codeIn K cd6 "Unknown.__init__"=true) (k6:W.keepIn K (.ref Z4)=true) (kf6:W.keepIn K (.ref f6)=true) (hc6:oc6= .type "function")
 (a7:W.findIn K (.ref Z7) "__init__"=some (some (.ref f7))) (l7:K.lookup f7=some ⟨oc7,od7,.func (W.fnOf "__init__" "TooWide.__init__" (defArgs Zx) (defBody Zx) (defScope Zx) .none kV7 dc7 pm7 an7 cd7 ct7),sl7⟩) (c7:W.codeIn K cd7 "TooWide.__init__"=true) (k7:W.keepIn K (.ref Z7)=true) (kf7:W.keepIn K (.ref f7)=true) (hc7:oc7= .type "function")
 (M8:Meth K Z1 "has" f8) (F8:Fun K "has" "Stock.has" Z21 f8 d8)
 (M9:Meth K Z1 "thing_of" f9) (F9:Fun K "thing_of" "Stock.thing_of" Z0j f9 d9)
 (M10:Meth K Z1 "room_of" f10) (F10:Fun K "room_of" "Stock.room_of" Z0p f10 d10)
 (a11:W.nsIn K mainGlobals "check_places"=some (some (.ref f11))) (F11:Fun K "check_places" "check_places" Z0s f11 d11)
 (a12:W.nsIn K mainGlobals "check_asks"=some (some (.ref f12))) (F12:Fun K "check_asks" "check_asks" Z1g f12 d12)
 (M13:Mk K Z5 f13) (F13:Fun K "__init__" "Shelf.__init__" Z1h f13 d13)
 (M14:Meth K Z5 "lying" f14) (F14:Fun K "lying" "Shelf.lying" Z0y f14 d14)
 (M15:Meth K Z5 "holds" f15) (F15:Fun K "holds" "Shelf.holds" Z0z f15 d15)
 (M16:Meth K Z5 "room_left" f16) (F16:Fun K "room_left" "Shelf.room_left" Z0f f16 d16)
 (M17:Meth K Z5 "put" f17) (F17:Fun K "put" "Shelf.put" Z22 f17 d17)
 (M18:Meth K Z5 "cast" f18) (F18:Fun K "cast" "Shelf.cast" Z1i f18 d18)
 (M19:Meth K Z1 "cost_of" f19) (F19:Fun K "cost_of" "Stock.cost_of" Z0q f19 d19)
 (a20:W.nsIn K mainGlobals "divisor_of"=some (some (.ref f20))) (F20:Fun K "divisor_of" "divisor_of" Z1j f20 d20)
 (a21:W.nsIn K mainGlobals "ratio_of"=some (some (.ref f21))) (F21:Fun K "ratio_of" "ratio_of" Z31 f21 d21)
 (a22:W.nsIn K mainGlobals "plus_ratio"=some (some (.ref f22))) (F22:Fun K "plus_ratio" "plus_ratio" Z1k f22 d22)
 (a23:W.nsIn K mainGlobals "minus_ratio"=some (some (.ref f23))) (F23:Fun K "minus_ratio" "minus_ratio" Z10 f23 d23)
 (a24:W.nsIn K mainGlobals "under_ratio"=some (some (.ref f24))) (F24:Fun K "under_ratio" "under_ratio" Z11 f24 d24)
 (a25:W.findIn K (.ref Z9) "__init__"=some (some (.ref f25))) (l25:K.lookup f25=some ⟨oc25,od25,.func (W.fnOf "__init__" "Rule.__init__" (defArgs Z07) (defBody Z07) (defScope Z07) .none kV25 dc25 pm25 an25 cd25 ct25),sl25⟩) (c25:W.codeIn K cd25 "Rule.__init__"=true) (n25:W.isFn K (.ref f25)=true) (k25:W.keepIn K (.ref Z9)=true) (m25:W.makesIn K Z9=true) (kf25:W.keepIn K (.ref f25)=true)
 (fc25:W.findCls K (.ref Z9) (.type "type") "__init__"=some (.val (.ref f25))) (sc25:W.specialIn K (.ref Z9) "__getattribute__"=some (some (.builtin "type.__getattribute__"))) (rc25:W.readsIn K Z9 (.type "type")=true)
 (M26:Mk K Z0 f26) (F26:Fun K "__init__" "Dues.__init__" Z23 f26 d26)
 (M27:Meth K Z0 "nests" f27) (F27:Fun K "nests" "Rule.nests" Z1l f27 d27)
 (M28:Meth K Z0 "owe" f28) (F28:Fun K "owe" "Dues.owe" Z32 f28 d28)
 (M29:Meth K Z0 "asked" f29) (F29:Fun K "asked" "Dues.asked" Z1m f29 d29)
 (M30:Meth K Z0 "choice" f30) (F30:Fun K "choice" "Dues.choice" Z12 f30 d30)
 (M31:Meth K Z0 "gone" f31) (F31:Fun K "gone" "Dues.gone" Z24 f31 d31)
 (M32:Meth K Z0 "came" f32) (F32:Fun K "came" "Dues.came" Z25 f32 d32)
 (M33:Meth K Z0 "level" f33) (F33:Fun K "level" "Dues.level" Z1n f33 d33)
 (M34:Meth K Z0 "due_of" f34) (F34:Fun K "due_of" "Dues.due_of" Z13 f34 d34)
 (a35:W.nsIn K mainGlobals "make_room"=some (some (.ref f35))) (F35:Fun K "make_room" "make_room" Z26 f35 d35)
 (a36:W.nsIn K mainGlobals "row_of"=some (some (.ref f36))) (F36:Fun K "row_of" "row_of" Z4p f36 d36)
 (a37:W.nsIn K mainGlobals "book_of"=some (some (.ref f37))) (F37:Fun K "book_of" "book_of" Z44 f37 d37)
 (a38:W.nsIn K mainGlobals "_law_cell"=some (some (.ref f38))) (F38:Fun K "_law_cell" "_law_cell" Z4q f38 d38)
 (a39:W.nsIn K mainGlobals "_law_stream"=some (some (.ref f39))) (F39:Fun K "_law_stream" "_law_stream" Z33 f39 d39)
 (a40:W.nsIn K mainGlobals "_law_names"=some (some (.ref f40))) (F40:Fun K "_law_names" "_law_names" Z45 f40 d40)
 (a41:W.nsIn K mainGlobals "_law_rows"=some (some (.ref f41))) (F41:Fun K "_law_rows" "_law_rows" Z4r f41 d41)
 (a42:W.nsIn K mainGlobals "_law_places"=some (some (.ref f42))) (F42:Fun K "_law_places" "_law_places" Z34 f42 d42)
 (a43:W.nsIn K mainGlobals "_law_asks"=some (some (.ref f43))) (F43:Fun K "_law_asks" "_law_asks" Z4s f43 d43)
 (a44:W.nsIn K mainGlobals "_law_rooms"=some (some (.ref f44))) (F44:Fun K "_law_rooms" "_law_rooms" Z46 f44 d44)
 (a45:W.nsIn K mainGlobals "_law_same"=some (some (.ref f45))) (F45:Fun K "_law_same" "_law_same" Z4t f45 d45)
 (a46:W.nsIn K mainGlobals "_law_priced"=some (some (.ref f46))) (F46:Fun K "_law_priced" "_law_priced" Z35 f46 d46)
 (a47:W.nsIn K mainGlobals "_law_whole"=some (some (.ref f47))) (F47:Fun K "_law_whole" "_law_whole" Z47 f47 d47)
 (a48:W.nsIn K mainGlobals "_law_shared"=some (some (.ref f48))) (F48:Fun K "_law_shared" "_law_shared" Z36 f48 d48)
 (a49:W.nsIn K mainGlobals "_law_ratio"=some (some (.ref f49))) (F49:Fun K "_law_ratio" "_law_ratio" Z48 f49 d49)
 (a50:W.nsIn K mainGlobals "_law_scale"=some (some (.ref f50))) (F50:Fun K "_law_scale" "_law_scale" Z49 f50 d50)
 (a51:W.nsIn K mainGlobals "_law_least"=some (some (.ref f51))) (F51:Fun K "_law_least" "_law_least" Z4a f51 d51)
 (a52:W.nsIn K mainGlobals "_law_due"=some (some (.ref f52))) (F52:Fun K "_law_due" "_law_due" Z5f f52 d52)
 (a53:W.nsIn K mainGlobals "_law_told"=some (some (.ref f53))) (F53:Fun K "_law_told" "_law_told" Z4u f53 d53)
 (a54:W.nsIn K mainGlobals "_law_refused"=some (some (.ref f54))) (F54:Fun K "_law_refused" "_law_refused" Z27 f54 d54)
 (a55:W.nsIn K mainGlobals "law"=some (some (.ref f55))) (l55:K.lookup f55=some ⟨oc55,od55,.func (W.fnOf "law" "law" (defArgs Z1a) (defBody Z1a) (defScope Z1a) .none kV55 dc55 pm55 an55 cd55 ct55),sl55⟩) (c55:W.codeIn K cd55 "law"=true) (k55:W.keepIn K (.ref f55)=true)
 (Zy:W.nsIn K mainGlobals "len"=some none)
 (Zc:W.nsIn K mainGlobals "isinstance"=some none)
 (Z4k:W.nsIn K mainGlobals "int"=some none)
 (Z1e:W.nsIn K mainGlobals "bool"=some none)
 (Z54:W.nsIn K mainGlobals "str"=some none)
 (Z0h:W.nsIn K mainGlobals "list"=some none)
 (Z1d:W.nsIn K mainGlobals "tuple"=some none)
 (Z55:W.nsIn K mainGlobals "all"=some none)
 (Z0b:W.nsIn K mainGlobals "range"=some none)
 (Z2y:W.nsIn K mainGlobals "sum"=some none)
 (Z05:W.nsIn K mainGlobals "enumerate"=some none)
 (Z56:W.nsIn K mainGlobals "zip"=some none)
 (Z57:W.nsIn K mainGlobals "max"=some none)
 (Z64:W.nsIn K mainGlobals "min"=some none)
 (Z2z:W.nsIn K mainGlobals "abs"=some none)
 {Z7y:Tok} (Z0l:W.nsIn K mainGlobals "LETTERS"=some (some (.str "abcdefghijklmnopqrstuvwxyz" Z7y)))
 {Z7z:Tok} (Z0w:W.nsIn K mainGlobals "FIGURES"=some (some (.str "0123456789" Z7z)))
 {Z63:Tok} (Z0a:W.nsIn K mainGlobals "MOST_SIGNS"=some (some (.int 8 Z63)))
 {Z5o:Tok} (Z04:W.nsIn K mainGlobals "MOST_THINGS"=some (some (.int 60 Z5o)))
 {Z6e:Tok} (Z0i:W.nsIn K mainGlobals "MOST_ROOM"=some (some (.int 1000 Z6e)))
 {Z5p:Tok} (Zz:W.nsIn K mainGlobals "MOST_PLACES"=some (some (.int 1000000 Z5p)))
 {Z6f:Tok} (Z06:W.nsIn K mainGlobals "MOST_ASKS"=some (some (.int 200 Z6f)))
 (Z4l:W.nsIn K mainGlobals "Stock"=some (some (.ref Z1))) (Z9s:Cls K Z1)
 (Zd:W.findIn K (.ref Z1) "things"=some none)
 (Z4m:W.nsIn K mainGlobals "Shelf"=some (some (.ref Z5))) (Z9t:Cls K Z5)
 (Zs:W.findIn K (.ref Z5) "stock"=some none)
 (Zu:W.findIn K (.ref Z5) "places"=some none)
 (Zi:W.findIn K (.ref Z5) "rooms"=some none)
 (Z5b:W.nsIn K mainGlobals "Rule"=some (some (.ref Z9))) (Z9w:Cls K Z9)
 (Z5c:W.nsIn K mainGlobals "Dues"=some (some (.ref Z0))) (Z9x:Cls K Z0)
 (Zk:W.findIn K (.ref Z0) "stock"=some none)
 (Zo:W.findIn K (.ref Z0) "places"=some none)
 (Zj:W.findIn K (.ref Z0) "reached"=some none)
 (Zf:W.findIn K (.ref Z0) "dues"=some none)
 (Zq:W.findIn K (.ref Z0) "rises"=some none)
 (Z2f:W.nsIn K mainGlobals "CastError"=some (some (.ref Z3)))
 (Z1y:W.nsIn K mainGlobals "Unknown"=some (some (.ref Z4)))
 (Z1z:W.nsIn K mainGlobals "TooWide"=some (some (.ref Z7)))
 (Z3a:W.nsIn K mainGlobals "NoNumber"=some (some (.ref Z2)))
 (Z4h:W.nsIn K mainGlobals "TooMany"=some (some (.ref Z8)))
 (Z3b:W.nsIn K mainGlobals "NotThere"=some (some (.ref Z6)))
 {cA oA:Value} {dA eA:Option Addr} {cdA:ClassData} {slA smA:Array (Option Value)} {esA:Array DictEntry} {epA:Nat} (lA:K.lookup Z3=some ⟨cA,dA,.cls cdA,slA⟩) (lNA:K.lookup cdA.ns=some ⟨oA,eA,.dict esA epA,smA⟩) (sNA:strKeysB esA=true) (iNA:nsFind esA "__init__"=none)
 {Z6n Z80:Str} {Z5d:Addr} {Z6o:List Value} {Z6p:Bool} {Z6q:List Str} {Z6r:List Value} {Z6s:Bool} {Z6t:Option Bool} {Z6u:Option Addr} {Z6v Z6w Z6x Z6y Z6z:Option Value} {Z70:Value} {Z71:Option Addr} {Z2g:Array DictEntry} {Z72:Nat} {Z73:Array (Option Value)}
 (Z2h:K.lookup Z2=some (excClassObj Z6n Z80 Z2 Z5d Z6o [.ref Z3,.type "ValueError",.type "Exception",.type "BaseException",.type "object"] Z6p Z6q Z6r Z6s Z6t Z6u Z6v Z6w Z6x Z6y Z6z "ValueError.__new__")) (Z2i:K.lookup Z5d=some ⟨Z70,Z71,.dict Z2g Z72,Z73⟩) (Z2j:strKeysB Z2g=true) (Z2k:nsFind Z2g "__init__"=none)
 (Z2l:W.keepIn K (.ref Z2)=true)
 {Z81 Z9q:Str} {Z5r:Addr} {Z82:List Value} {Z83:Bool} {Z84:List Str} {Z85:List Value} {Z86:Bool} {Z87:Option Bool} {Z88:Option Addr} {Z89 Z8a Z8b Z8c Z8d:Option Value} {Z8e:Value} {Z8f:Option Addr} {Z3c:Array DictEntry} {Z8g:Nat} {Z8h:Array (Option Value)}
 (Z3d:K.lookup Z8=some (excClassObj Z81 Z9q Z8 Z5r Z82 [.ref Z3,.type "ValueError",.type "Exception",.type "BaseException",.type "object"] Z83 Z84 Z85 Z86 Z87 Z88 Z89 Z8a Z8b Z8c Z8d "ValueError.__new__")) (Z3e:K.lookup Z5r=some ⟨Z8e,Z8f,.dict Z3c Z8g,Z8h⟩) (Z3f:strKeysB Z3c=true) (Z3g:nsFind Z3c "__init__"=none)
 (Z3h:W.keepIn K (.ref Z8)=true)
 {Z74 Z8i:Str} {Z5e:Addr} {Z75:List Value} {Z76:Bool} {Z77:List Str} {Z78:List Value} {Z79:Bool} {Z7a:Option Bool} {Z7b:Option Addr} {Z7c Z7d Z7e Z7f Z7g:Option Value} {Z7h:Value} {Z7i:Option Addr} {Z2m:Array DictEntry} {Z7j:Nat} {Z7k:Array (Option Value)}
 (Z2n:K.lookup Z6=some (excClassObj Z74 Z8i Z6 Z5e Z75 [.ref Z3,.type "ValueError",.type "Exception",.type "BaseException",.type "object"] Z76 Z77 Z78 Z79 Z7a Z7b Z7c Z7d Z7e Z7f Z7g "ValueError.__new__")) (Z2o:K.lookup Z5e=some ⟨Z7h,Z7i,.dict Z2m Z7j,Z7k⟩) (Z2p:strKeysB Z2m=true) (Z2q:nsFind Z2m "__init__"=none)
 (Z2r:W.keepIn K (.ref Z6)=true)
 {Z8j Z0k:Str} {Z5s:Addr} {Z8k:List Value} {Z8l:List Str} {Z8m:List Value} {Z8n:Bool} {Z8o:Option Bool} {Z8p:Option Addr} {Z8q Z8r Z8s Z8t Z8u:Option Value} {Z8v:Value} {Z8w:Option Addr} {Z3i:Array DictEntry} {Z8x:Nat} {Z8y:Array (Option Value)}
 (Z1b:K.lookup Z4=some (excClassObj Z8j Z0k Z4 Z5s Z8k [.ref Z3,.type "ValueError",.type "Exception",.type "BaseException",.type "object"] true Z8l Z8m Z8n Z8o Z8p Z8q Z8r Z8s Z8t Z8u "ValueError.__new__")) (Z3j:K.lookup Z5s=some ⟨Z8v,Z8w,.dict Z3i Z8x,Z8y⟩) (Z3k:strKeysB Z3i=true) (Z3l:nsFind Z3i "__init__"=some (.ref f6))
 (Z3m:W.findIn K (.ref Z4) "__getattribute__"=some (some (.builtin "BaseException.__getattribute__"))) (Z3n:W.findIn K (.ref Z4) "__getattr__"=some none) (Z3o:W.findIn K (.ref Z4) "__setattr__"=some (some (.builtin "object.__setattr__")))
 (Zv:W.findIn K (.ref Z4) "name"=some none)
 (Zr:W.findIn K (.ref Z4) "place"=some none)
 {Z8z Z1w:Str} {Z5t:Addr} {Z90:List Value} {Z91:List Str} {Z92:List Value} {Z93:Bool} {Z94:Option Bool} {Z95:Option Addr} {Z96 Z97 Z98 Z99 Z9a:Option Value} {Z9b:Value} {Z9c:Option Addr} {Z3p:Array DictEntry} {Z9d:Nat} {Z9e:Array (Option Value)}
 (Z1c:K.lookup Z7=some (excClassObj Z8z Z1w Z7 Z5t Z90 [.ref Z3,.type "ValueError",.type "Exception",.type "BaseException",.type "object"] true Z91 Z92 Z93 Z94 Z95 Z96 Z97 Z98 Z99 Z9a "ValueError.__new__")) (Z3q:K.lookup Z5t=some ⟨Z9b,Z9c,.dict Z3p Z9d,Z9e⟩) (Z3r:strKeysB Z3p=true) (Z3s:nsFind Z3p "__init__"=some (.ref f7))
 (Z3t:W.findIn K (.ref Z7) "__getattribute__"=some (some (.builtin "BaseException.__getattribute__"))) (Z3u:W.findIn K (.ref Z7) "__getattr__"=some none) (Z3v:W.findIn K (.ref Z7) "__setattr__"=some (some (.builtin "object.__setattr__")))
 (Z02:W.findIn K (.ref Z7) "name"=some none)
 (Z00:W.findIn K (.ref Z7) "place"=some none)
 {Z7l:ClassData} (Z3w:W.subIn K (.ref Z2) (.type "BaseException")=some true) (Z2s:W.clsIn K Z2=some Z7l) (Z2t:W.typeIn K (.ref Z2)=some (.type "type"))
 {Z7m:ClassData} (Z3x:W.subIn K (.ref Z6) (.type "BaseException")=some true) (Z2u:W.clsIn K Z6=some Z7m) (Z2v:W.typeIn K (.ref Z6)=some (.type "type"))
 {Z9f:ClassData} (Z4i:W.subIn K (.ref Z4) (.type "BaseException")=some true) (Z3y:W.clsIn K Z4=some Z9f) (Z3z:W.typeIn K (.ref Z4)=some (.type "type"))
 (Z08:W.subIn K (.ref Z2) (.ref Z2)=some true)
 (Z0g:W.subIn K (.ref Z4) (.ref Z4)=some true)
 (Z09:W.subIn K (.ref Z6) (.ref Z6)=some true)
 {Z9u:ClassData} (Z4j:W.clsIn K Z9=some Z9u) (Z5q:W.typeIn K (.ref Z9)=some (.type "type"))
 (Z2w:W.subIn K (.ref Z0) (.ref Z0)=some true)
 (Z2x:W.subIn K (.ref Z0) (.ref Z9)=some true)
 :∃fd:FuncData,(∀(s:Shared) (v:Value),BindsTo s fd ⟨[v],[]⟩ [("_law_script",v)])∧∀base:Heap,K.In base→base.Ns mainGlobals mg→FnOk l.prog w K mg base (CXF l.prog w) 12 fa fd ["_law_script"] (sp_law K):=by
 have e:=hfa.symm.trans (W.mg_of X G a55)
 cases e
 have T:Txt K mg Z3 Z4 Z7 Z2 Z8 Z6 Z1 Z5 Z9 Z0:=⟨W.mg_of X G Z4l,Z9s,Zd,W.mg_of X G Z4m,Z9t,Zs,Zu,Zi,W.mg_of X G Z5b,Z9w,W.mg_of X G Z5c,Z9x,Zk,Zo,Zj,Zf,Zq,W.mg_of X G Z2f,W.mg_of X G Z1y,W.mg_of X G Z1z,W.mg_of X G Z3a,excC_of Z2h Z2i Z2j Z2k lA lNA sNA iNA,Z2l,W.mg_of X G Z4h,excC_of Z3d Z3e Z3f Z3g lA lNA sNA iNA,Z3h,W.mg_of X G Z3b,excC_of Z2n Z2o Z2p Z2q lA lNA sNA iNA,Z2r,excQ_of Z1b Z3m Z3n Z3o,Zv,Zr,excQ_of Z1c Z3t Z3u Z3v,Z02,Z00,exm_ref Z3w Z2s Z2t Z08,exm_ref Z4i Z3y Z3z Z0g,exm_ref Z3x Z2u Z2v Z09,kit_own Z2w Z4j Z5q Z2x,W.mg_none_of X G Zy,W.mg_none_of X G Zc,W.mg_none_of X G Z4k,W.mg_none_of X G Z1e,W.mg_none_of X G Z54,W.mg_none_of X G Z0h,W.mg_none_of X G Z1d,W.mg_none_of X G Z55,W.mg_none_of X G Z0b,W.mg_none_of X G Z2y,W.mg_none_of X G Z05,W.mg_none_of X G Z56,W.mg_none_of X G Z57,W.mg_none_of X G Z64,W.mg_none_of X G Z2z,⟨_,W.mg_of X G Z0l⟩,⟨_,W.mg_of X G Z0w⟩,⟨_,W.mg_of X G Z0a⟩,⟨_,W.mg_of X G Z04⟩,⟨_,W.mg_of X G Z0i⟩,⟨_,W.mg_of X G Zz⟩,⟨_,W.mg_of X G Z06⟩⟩
 have F6:=fun_mk (st:=Zw) l6 c6 kf6
 have F7:=fun_mk (st:=Zx) l7 c7 kf7
 have F25:=fun_mk (st:=Z07) l25 c25 kf25
 have F55:=fun_mk (st:=Z1a) l55 c55 k55
 refine ⟨W.fnOf "law" "law" (defArgs Z1a) (defBody Z1a) (defScope Z1a) .none kV55 dc55 pm55 an55 cd55 ct55,fun s v=> .of_eq rfl,fun base _ _=>?_⟩
 have B:Bs l.prog w K mg base:=⟨h,X,G⟩
 have Z4b:=F0.d B a0 (Z7p F0 T) (F0.e2 fun _ _ _ _ _ _ _ _=>rfl)
 have Z4c:=F1.d B a1 (Z7q F1 T Z4b) (F1.e1 fun _ _ _ _ _ _ _=>rfl)
 have Z37:=F2.d B a2 (Z6g F2 T) (F2.e1 fun _ _ _ _ _ _ _=>rfl)
 have Z01:=F3.d B a3 (Z65 F3 T Z37) (F3.e3 fun _ _ _ _ _ _ _ _ _=>rfl)
 have Z14:=F4.d B a4 (Z5g F4 T Z4c Z01) (F4.e4 fun _ _ _ _ _ _ _ _ _ _=>rfl)
 have Z1t:=F5.i B M5 Z4l (Z5u F5 T Z14) (F5.e2 fun _ _ _ _ _ _ _ _=>rfl)
 have Z0t:DefX l.prog w K mg base (CXF l.prog w) 1 "Unknown" Z4 ["self","name","place"] (sp_unk Z4):=⟨⟨f6,_,Z58 F6 T,mkX_of Z1b Z3j Z3k Z3l lA lNA sNA iNA l6 hc6 k6,W.mg_of X G Z1y,F6.binds (ps:=["self","name","place"]) fun _ _ _ _ _ _ us hl=>match us,hl with | [_,_,_],_=>rfl⟩⟩
 have Z0u:DefX l.prog w K mg base (CXF l.prog w) 1 "TooWide" Z7 ["self","name","place"] (sp_unk Z7):=⟨⟨f7,_,Z59 F7 T,mkX_of Z1c Z3q Z3r Z3s lA lNA sNA iNA l7 hc7 k7,W.mg_of X G Z1z,F7.binds (ps:=["self","name","place"]) fun _ _ _ _ _ _ us hl=>match us,hl with | [_,_,_],_=>rfl⟩⟩
 have Z28:=F8.m B M8 (Z66 F8 T) (F8.e2 fun _ _ _ _ _ _ _ _=>rfl)
 have Zp:=F9.m B M9 (Z4o F9 T) (F9.e2 fun _ _ _ _ _ _ _ _=>rfl)
 have Zb:=F10.m B M10 (Z4v F10 T Zp) (F10.e2 fun _ _ _ _ _ _ _ _=>rfl)
 have Ze:=F11.d B a11 (Z5a F11 T Z01) (F11.e1 fun _ _ _ _ _ _ _=>rfl)
 have Z1r:=F12.d B a12 (Z5v F12 T Ze Z28 Zb Z0t Z0u) (F12.e3 fun _ _ _ _ _ _ _ _ _=>rfl)
 have Z1s:=F13.i B M13 Z4m (Z5w F13 T Ze) (F13.e3 fun _ _ _ _ _ _ _ _ _=>rfl)
 have Z17:=F14.m B M14 (Z5h F14 T) (F14.e1 fun _ _ _ _ _ _ _=>rfl)
 have Zl:=F15.m B M15 (Z5i F15 T) (F15.e2 fun _ _ _ _ _ _ _ _=>rfl)
 have Zn:=F16.m B M16 (Z4d F16 T) (F16.e1 fun _ _ _ _ _ _ _=>rfl)
 have Z2c:=F17.m B M17 (Z67 F17 T Zb Zl Zn) (F17.e2 fun _ _ _ _ _ _ _ _=>rfl)
 have Z1p:=F18.m B M18 (Z5x F18 T Zl) (F18.e2 fun _ _ _ _ _ _ _ _=>rfl)
 have Z0r:=F19.m B M19 (Z4w F19 T Zp) (F19.e2 fun _ _ _ _ _ _ _ _=>rfl)
 have Z1o:=F20.d B a20 (Z5y F20 T) (F20.e2 fun _ _ _ _ _ _ _ _=>rfl)
 have Zt:=F21.d B a21 (Z6h F21 T Z1o) (F21.e2 fun _ _ _ _ _ _ _ _=>rfl)
 have Z03:=F22.d B a22 (Z5z F22 T Zt) (F22.e2 fun _ _ _ _ _ _ _ _=>rfl)
 have Z16:=F23.d B a23 (Z5j F23 T Zt) (F23.e2 fun _ _ _ _ _ _ _ _=>rfl)
 have Z15:=F24.d B a24 (Z5k F24 T) (F24.e2 fun _ _ _ _ _ _ _ _=>rfl)
 have Z29:DefB l.prog w K mg base (CXF l.prog w) 4 "Rule" Z9 ["self","stock","places"] (sp56_rinit K Z0 Z2):=⟨⟨f25,_,Z68 F25 T Ze,⟨m25,a25,n25,k25⟩,W.mg_of X G Z5b,F25.binds (ps:=["self","stock","places"]) fun _ _ _ _ _ _ us hl=>match us,hl with | [_,_,_],_=>rfl,fc25,kf25⟩,sc25,rc25⟩
 have Z0v:=F26.i B M26 Z5c (Z69 F26 T Z29) (F26.e3 fun _ _ _ _ _ _ _ _ _=>rfl)
 have Z1u:=F27.m B M27 (Z60 F27 T) (F27.e1 fun _ _ _ _ _ _ _=>rfl)
 have Z0c:=F28.m B M28 (Z6i F28 T Z03 Zt Z0r Zb) (F28.e2 fun _ _ _ _ _ _ _ _=>rfl)
 have Z1q:=F29.m B M29 (Z61 F29 T Z0c) (F29.e2 fun _ _ _ _ _ _ _ _=>rfl)
 have Z18:=F30.m B M30 (Z5l F30 T Z15) (F30.e2 fun _ _ _ _ _ _ _ _=>rfl)
 have Z2a:=F31.m B M31 (Z6a F31 T Z03 Z16) (F31.e2 fun _ _ _ _ _ _ _ _=>rfl)
 have Z2d:=F32.m B M32 (Z6b F32 T Z0c) (F32.e2 fun _ _ _ _ _ _ _ _=>rfl)
 have Z1v:=F33.m B M33 (Z62 F33 T) (F33.e1 fun _ _ _ _ _ _ _=>rfl)
 have Z19:=F34.m B M34 (Z5m F34 T) (F34.e2 fun _ _ _ _ _ _ _ _=>rfl)
 have Z2b:=F35.d B a35 (Z6c F35 T Zn Z17 Z18 Z1p Z2a) (F35.e3 fun _ _ _ _ _ _ _ _ _=>rfl)
 have Z4x:=F36.d B a36 (Z9k F36 T Z1q Zl Z2b Zb Z2c Z2d) (F36.e3 fun _ _ _ _ _ _ _ _ _=>rfl)
 have Z0o:=F37.d B a37 (Z7r F37 T Z1r Z1s Z4x) (F37.e2 fun _ _ _ _ _ _ _ _=>rfl)
 have Zh:=F38.d B a38 (Z9l F38 T) (F38.e2 fun _ _ _ _ _ _ _ _=>rfl)
 have Z0d:=F39.d B a39 (Z6j F39 T) (F39.e2 fun _ _ _ _ _ _ _ _=>rfl)
 have Z0m:=F40.d B a40 (Z7s F40 T) (F40.e2 fun _ _ _ _ _ _ _ _=>rfl)
 have Z4y:=F41.d B a41 (Z9m F41 T Zh Z0m Z0d) (F41.e1 fun _ _ _ _ _ _ _=>rfl)
 have Z39:=F42.d B a42 (Z6k F42 T) (F42.e2 fun _ _ _ _ _ _ _ _=>rfl)
 have Z4z:=F43.d B a43 (Z9n F43 T Zh Z0d) (F43.e2 fun _ _ _ _ _ _ _ _=>rfl)
 have Z4f:=F44.d B a44 (Z7t F44 T) (F44.e1 fun _ _ _ _ _ _ _=>rfl)
 have Z50:=F45.d B a45 (Z9o F45 T) (F45.e2 fun _ _ _ _ _ _ _ _=>rfl)
 have Z38:=F46.d B a46 (Z6l F46 T) (F46.e2 fun _ _ _ _ _ _ _ _=>rfl)
 have Z1x:=F47.d B a47 (Z7u F47 T) (F47.e1 fun _ _ _ _ _ _ _=>rfl)
 have Z0e:=F48.d B a48 (Z6m F48 T) (F48.e2 fun _ _ _ _ _ _ _ _=>rfl)
 have Z0n:=F49.d B a49 (Z7v F49 T Z1x Z0e) (F49.e1 fun _ _ _ _ _ _ _=>rfl)
 have Z4g:=F50.d B a50 (Z7w F50 T Z0e) (F50.e1 fun _ _ _ _ _ _ _=>rfl)
 have Z4e:=F51.d B a51 (Z7x F51 T) (F51.e3 fun _ _ _ _ _ _ _ _ _=>rfl)
 have Z5n:=F52.d B a52 (Z9r F52 T Z4e) (F52.e4 fun _ _ _ _ _ _ _ _ _ _=>rfl)
 have Z51:=F53.d B a53 (Z9p F53 T Z19 Z0n) (F53.e4 fun _ _ _ _ _ _ _ _ _ _=>rfl)
 have Z2e:=F54.d B a54 (Z6d F54 T Z0v Z0o) (F54.e5 fun _ _ _ _ _ _ _ _ _ _ _=>rfl)
 exact Z9v F55 T Z4y Z38 Zh Z4f Z4g Z39 Z4z Z5n Z0m Z1t Z2e Z0o Z50 Z1u Z1v Z0n Z51
end K56
namespace PySem.W.Fast
theorem tw2472817767066886452:True:=⟨⟩
theorem tw4881823511721695817:True:=⟨⟩
theorem tw5934646099317857525:True:=⟨⟩
theorem tw8034147847168553289:True:=⟨⟩
theorem tw2770543638336312037:True:=⟨⟩
theorem tw18093867480148686526:True:=⟨⟩
theorem tw3586562356880902643:True:=⟨⟩
theorem tw12040796457343517213:True:=⟨⟩
theorem tw16849709274826139384:True:=⟨⟩
theorem tw16245169633746778896:True:=⟨⟩
theorem tw10935620522815923501:True:=⟨⟩
theorem tw6478565750121042506:True:=⟨⟩
theorem tw9487053735264761569:True:=⟨⟩
theorem tw1784712684579236813:True:=⟨⟩
theorem tw4632146351732918517:True:=⟨⟩
theorem tw3955607780267925662:True:=⟨⟩
theorem tw16085475323023420945:True:=⟨⟩
theorem tw1565570641559413557:True:=⟨⟩
theorem tw17581930671161650838:True:=⟨⟩
theorem tw9136486428630818942:True:=⟨⟩
theorem tw6497693785049883079:True:=⟨⟩
theorem tw13545024425812933708:True:=⟨⟩
theorem tw4358988603421918827:True:=⟨⟩
theorem tw15311058884486908751:True:=⟨⟩
theorem tw1994244170646874822:True:=⟨⟩
theorem tw3801277224567792577:True:=⟨⟩
theorem tw8300327491059467407:True:=⟨⟩
theorem tw14022093929811727740:True:=⟨⟩
theorem tw8222073525536790302:True:=⟨⟩
theorem tw17220129781894175556:True:=⟨⟩
theorem tw16139069376140684053:True:=⟨⟩
theorem tw2875293236557201977:True:=⟨⟩
theorem tw5502642447192547743:True:=⟨⟩
theorem tw8859784408440920343:True:=⟨⟩
theorem tw11357086188507356832:True:=⟨⟩
theorem tw15212149110112119786:True:=⟨⟩
theorem tw225838482689547732:True:=⟨⟩
theorem tw269247695764855703:True:=⟨⟩
theorem tw8959916013603943148:True:=⟨⟩
theorem tw7448557619724399624:True:=⟨⟩
theorem tw506543869204638276:True:=⟨⟩
theorem tw8348400558395055336:True:=⟨⟩
theorem tw2481249695605295297:True:=⟨⟩
theorem tw9142491484988708942:True:=⟨⟩
theorem tw11923184838836852222:True:=⟨⟩
theorem tw10637745577549883714:True:=⟨⟩
theorem tw118967170629252126:True:=⟨⟩
theorem tw11325115371248806099:True:=⟨⟩
theorem tw1226202785983744340:True:=⟨⟩
theorem tw1829765680724958219:True:=⟨⟩
theorem tw12553315048005033601:True:=⟨⟩
theorem tw4555761859200464867:True:=⟨⟩
theorem tw12280726007381997656:True:=⟨⟩
theorem tw1172407148436699376:True:=⟨⟩
theorem tw3823411990536595880:True:=⟨⟩
theorem tw6982644170194446575:True:=⟨⟩
theorem tw11349612979240132983:True:=⟨⟩
theorem tw743475527311349013:True:=⟨⟩
theorem tw11303844210058124181:True:=⟨⟩
theorem tw5931933152082121073:True:=⟨⟩
theorem tw9637657889489852715:True:=⟨⟩
theorem tw10738730552755961724:True:=⟨⟩
theorem tw29057947169911880:True:=⟨⟩
theorem tw3278102225248020685:True:=⟨⟩
theorem tw16602437789644862853:True:=⟨⟩
theorem tw2855699180899835113:True:=⟨⟩
theorem tw14671934599688121489:True:=⟨⟩
theorem tw15172709584314378106:True:=⟨⟩
theorem tw14734434917289372640:True:=⟨⟩
theorem tw4833354762657340147:True:=⟨⟩
theorem tw4336006062008070889:True:=⟨⟩
theorem tw5140620622112295732:True:=⟨⟩
theorem tw3124035090940756238:True:=⟨⟩
theorem tw4082550974065867170:True:=⟨⟩
theorem tw1909585942265306346:True:=⟨⟩
theorem tw3480184179305688506:True:=⟨⟩
theorem tw16665303149897424203:True:=⟨⟩
theorem tw17353340236956381776:True:=⟨⟩
theorem tw6337063284835626570:True:=⟨⟩
theorem tw6053110382532317137:True:=⟨⟩
theorem tw8889323122052824097:True:=⟨⟩
theorem tw8470173129662326739:True:=⟨⟩
theorem tw8833497993924947269:True:=⟨⟩
theorem tw1536453481770417892:True:=⟨⟩
theorem tw11740382838667753619:True:=⟨⟩
theorem tw8164504111086741154:True:=⟨⟩
theorem tw9504874569308201981:True:=⟨⟩
theorem tw9905115438878582492:True:=⟨⟩
theorem tw4902498444032432442:True:=⟨⟩
theorem tw14052901838454965283:True:=⟨⟩
theorem tw7387756578763879381:True:=⟨⟩
theorem tw17431504536775431672:True:=⟨⟩
theorem tw17037456364076141528:True:=⟨⟩
theorem tw12477147105281687909:True:=⟨⟩
theorem tw18025181999908912018:True:=⟨⟩
theorem tw12752108120940366314:True:=⟨⟩
theorem tw1750763242099127660:True:=⟨⟩
theorem tw9073619716632845020:True:=⟨⟩
theorem tw10449756505395578964:True:=⟨⟩
theorem tw3539758939563084967:True:=⟨⟩
theorem tw4675883699587902773:True:=⟨⟩
theorem tw13238532820469961639:True:=⟨⟩
theorem tw8104112032154977116:True:=⟨⟩
theorem tw10168265831584070076:True:=⟨⟩
theorem tw9026876999328093638:True:=⟨⟩
theorem tw15380054683613222940:True:=⟨⟩
theorem tw6175366130881219701:True:=⟨⟩
theorem tw1398732505545532007:True:=⟨⟩
theorem tw1677024503965572850:True:=⟨⟩
theorem tw7018041928055882080:True:=⟨⟩
theorem tw16453047885205847334:True:=⟨⟩
theorem tw42303805015357056:True:=⟨⟩
theorem tw17100818718186873772:True:=⟨⟩
theorem tw16281659049528310041:True:=⟨⟩
theorem tw1171294490583925094:True:=⟨⟩
theorem tw8644883278163406023:True:=⟨⟩
theorem tw5667039889863094709:True:=⟨⟩
theorem tw16000695935989214964:True:=⟨⟩
theorem tw11557821596961685590:True:=⟨⟩
theorem tw16395766565889615979:True:=⟨⟩
theorem tw16949378889395454550:True:=⟨⟩
theorem tw3742983641234915117:True:=⟨⟩
theorem tw3641009991636049722:True:=⟨⟩
theorem tw7990888505023546032:True:=⟨⟩
theorem tw5930193326802614216:True:=⟨⟩
theorem tw8632328660654020685:True:=⟨⟩
theorem tw9757172240290253107:True:=⟨⟩
theorem tw8246994599779844689:True:=⟨⟩
theorem tw6860214266658507753:True:=⟨⟩
theorem tw1110992058221901307:True:=⟨⟩
theorem tw4671080923527421712:True:=⟨⟩
theorem tw16163954116155508976:True:=⟨⟩
theorem tw4956465592181064945:True:=⟨⟩
theorem tw11280859675467586414:True:=⟨⟩
theorem tw9216370766241598282:True:=⟨⟩
theorem tw8709965274913594863:True:=⟨⟩
theorem tw10691745992513596254:True:=⟨⟩
theorem tw4085001893623553156:True:=⟨⟩
theorem tw5149012925800144653:True:=⟨⟩
theorem tw4659693597947358649:True:=⟨⟩
theorem tw11044727021519184361:True:=⟨⟩
theorem tw5459528255153188830:True:=⟨⟩
theorem tw7822802051660616820:True:=⟨⟩
theorem tw15679952057908732086:True:=⟨⟩
theorem tw11069388091171180844:True:=⟨⟩
theorem tw12520292746452945752:True:=⟨⟩
theorem tw18039641021395083286:True:=⟨⟩
theorem tw11870210320891742388:True:=⟨⟩
theorem tw3295796769989142101:True:=⟨⟩
theorem tw15778526660404905687:True:=⟨⟩
theorem tw5323622971855751913:True:=⟨⟩
theorem tw2327950477215488406:True:=⟨⟩
theorem tw9862615565346870319:True:=⟨⟩
theorem tw11218569876361020846:True:=⟨⟩
theorem tw3984648726733325684:True:=⟨⟩
theorem tw7780267678528962363:True:=⟨⟩
theorem tw5482198315706429071:True:=⟨⟩
theorem tw14319359220431222240:True:=⟨⟩
theorem tw17796707246934977530:True:=⟨⟩
theorem tw12155607394664455600:True:=⟨⟩
theorem tw5768088720674294744:True:=⟨⟩
theorem tw15151161646859193429:True:=⟨⟩
theorem tw11885148901713550626:True:=⟨⟩
theorem tw14166342489342216576:True:=⟨⟩
theorem tw7044102639593761364:True:=⟨⟩
theorem tw10916486631991813726:True:=⟨⟩
theorem tw3126224589861618757:True:=⟨⟩
theorem tw115400086200408862:True:=⟨⟩
theorem tw3250679392634225078:True:=⟨⟩
theorem tw3824097483492716229:True:=⟨⟩
theorem tw10149912573404095458:True:=⟨⟩
theorem tw11113769543830113305:True:=⟨⟩
theorem tw5503043935255427719:True:=⟨⟩
theorem tw7608636127955649391:True:=⟨⟩
theorem tw12119776961185316897:True:=⟨⟩
theorem tw11084533096871473057:True:=⟨⟩
theorem tw652700709857276343:True:=⟨⟩
theorem tw8120191046067965485:True:=⟨⟩
theorem tw10641877543953795230:True:=⟨⟩
theorem tw12274164095008329779:True:=⟨⟩
theorem tw3003910518327385666:True:=⟨⟩
theorem tw12661603582989247662:True:=⟨⟩
theorem tw2706828310534676229:True:=⟨⟩
theorem tw934650616375177827:True:=⟨⟩
theorem tw6721224502127458760:True:=⟨⟩
theorem tw1143615643961298321:True:=⟨⟩
theorem tw2626358005552564930:True:=⟨⟩
theorem tw7907386754556928019:True:=⟨⟩
theorem tw8901453261105812093:True:=⟨⟩
theorem tw4925330086391909771:True:=⟨⟩
theorem tw11949829223692264382:True:=⟨⟩
theorem tw7711950931524536656:True:=⟨⟩
theorem tw2435641709724287778:True:=⟨⟩
theorem tw7641351335013276844:True:=⟨⟩
theorem tw7566979876547299936:True:=⟨⟩
theorem tw16029612134442181768:True:=⟨⟩
theorem tw5905734070331563375:True:=⟨⟩
theorem tw9807528437896001143:True:=⟨⟩
theorem tw390173353243424247:True:=⟨⟩
theorem tw16125427080272868953:True:=⟨⟩
theorem tw17711856595335143774:True:=⟨⟩
theorem tw5558228731121262233:True:=⟨⟩
theorem tw16994103158425957364:True:=⟨⟩
theorem tw12532810447711966995:True:=⟨⟩
theorem tw12053289931372300490:True:=⟨⟩
theorem tw2723160197344872248:True:=⟨⟩
theorem tw14759561587009326635:True:=⟨⟩
theorem tw12402821089239742658:True:=⟨⟩
theorem tw6606350521501354333:True:=⟨⟩
theorem tw10011609137885491762:True:=⟨⟩
theorem tw10459004664824794743:True:=⟨⟩
theorem tw12614873573377481263:True:=⟨⟩
theorem tw2637499592712658856:True:=⟨⟩
theorem tw9389651993269518300:True:=⟨⟩
theorem tw12156631713899877182:True:=⟨⟩
theorem tw9036674710247541289:True:=⟨⟩
theorem tw2958840436603074081:True:=⟨⟩
theorem tw7429571821984532655:True:=⟨⟩
theorem tw16824319818543141919:True:=⟨⟩
theorem tw6008299081014028074:True:=⟨⟩
theorem tw5355993433071006634:True:=⟨⟩
theorem tw9214579305283816748:True:=⟨⟩
theorem tw2728256775289758901:True:=⟨⟩
theorem tw7565810413226846249:True:=⟨⟩
theorem tw15670227539398300256:True:=⟨⟩
theorem tw6062372430885498228:True:=⟨⟩
theorem tw15886967533436736365:True:=⟨⟩
theorem tw6500770431988626348:True:=⟨⟩
theorem tw7801414424837768887:True:=⟨⟩
theorem tw8380362466399443709:True:=⟨⟩
theorem tw5307630887458144856:True:=⟨⟩
theorem tw3794783704890233553:True:=⟨⟩
theorem tw807636573051214952:True:=⟨⟩
theorem tw4994341453122498784:True:=⟨⟩
theorem tw18359187508154967860:True:=⟨⟩
theorem tw5109592903755642161:True:=⟨⟩
theorem tw12342161696137629007:True:=⟨⟩
theorem tw8569389801113120003:True:=⟨⟩
theorem tw1393304352386927411:True:=⟨⟩
theorem tw1804242893805708408:True:=⟨⟩
theorem tw15068383630289877571:True:=⟨⟩
theorem tw9275165195858060467:True:=⟨⟩
theorem tw6889431983965559174:True:=⟨⟩
theorem tw17996987901872705048:True:=⟨⟩
theorem tw7725192956312494452:True:=⟨⟩
theorem tw2751501688269778527:True:=⟨⟩
theorem tw7845624703608725035:True:=⟨⟩
theorem tw12734232953586577626:True:=⟨⟩
theorem tw16040792962460542969:True:=⟨⟩
theorem tw10559281083452574101:True:=⟨⟩
theorem tw915682492107020416:True:=⟨⟩
theorem tw1096755833573217202:True:=⟨⟩
theorem tw9450068632422820115:True:=⟨⟩
theorem tw3688640231672503520:True:=⟨⟩
theorem tw5016355969386218228:True:=⟨⟩
theorem tw11879863240180879540:True:=⟨⟩
theorem tw14085485078012540162:True:=⟨⟩
theorem tw3424885543084430665:True:=⟨⟩
theorem tw12096740334990589702:True:=⟨⟩
theorem tw1256584561680786571:True:=⟨⟩
theorem tw17771161725310051178:True:=⟨⟩
theorem tw12552286539919537272:True:=⟨⟩
theorem tw5291857539776950316:True:=⟨⟩
theorem tw2661237987574047208:True:=⟨⟩
theorem tw14684371506155049368:True:=⟨⟩
theorem tw4899814733874407109:True:=⟨⟩
theorem tw14902518076206939757:True:=⟨⟩
theorem tw13145544178093338845:True:=⟨⟩
theorem tw8670941966312795712:True:=⟨⟩
theorem tw2771962536661070795:True:=⟨⟩
theorem tw6789014636477098433:True:=⟨⟩
theorem tw7666712493136790821:True:=⟨⟩
theorem tw2349692779206986792:True:=⟨⟩
theorem tw84601754362211153:True:=⟨⟩
theorem tw7717105604152224646:True:=⟨⟩
theorem tw804829843594794405:True:=⟨⟩
theorem tw13762651166539749355:True:=⟨⟩
theorem tw8013512980577219978:True:=⟨⟩
theorem tw6061858289889972244:True:=⟨⟩
theorem tw12680440244131696859:True:=⟨⟩
theorem tw14194592498532144632:True:=⟨⟩
theorem tw6656176870679698146:True:=⟨⟩
theorem tw16935096551643489152:True:=⟨⟩
theorem tw6282189825834360824:True:=⟨⟩
theorem tw4054468265575935337:True:=⟨⟩
theorem tw18152998070463545319:True:=⟨⟩
theorem tw4174185973121210758:True:=⟨⟩
theorem tw933560161174336918:True:=⟨⟩
theorem tw5506241213597672755:True:=⟨⟩
theorem tw14255699884767429486:True:=⟨⟩
theorem tw17438785935689108158:True:=⟨⟩
theorem tw9196271818699350184:True:=⟨⟩
theorem tw5510643064442476060:True:=⟨⟩
theorem tw11524280448918266487:True:=⟨⟩
theorem tw11053830557261109092:True:=⟨⟩
theorem tw14780209350056498478:True:=⟨⟩
theorem tw4899649247951649215:True:=⟨⟩
theorem tw10116949937229250040:True:=⟨⟩
theorem tw5664057849905038938:True:=⟨⟩
theorem tw12464686912610430836:True:=⟨⟩
theorem tw1190836557414763310:True:=⟨⟩
theorem tw2790142900842227636:True:=⟨⟩
theorem tw15276372224896708274:True:=⟨⟩
theorem tw1339864768759192831:True:=⟨⟩
theorem tw6284083168357147998:True:=⟨⟩
theorem tw14437529165569203782:True:=⟨⟩
theorem tw15812275276958328941:True:=⟨⟩
theorem tw3805450191572247150:True:=⟨⟩
theorem tw16110481977154460941:True:=⟨⟩
theorem tw11540084910047511651:True:=⟨⟩
theorem tw7039021558572070009:True:=⟨⟩
theorem tw3916423192682826199:True:=⟨⟩
theorem tw3027658682092299334:True:=⟨⟩
theorem tw13704189124075009120:True:=⟨⟩
end PySem.W.Fast
open PySem PySem.W PyProof.Rows
set_option maxRecDepth 100000 in
set_option maxHeartbeats 0 in
theorem PySem.Challenge.cw_castoff_k56_dues_by_hand_holds : PySem.Challenge.rw_castoff_k56_dues_by_hand.Holds := by
 w_on;o_law;k_head;(case hw=>w_witness2)
 k_fill
 refine L2.walk_ofKF (l:=PySem.Challenge.rw_castoff_k56_dues_by_hand) (n:=63) (k:=12) (x:="_law_script") (sp:=N1.sp_law) rfl (by decide) rfl ⟨rfl,by decide,by decide⟩ (fun w h Y=>PySem.W.kIn_of Y) ?F ?S
 case F=>
  intro w mg fa h KX G hmg
  refine' K56.all_mk KX G hmg ?a0 ?FF0 ?a1 ?FF1 ?a2 ?FF2 ?a3 ?FF3 ?a4 ?FF4 ?MI5 ?FF5 ?a6 ?l6 ?c6 ?k6 ?kf6 ?hc6 ?a7 ?l7 ?c7 ?k7 ?kf7 ?hc7 ?MM8 ?FF8 ?MM9 ?FF9 ?MM10 ?FF10 ?a11 ?FF11 ?a12 ?FF12 ?MI13 ?FF13 ?MM14 ?FF14 ?MM15 ?FF15 ?MM16 ?FF16 ?MM17 ?FF17 ?MM18 ?FF18 ?MM19 ?FF19 ?a20 ?FF20 ?a21 ?FF21 ?a22 ?FF22 ?a23 ?FF23 ?a24 ?FF24 ?a25 ?l25 ?c25 ?n25 ?k25 ?m25 ?kf25 ?fc25 ?sc25 ?rc25 ?MI26 ?FF26 ?MM27 ?FF27 ?MM28 ?FF28 ?MM29 ?FF29 ?MM30 ?FF30 ?MM31 ?FF31 ?MM32 ?FF32 ?MM33 ?FF33 ?MM34 ?FF34 ?a35 ?FF35 ?a36 ?FF36 ?a37 ?FF37 ?a38 ?FF38 ?a39 ?FF39 ?a40 ?FF40 ?a41 ?FF41 ?a42 ?FF42 ?a43 ?FF43 ?a44 ?FF44 ?a45 ?FF45 ?a46 ?FF46 ?a47 ?FF47 ?a48 ?FF48 ?a49 ?FF49 ?a50 ?FF50 ?a51 ?FF51 ?a52 ?FF52 ?a53 ?FF53 ?a54 ?FF54 ?a55 ?l55 ?c55 ?k55 ?Zy ?Zc ?Z4k ?Z1e ?Z54 ?Z0h ?Z1d ?Z55 ?Z0b ?Z2y ?Z05 ?Z56 ?Z57 ?Z64 ?Z2z ?Z0l ?Z0w ?Z0a ?Z04 ?Z0i ?Zz ?Z06 ?Z4l ?EE_Stock ?Zd ?Z4m ?EE_Shelf ?Zs ?Zu ?Zi ?Z5b ?EE_Rule ?Z5c ?EE_Dues ?Zk ?Zo ?Zj ?Zf ?Zq ?Z2f ?Z1y ?Z1z ?Z3a ?Z4h ?Z3b ?lA ?lNA ?sNA ?iNA ?Z2h ?Z2i ?Z2j ?Z2k ?Z2l ?Z3d ?Z3e ?Z3f ?Z3g ?Z3h ?Z2n ?Z2o ?Z2p ?Z2q ?Z2r ?Z1b ?Z3j ?Z3k ?Z3l ?Z3m ?Z3n ?Z3o ?Zv ?Zr ?Z1c ?Z3q ?Z3r ?Z3s ?Z3t ?Z3u ?Z3v ?Z02 ?Z00 ?Z3w ?Z2s ?Z2t ?Z3x ?Z2u ?Z2v ?Z4i ?Z3y ?Z3z ?Z08 ?Z0g ?Z09 ?Z4j ?Z5q ?Z2w ?Z2x
  case Z4l|Z4m|Z5b|Z5c|Z2f|Z1y|Z1z|Z3a|Z4h|Z3b|a0|a1|a2|a3|a4|a6|l6|c6|k6|kf6=>k_is
  case hc6=>rfl
  case a7|l7|c7|k7|kf7=>k_is
  case hc7=>rfl
  case a11|a12|a20|a21|a22|a23|a24|a25|l25|c25|n25|k25|m25|kf25|fc25|sc25|rc25|a35|a36|a37|a38|a39|a40|a41|a42|a43|a44|a45|a46|a47|a48|a49|a50|a51|a52|a53|a54|a55|l55|c55|k55|Zy|Zc|Z4k|Z1e|Z54|Z0h|Z1d|Z55|Z0b|Z2y|Z05|Z56|Z57|Z64|Z2z|Z0l|Z0w|Z0a|Z04|Z0i|Zz|Z06|Zd|Zs|Zu|Zi|Zk|Zo|Zj|Zf|Zq|lA|lNA=>k_is
  case sNA|iNA=>rfl
  case Z2h|Z2i=>k_is
  case Z2j|Z2k=>rfl
  case Z2l|Z3d|Z3e=>k_is
  case Z3f|Z3g=>rfl
  case Z3h|Z2n|Z2o=>k_is
  case Z2p|Z2q=>rfl
  case Z2r|Z1b|Z3j=>k_is
  case Z3k|Z3l=>rfl
  case Z3m|Z3n|Z3o|Zv|Zr|Z1c|Z3q=>k_is
  case Z3r|Z3s=>rfl
  case Z3t|Z3u|Z3v|Z02|Z00|Z3w|Z2s|Z2t|Z3x|Z2u|Z2v|Z4i|Z3y|Z3z|Z08|Z0g|Z09|Z4j|Z5q|Z2w|Z2x=>k_is
  case EE_Stock|EE_Shelf|EE_Rule|EE_Dues|MI5|MI13|MI26=>refine' ⟨?j1,?j2,?j3,?j4⟩;case j1|j2|j3|j4=>k_is
  case MM8|MM9|MM10|MM14|MM15|MM16|MM17|MM18|MM19|MM27|MM28|MM29|MM30|MM31|MM32|MM33|MM34=>refine' ⟨?j1,?j2,?j3⟩;case j1|j2|j3=>k_is
  case FF0|FF1|FF2|FF3|FF4|FF5|FF8|FF9|FF10|FF11|FF12|FF13|FF14|FF15|FF16|FF17|FF18|FF19|FF20|FF21|FF22|FF23|FF24|FF26|FF27|FF28|FF29|FF30|FF31|FF32|FF33|FF34|FF35|FF36|FF37|FF38|FF39|FF40|FF41|FF42|FF43|FF44|FF45|FF46|FF47|FF48|FF49|FF50|FF51|FF52|FF53|FF54=>refine' L2.fun_mk ?l ?c ?k;case l|c|k=>k_is
 case S=>exact fun K H a ns hl hO hS=>⟨a,ns,rfl,hS,hl,fun _=>rfl⟩
