import PyProof.Rows.All
import KE.KPairComp
import KE.KItem
import KE.KUnpack
import KE.KEqDict
import KE.KFromBytes
import KE.KIntText
import KE.KRevIter
import KE.KDictOf
import KE.KTryMore
import KE.KNestM
import KE.KLam
import PySem.Challenge.RW_castoff_k58_whole_the_prices_of_dues
set_option linter.all false
set_option Elab.async false
set_option maxRecDepth 100000
set_option maxHeartbeats 4000000
open PySem PySem.Spec PyProof.Rows
namespace L2
noncomputable abbrev Key:=Sum Int Str
noncomputable def keyIs:Key→Value→Bool
 | .inl k,v=>Value.isInt k v
 | .inr x,v=>Value.isStrOf x v
noncomputable def keyH(w:World):Key→Int
 | .inl k=>hashInt k
 | .inr x=>hashStr w x
theorem keyIs_shape:∀{k:Key} {v:Value},keyIs k v=true→(∃i t,k=Sum.inl i∧v=Value.int i t)∨(∃x t,k=Sum.inr x∧v=Value.str x t)
 | .inl i,v,h=>by
  obtain ⟨t,e⟩:=Value.isInt_shape (k:=i) (v:=v) h
  exact .inl ⟨i,t,rfl,e⟩
 | .inr x,v,h=>by
  obtain ⟨t,e⟩:=Value.isStrOf_shape (x:=x) (v:=v) h
  exact .inr ⟨x,t,rfl,e⟩
theorem keyIs_int(i:Int)(t:Tok):keyIs (.inl i) (.int i t)=true:=by simp [keyIs,Value.isInt]
theorem keyIs_str(x:Str)(t:Tok):keyIs (.inr x) (.str x t)=true:=by simp [keyIs,Value.isStrOf]
theorem key_ll(a b:Int):decide ((Sum.inl a:Key)=Sum.inl b)=(a==b):=by
 by_cases e:a=b
 · subst e;simp
 · have h:¬(Sum.inl a:Key)=Sum.inl b:=fun q=>e (Sum.inl.inj q)
   rw [decide_eq_false h]
   exact (beq_eq_false_iff_ne.mpr e).symm
theorem key_rr(a b:Str):decide ((Sum.inr a:Key)=Sum.inr b)=decide (a=b):=by
 by_cases e:a=b
 · subst e;simp
 · have h:¬(Sum.inr a:Key)=Sum.inr b:=fun q=>e (Sum.inr.inj q)
   rw [decide_eq_false h,decide_eq_false e]
theorem key_lr(a:Int)(b:Str):decide ((Sum.inl a:Key)=Sum.inr b)=false:=decide_eq_false (fun q=>nomatch q)
theorem key_rl(a:Str)(b:Int):decide ((Sum.inr a:Key)=Sum.inl b)=false:=decide_eq_false (fun q=>nomatch q)
noncomputable def mixKind(prog:Program)(w:World):PySem.KeyKind prog w Key where
 is:=keyIs
 hash:=keyH w
 inj:=fun v a b ha hb=>by
  rcases keyIs_shape ha with ⟨i,t,rfl,rfl⟩ | ⟨x,t,rfl,rfl⟩
  · rcases keyIs_shape hb with ⟨j,u,rfl,e⟩ | ⟨y,u,rfl,e⟩
    · injection e with e1 _;rw [e1]
    · exact nomatch e
  · rcases keyIs_shape hb with ⟨j,u,rfl,e⟩ | ⟨y,u,rfl,e⟩
    · exact nomatch e
    · injection e with e1 _;rw [e1]
 byValue:=fun k v h=>by
   rcases keyIs_shape h with ⟨i,t,rfl,rfl⟩ | ⟨x,t,rfl,rfl⟩ <;> rfl
 pyHash:=fun hv h=>by
  rcases keyIs_shape hv with ⟨i,t,rfl,rfl⟩ | ⟨x,t,rfl,rfl⟩
  · exact wpAny_pyHash_int h
  · exact wpAny_pyHash_str h
 eqBool:=fun hu hv h=>by
  rcases keyIs_shape hu with ⟨i,t,rfl,rfl⟩ | ⟨x,t,rfl,rfl⟩
  · rcases keyIs_shape hv with ⟨j,u,rfl,rfl⟩ | ⟨y,u,rfl,rfl⟩
    · rw [key_ll]at h;exact wpAny_eqBool_int h
    · rw [key_lr]at h;exact SeqAt.EqAt.int_str i t y u _ _ _ _ h
  · rcases keyIs_shape hv with ⟨j,u,rfl,rfl⟩ | ⟨y,u,rfl,rfl⟩
    · rw [key_rl]at h;exact SeqAt.EqAt.str_int x t j u _ _ _ _ h
    · rw [key_rr]at h;exact wpAny_eqBool_str h
 «strs»:=fun k x t v h=>by
  rcases keyIs_shape h with ⟨i,u,rfl,e⟩ | ⟨y,u,rfl,e⟩
  · exact nomatch e
  · injection e with e1 _
    subst e1
    cases v <;> rfl
theorem mixKind_int(prog:Program)(w:World)(i:Int)(t:Tok):(mixKind prog w).is (.inl i) (.int i t)=true:=keyIs_int i t
theorem mixKind_str(prog:Program)(w:World)(x:Str)(t:Tok):(mixKind prog w).is (.inr x) (.str x t)=true:=keyIs_str x t
end L2
namespace L2
inductive V where
 | non | bl (b:Bool) | int (i:Int) | str (x:Str) | byt (b:Array UInt8) | flt (b:UInt64) | ref (a:Addr) | ty (n:String)
 deriving DecidableEq
noncomputable def RelV:V→Value→Prop
 | .non,u=>u=Value.none
 | .bl b,u=>u=Value.bool b
 | .int i,u=>∃t,u=Value.int i t
 | .str x,u=>∃t,u=Value.str x t
 | .byt b,u=>∃t,u=Value.bytes b t
 | .flt b,u=>∃t,u=Value.float b t
 | .ref a,u=>u=Value.ref a
 | .ty n,u=>u=Value.type n
noncomputable abbrev Vals:List V→List Value→Prop:=Paired RelV
theorem Vals.length{xs:List V}{us:List Value}(r:Vals xs us):xs.length=us.length:=Paired.length r
theorem Vals.get:∀{xs:List V} {us:List Value} {i:Nat} {x:V},Vals xs us→xs[i]?=some x→∃u,us[i]?=some u∧RelV x u
 | _,_,_,_,.nil,e=>by simp at e
 | _,_,0,_,.cons r _,e=>by simp at e;subst e;exact ⟨_,rfl,r⟩
 | _,_,i+1,x,.cons _ t,e=>by
  obtain ⟨u,h1,h2⟩:=Vals.get (i:=i) (x:=x) t (by simpa using e)
  exact ⟨u,by simpa using h1,h2⟩
theorem Vals.set{x:V}{u:Value}(r:RelV x u):∀{xs:List V} {us:List Value} (i:Nat),Vals xs us→Vals (xs.set i x) (us.set i u)
 | _,_,_,.nil=> .nil
 | _,_,0,.cons _ t=> .cons r t
 | _,_,i+1,.cons q t=> .cons q (Vals.set r i t)
theorem Vals.append:∀{xs ys:List V} {us ws:List Value},Vals xs us→Vals ys ws→Vals (xs++ys) (us++ws)
 | _,_,_,_,.nil,s=>s
 | _,_,_,_,.cons r t,s=> .cons r (Vals.append t s)
theorem Vals.take:∀{xs:List V} {us:List Value} (n:Nat),Vals xs us→Vals (xs.take n) (us.take n)
 | _,_,0,_=> .nil
 | _,_,_+1,.nil=> .nil
 | _,_,n+1,.cons r t=> .cons r (Vals.take n t)
theorem Vals.drop:∀{xs:List V} {us:List Value} (n:Nat),Vals xs us→Vals (xs.drop n) (us.drop n)
 | _,_,0,r=>r
 | _,_,_+1,.nil=> .nil
 | _,_,n+1,.cons _ t=>Vals.drop n t
noncomputable def RelO:Option V→Option Value→Prop
 | some v,some u=>RelV v u
 | none,none=>True
 | _,_=>False
noncomputable def KV{κ:Type}:List (κ×V)→List (κ×Value)→Prop:=Paired fun (p:κ×V) (q:κ×Value)=>p.1=q.1∧RelV p.2 q.2
noncomputable def kV:Key→V
 | .inl i=> .int i
 | .inr x=> .str x
inductive HO where
 | lst (xs:List V)
 | tup (xs:List V)
 | dK (kvs:List (Key×V)) | dT (kvs:List (List Key×V))
 | set (S:Int→Bool) (n:Nat)
 | ins (C dx:Addr) (fs:List (Str×V))
 | own (x:Addr)
 | xd (fs:List (Str×V))
 | met (f x:Addr)
 | rng (lo hi:Int)
 | frz (o:Obj) (u:HO)
 | tbl (ps:Array Value)
 | ext (φ:Heap→Prop)
noncomputable abbrev Hp:=Addr→Option HO
noncomputable def upd(H:Hp)(a:Addr)(o:HO):Hp:=fun b=>if b=a then some o else H b
theorem upd_same{H:Hp}{a:Addr}{o:HO}:upd H a o a=some o:=by unfold upd;rw [if_pos rfl]
theorem upd_ne{H:Hp}{a b:Addr}{o:HO}(h:b≠a):upd H a o b=H b:=by unfold upd;rw [if_neg h]
theorem upd_upd{H:Hp}{a:Addr}{o u:HO}:upd (upd H a o) a u=upd H a u:=by
 funext b;unfold upd;split <;> rfl
theorem ne_of{H:Hp}{a b:Addr}{o u:HO}(h:H a=some o)(h':H b=some u)(d:o≠u):a≠b:=by
 intro e;subst e;rw [h]at h';exact d (Option.some.inj h')
theorem ne_of_none{H:Hp}{a b:Addr}{o:HO}(h:H a=some o)(h':H b=none):a≠b:=by
 intro e;subst e;rw [h]at h';cases h'
section
variable (P:Program) (w:World)
noncomputable def ObjOk(H:Hp)(h:Heap)(a:Addr):HO→Prop
 | .lst xs=>xs.length≤sizeLine∧∃(its:List Value) (n:Nat),Vals xs its∧h.get? a=some {cls:= .type "list",data:= .seq its.toArray n}
 | .tup xs=>xs.length≤sizeLine∧∃its:List Value,Vals xs its∧IsTup h a its.toArray
 | .dK kvs=>kvs.length≤sizeLine∧(a==sysModules)=false∧∃vs,KV kvs vs∧h.DictOf (mixKind P w) a vs
 | .dT kvs=>kvs.length≤sizeLine∧(a==sysModules)=false∧∃xs:List (List Key×Addr×Value),
  Paired (fun (p:List Key×V) (q:List Key×Addr×Value)=>p.1=q.1∧H q.2.1=some (.tup (p.1.map kV))∧RelV p.2 q.2.2) kvs xs∧
  ∃o es ep,h.get? a=some o∧o.ExactDict∧o.data= .dict es ep∧es.toList=xs.map (entryOfKey (tupleKind (mixKind P w)))∧(xs.map (·.1)).Nodup
 | .set S n=>h.SetOf (intKind P w) a S n
 | .ins C dx fs=>H dx=some (.own a)∧fs.length≤1000∧dx≠a∧h.get? a=some (PySem.W.instObj C dx)∧
  ∃mA,h.Ns1 dx mA∧(∀f,RelO (fs.lookup f) (mA f))∧PySem.Within mA (fs.map (·.1))
 | .own _=>∃o,h.get? a=some o
 | .xd fs=>∃mA,h.Ns1 a mA∧∀f,RelO (fs.lookup f) (mA f)
 | .rng lo hi=>∃t u v,h.get? a=some {cls:= .type "range",data:= .fields #[.int lo t,.int hi u,.int 1 v]}
 | .frz o u=>h.get? a=some o∧ObjOk H h a u
 | .tbl ps=>h.get? a=some {cls:= .none,data:= .fields ps}
 | .met f x=>h.get? a=some (PySem.W.methodObj (.ref f) (.ref x))
 | .ext φ=>φ h∧(∃o,h.get? a=some o)∧∀h1 h2:Heap,φ h1→(∀o,h1.get? a=some o→h2.get? a=some o)→φ h2
noncomputable def HOk(H:Hp)(h:Heap):Prop:=∀a o,H a=some o→ObjOk P w H h a o
end
section
variable {P:Program} {w:World} {H H':Hp} {h h':Heap} {a:Addr} {o:HO}
theorem ObjOk.lt(x:ObjOk P w H h a o):a < h.objs.size:=by
 cases o with
 | lst xs=>obtain ⟨_,_,_,_,e⟩:=x;exact Heap.lt_size e
 | tup xs=>obtain ⟨_,_,_,p⟩:=x;exact p.lt
 | dK kvs=>obtain ⟨_,_,_,_,o,_,_,e,_⟩:=x;exact Heap.lt_size e
 | dT kvs=>obtain ⟨_,_,_,_,o,_,_,e,_⟩:=x;exact Heap.lt_size e
 | set S n=>obtain ⟨o,_,_,_,e,_⟩:=x;exact Heap.lt_size e
 | ins C dx fs=>obtain ⟨_,_,_,e,_⟩:=x;exact Heap.lt_size e
 | own y=>obtain ⟨_,e⟩:=x;exact Heap.lt_size e
 | xd fs=>obtain ⟨_,⟨_,_,_,e,_⟩,_⟩:=x;exact Heap.lt_size e
 | rng lo hi=>obtain ⟨_,_,_,e⟩:=x;exact Heap.lt_size e
 | frz ob u=>obtain ⟨e,_⟩:=x;exact Heap.lt_size e
 | tbl ps=>exact Heap.lt_size (show h.get? a=some _ from x)
 | met f y=>exact Heap.lt_size (show h.get? a=some _ from x)
 | ext φ=>obtain ⟨_,⟨_,e⟩,_⟩:=x;exact Heap.lt_size e
theorem Paired.mapP{α β:Type}{F G:α→β→Prop}:∀{l₁:List α} {l₂:List β},Paired F l₁ l₂→(∀a b,F a b→G a b)→Paired G l₁ l₂
 | _,_,.nil,_=> .nil
 | _,_,.cons r t,f=> .cons (f _ _ r) (Paired.mapP t f)
theorem ObjOk.stay(x:ObjOk P w H h a o)(k:∀b u,(b=a∨H b=some (.own a))→h.get? b=some u→h'.get? b=some u)
 (ho:∀b,H b=some (.own a)→H' b=some (.own a)) (ht:∀b xs,H b=some (.tup xs)→H' b=some (.tup xs)):ObjOk P w H' h' a o:=by
 induction o with
 | lst xs=>obtain ⟨z,its,n,r,e⟩:=x;exact ⟨z,its,n,r,k _ _ (.inl rfl) e⟩
 | tup xs=>obtain ⟨z,its,r,ob,e,c⟩:=x;exact ⟨z,its,r,ob,k _ _ (.inl rfl) e,c⟩
 | dK kvs=>obtain ⟨z,y,vs,r,ob,es,ep,e,c⟩:=x;exact ⟨z,y,vs,r,ob,es,ep,k _ _ (.inl rfl) e,c⟩
 | dT kvs=>
  obtain ⟨z,y,xs,r,ob,es,ep,e,c⟩:=x
  exact ⟨z,y,xs,Paired.mapP r fun p q z=>⟨z.1,ht _ _ z.2.1,z.2.2⟩,ob,es,ep,k _ _ (.inl rfl) e,c⟩
 | set S n=>obtain ⟨ob,es,ep,t,e,c⟩:=x;exact ⟨ob,es,ep,t,k _ _ (.inl rfl) e,c⟩
 | ins C dx fs=>
  obtain ⟨d,z,ne,e,mA,⟨od,es,ep,e2,c⟩,r⟩:=x
  exact ⟨ho _ d,z,ne,k _ _ (.inl rfl) e,mA,⟨od,es,ep,k _ _ (.inr d) e2,c⟩,r⟩
 | own y=>obtain ⟨ob,e⟩:=x;exact ⟨ob,k _ _ (.inl rfl) e⟩
 | xd fs=>obtain ⟨mA,⟨od,es,ep,e,c⟩,r⟩:=x;exact ⟨mA,⟨od,es,ep,k _ _ (.inl rfl) e,c⟩,r⟩
 | rng lo hi=>obtain ⟨t,u,v,e⟩:=x;exact ⟨t,u,v,k _ _ (.inl rfl) e⟩
 | frz ob u ih=>obtain ⟨e,q⟩:=x;exact ⟨k _ _ (.inl rfl) e,ih q⟩
 | tbl ps=>
  have e:h.get? a=some {cls:= .none,data:= .fields ps}:=x
  show h'.get? a=some {cls:= .none,data:= .fields ps}
  exact k a _ (.inl rfl) e
 | met f y=>
  have e:h.get? a=some (PySem.W.methodObj (.ref f) (.ref y)):=x
  show h'.get? a=some (PySem.W.methodObj (.ref f) (.ref y))
  exact k a _ (.inl rfl) e
 | ext φ=>obtain ⟨p,⟨o,e⟩,st⟩:=x;exact ⟨st _ _ p fun o q=>k _ _ (.inl rfl) q,⟨o,k _ _ (.inl rfl) e⟩,st⟩
theorem HOk.lt(x:HOk P w H h)(e:H a=some o):a < h.objs.size:=(x a o e).lt
theorem HOk.fresh(x:HOk P w H h)(e:h.objs.size≤a):H a=none:=by
 cases q:H a with
 | none=>rfl
 | some u=>exact absurd (Nat.lt_of_lt_of_le (x.lt q) e) (Nat.lt_irrefl _)
theorem HOk.kept(x:HOk P w H h)(k:∀b u,h.get? b=some u→h'.get? b=some u):HOk P w H h':=fun a o e=>
 (x a o e).stay (fun b u _ q=>k b u q) (fun _ q=>q) fun _ _ q=>q
theorem HOk.laid(x:HOk P w H h)(k:∀b u,h.get? b=some u→h'.get? b=some u)(hp:h.objs.size≤a)(new:ObjOk P w (upd H a o) h' a o):HOk P w (upd H a o) h':=fun b u e=>by
 have hn:=x.fresh hp
 by_cases hb:b=a
 · subst hb;rw [upd_same]at e;cases e;exact new
 · rw [upd_ne hb]at e
   exact (x b u e).stay (fun c v _ q=>k c v q) (fun c q=>by rw [upd_ne (ne_of_none q hn)];exact q) fun c xs q=>by rw [upd_ne (ne_of_none q hn)];exact q
end
noncomputable def Rd(H:Hp)(a:Addr)(u:HO):Prop:=H a=some u∨∃o,H a=some (.frz o u)
theorem Rd.ok{P:Program}{w:World}{H:Hp}{h:Heap}{a:Addr}{u:HO}(r:Rd H a u)(x:HOk P w H h):ObjOk P w H h a u:=by
 rcases r with r | ⟨o,r⟩
 · exact x a u r
 · obtain ⟨_,q⟩:=x a _ r
   exact q
noncomputable def Mut:Option HO→Prop
 | some (.lst _)=>True
 | some (.dK _)=>True
 | some (.dT _)=>True
 | some (.set _ _)=>True
 | some (.ins _ _ _)=>True
 | some (.ext _)=>True
 | _=>False
section
variable {P:Program} {w:World} {H:Hp} {h h':Heap} {x e:Addr} {o':HO}
theorem HOk.write(ok:HOk P w H h)(mu:Mut (H x))(he:e=x∨H e=some (.own x))(k:∀b u,b≠e→h.get? b=some u→h'.get? b=some u)(heo:∃u,h'.get? e=some u)
 (new:ObjOk P w (upd H x o') h' x o'):HOk P w (upd H x o') h':=fun b u q=>by
 have nown:∀c y,H c=some (.own y)→c≠x:=fun c y r z=>by subst z;rw [r]at mu;exact mu
 have ntup:∀c xs,H c=some (.tup xs)→c≠x:=fun c xs r z=>by subst z;rw [r]at mu;exact mu
 by_cases hb:b=x
 · subst hb;rw [upd_same]at q;cases q;exact new
 · rw [upd_ne hb]at q
   by_cases hbe:b=e
   · have q':H b=some (.own x):=by
      rcases he with z | z
      · exact absurd (hbe.trans z) hb
      · rw [hbe];exact z
     rw [q]at q';cases q'
     obtain ⟨v,hv⟩:=heo
     exact ⟨v,by rw [hbe];exact hv⟩
   · refine (ok b u q).stay (fun c v hc r=>k c v ?_ r) (fun c r=>by rw [upd_ne (nown c b r)];exact r) fun c xs r=>by rw [upd_ne (ntup c xs r)];exact r
     rcases hc with rfl | hc
     · exact hbe
     · rintro rfl
       rcases he with z | z
       · exact nown c b hc z
       · rw [hc]at z;cases z;exact hb rfl
end
structure Un(fs ex:List Addr)(H H':Hp)(h h':Heap):Prop where
 keep:∀b o,h.get? b=some o→H b=none→b∉fs→b∉ex→h'.get? b=some o
 slot:∀b o,h.get? b=some o→H b=none→b∈fs→b∉ex→∃sl,h'.get? b=some {o with slots:=sl}
 free:∀b o,h.get? b=some o→H b=none→b∉ex→H' b=none
 there:∀b o,h.get? b=some o→b∉ex→∃o',h'.get? b=some o'
 tups:∀b xs,H b=some (.tup xs)→H' b=some (.tup xs)
 frzs:∀b o u,H b=some (.frz o u)→H' b=some (.frz o u)
 tbls:∀b ps,H b=some (.tbl ps)→∃more,H' b=some (.tbl (ps++more))
section
variable {fs fs' ex ex':List Addr} {H H1 H2:Hp} {h h1 h2 h':Heap} {a x e:Addr} {o:HO}
theorem Un.any(u:Un fs ex H H1 h h1){b:Addr}{ob:Obj}(q:h.get? b=some ob)(n:H b=none)(hx:b∉ex):∃sl,h1.get? b=some {ob with slots:=sl}:=by
 by_cases hb:b∈fs
 · exact u.slot b ob q n hb hx
 · exact ⟨ob.slots,u.keep b ob q n hb hx⟩
theorem Un.kept(k:∀b u,h.get? b=some u→h'.get? b=some u):Un fs ex H H h h':=
 ⟨fun b ob q _ _ _=>k b ob q,fun b ob q _ _ _=>⟨ob.slots,k b ob q⟩,fun _ _ _ n _=>n,fun b ob q _=>⟨ob,k b ob q⟩,fun _ _ q=>q,fun _ _ _ q=>q,fun _ ps q=>⟨#[],by rw [q];simp⟩⟩
theorem Un.refl:Un fs ex H H h h:=Un.kept fun _ _ q=>q
theorem Un.laid(k:∀b u,h.get? b=some u→h'.get? b=some u)(hp:h.objs.size≤a)(hn:H a=none):Un fs ex H (upd H a o) h h' where
 keep:=fun b u q _ _ _=>k b u q
 slot:=fun b u q _ _ _=>⟨u.slots,k b u q⟩
 free:=fun b u q n _=>by rw [upd_ne (Nat.ne_of_lt (Nat.lt_of_lt_of_le (Heap.lt_size q) hp))];exact n
 there:=fun b u q _=>⟨u,k b u q⟩
 tups:=fun b xs q=>by rw [upd_ne (ne_of_none q hn)];exact q
 frzs:=fun b u xs q=>by rw [upd_ne (ne_of_none q hn)];exact q
 tbls:=fun b ps q=>⟨#[],by rw [upd_ne (ne_of_none q hn),q];simp⟩
theorem Un.write(mu:Mut (H x))(he:e=x∨H e=some (.own x))(k:∀b u,b≠e→h.get? b=some u→h'.get? b=some u)(heo:∃u,h'.get? e=some u):Un fs ex H (upd H x o) h h':=by
 have hx:∀b,H b=none→b≠x:=fun b n z=>by subst z;rw [n]at mu;exact mu
 have hb:∀b,H b=none→b≠e:=fun b n z=>by
  subst z
  rcases he with r | r
  · exact hx b n r
  · rw [n]at r;cases r
 have hm:∀b u,H b=some u→¬Mut (some u)→b≠x:=fun b u q nm z=>by subst z;rw [q]at mu;exact nm mu
 refine ⟨fun b u q n _ _=>k b u (hb b n) q,fun b u q n _ _=>⟨u.slots,k b u (hb b n) q⟩,fun b u q n _=>by rw [upd_ne (hx b n)];exact n,fun b u q _=>?_,
  fun b xs q=>by rw [upd_ne (hm b _ q fun z=>z)];exact q,fun b u xs q=>by rw [upd_ne (hm b _ q fun z=>z)];exact q,fun b ps q=>⟨#[],by rw [upd_ne (hm b _ q fun z=>z),q];simp⟩⟩
 by_cases hbe:b=e
 · subst hbe;exact heo
 · exact ⟨u,k b u hbe q⟩
end
noncomputable def trk(h:Heap)(H:Hp):List Addr:=(List.range h.objs.size).filter fun a=>(H a).isSome
noncomputable def hidT(h:Heap)(H:Hp):Heap:=PySem.W.hideAll h (trk h H)
theorem hidT_size(h:Heap)(H:Hp):(hidT h H).objs.size=h.objs.size:=PySem.W.hideAll_size _ _
theorem hidT_get{h:Heap}{H:Hp}{b:Addr}{o:Obj}(e:h.get? b=some o)(n:H b=none):(hidT h H).get? b=some o:=
 PySem.W.hideAll_get _ e fun hm=>by
  have q:(H b).isSome=true:=(List.mem_filter.mp hm).2
  rw [n]at q;simp at q
theorem of_hidT{h:Heap}{H:Hp}{b:Addr}{o:Obj}(e:(hidT h H).get? b=some o):h.get? b=some o∧H b=none:=by
 have e':h.get? b=some o:=PySem.W.of_hideAll (trk h H) e
 refine ⟨e',?_⟩
 cases q:H b with
 | none=>rfl
 | some x=>
  have hm:b∈trk h H:=List.mem_filter.mpr ⟨List.mem_range.mpr (Heap.lt_size e'),by simp [q]⟩
  have z:(hidT h H).get? b=none:=PySem.W.hideAll_none (trk h H) hm
  rw [z]at e;cases e
noncomputable def allNews(g h:Heap)(L:Addr):List (Addr×Obj):=(List.range h.objs.size).filterMap fun a=>if a=L∨(g.get? a).isSome=true then none else (h.get? a).map fun o=>(a,o)
noncomputable def rest(g h:Heap)(L d:Addr):List (Addr×Obj):=(allNews g h L).filter fun p=>decide (p.1≠d)
end L2
namespace L2
structure Mod(K:PySem.W.Frag)(mg:Str→Option Value)(base:Heap):Prop where
 kin:K.In base
 glob:base.Ns mainGlobals mg
 blt:∃mb,base.Ns builtinsNs mb∧∀x:Str,x≠"__name__"→mb x=bootBuiltins x
 nolimit:base.NoLimit
structure Cx where
 prog:Program
 w:World
 K:PySem.W.Frag
 mg:Str→Option Value
 base:Heap
 A:Around
 N:List Str
 s₀:Shared
 H₀:Hp
 env:Env
 outer:List Env
 stack:List Env
 ex:List Addr
 fn:Str→Bool
 calm:Bool
 pn:List (Addr×Obj)
 xe:Value→Shared→Prop
noncomputable def frs(l:List Env):List Addr:=l.filterMap (·.frame)
noncomputable abbrev Cx.fs(X:Cx):List Addr:=frs X.outer
noncomputable def Vis(sc:Scope)(x:Str):Prop:=sc.names.lookup x=some .local∨sc.names.lookup x=some .cell∨sc.names.lookup x=some .free
noncomputable def Loc(sc:Scope)(x:Str):Prop:=sc.names.lookup x=some .local∨sc.names.lookup x=some .cell
noncomputable def Look(env:Env)(h:Heap)(m:Str→Option Value)(x:Str)(u:Value):Prop:=
 (env.kindOf x=some .local∧m x=some u)∨((env.kindOf x=some .cell∨env.kindOf x=some .free)∧∃c,env.cells.lookup x=some c∧h.IsCell c (some u))
structure Cx.Ok(X:Cx):Prop where
 mod:Mod X.K X.mg X.base
 kind:X.env.scope.kind= .function
 glob:X.env.globals=mainGlobals
 blt:X.env.builtins=builtinsNs
 above:X.s₀.heap.objs.size≤X.env.locals
 inj:∀x y c,X.env.cells.lookup x=some c→X.env.cells.lookup y=some c→x=y
 has:∀x,(X.env.kindOf x=some .cell∨X.env.kindOf x=some .free)→∃c,X.env.cells.lookup x=some c
 cab:∀x c,X.fn x=true→X.env.cells.lookup x=some c→X.s₀.heap.objs.size≤c
 hd:X.calm=true→X.A.handled=none
 frames:X.A.frames=some X.stack
 stk:X.stack=X.outer∨(X.stack=X.env::X.outer∧X.env.frame=some X.env.locals)
 exf:∀b∈X.ex,b≠X.env.locals∧∀x c,X.env.cells.lookup x=some c→c≠b
 bs:∀b o,X.base.get? b=some o→X.s₀.heap.get? b=some o∧X.H₀ b=none
 bsz:X.base.objs.size≤X.s₀.heap.objs.size
 noex:∀b o,X.base.get? b=some o→b∉X.ex
 exfs:∀b∈X.ex,b∉X.fs
 funs:X.s₀.heap.FunFrames X.base X.outer
 frf:∀b∈X.fs,X.H₀ b=none
structure Inv(X:Cx)(pins:List (Addr×Obj))(σ:List (Option V))(H:Hp)(s:Shared):Prop where
 ok:X.Ok
 os:s.os=X.s₀.os
 bare:AllBare s.gens
 base:Un X.fs X.ex X.H₀ H X.s₀.heap s.heap
 loc:∃m,s.heap.Ns X.env.locals m∧∀(i:Nat) (x:Str) (v:V),X.N[i]?=some x→σ[i]?=some (some v)→Vis X.env.scope x→∃u,RelV v u∧Look X.env s.heap m x u
 cell:∀x c,X.env.cells.lookup x=some c→∃v,s.heap.IsCell c v
 free:H X.env.locals=none
 freeC:∀x c,X.env.cells.lookup x=some c→H c=none
 pin:∀p∈X.pn++pins,s.heap.get? p.1=some p.2∧H p.1=none∧p.1≠X.env.locals∧p.1∉X.fs∧∀v,p.2.data≠ .cell v
 hok:HOk X.prog X.w H s.heap
 len:σ.length=X.N.length
section
variable {X:Cx} {pins:List (Addr×Obj)} {σ:List (Option V)} {H H':Hp} {s:Shared} {h':Heap}
theorem Cx.Ok.nofr(ok:X.Ok){b:Addr}{o:Obj}(e:X.base.get? b=some o):b∉X.fs:=fun hb=>by
 have:=(ok.funs.mem hb).1
 rw [e]at this;cases this
theorem Inv.bs(I:Inv X pins σ H s):∀b o,X.base.get? b=some o→s.heap.get? b=some o∧H b=none:=fun b o e=>
 ⟨I.base.keep b o (I.ok.bs b o e).1 (I.ok.bs b o e).2 (I.ok.nofr e) (I.ok.noex b o e),I.base.free b o (I.ok.bs b o e).1 (I.ok.bs b o e).2 (I.ok.noex b o e)⟩
theorem Inv.bk(I:Inv X pins σ H s):∀b o,X.base.get? b=some o→s.heap.get? b=some o:=fun b o e=>(I.bs b o e).1
theorem Inv.mod(I:Inv X pins σ H s):Mod X.K X.mg X.base:=I.ok.mod
theorem Inv.kIn(I:Inv X pins σ H s):X.K.In s.heap:=I.ok.mod.kin.keeps I.bk
theorem Inv.lt(I:Inv X pins σ H s):X.env.locals < s.heap.objs.size:=let ⟨_,hn,_⟩:=I.loc;hn.lt
theorem Inv.sz(I:Inv X pins σ H s):X.s₀.heap.objs.size≤s.heap.objs.size:=Nat.le_trans I.ok.above (Nat.le_of_lt I.lt)
theorem Inv.nofs(I:Inv X pins σ H s){a:Addr}(h:s.heap.objs.size≤a):a∉X.fs:=fun hb=>by
 obtain ⟨_,o,ho,_⟩:=I.ok.funs.mem hb
 exact absurd (Nat.lt_of_lt_of_le (Heap.lt_size ho) (Nat.le_trans I.sz h)) (Nat.lt_irrefl _)
theorem Inv.cne(I:Inv X pins σ H s):∀x c,X.env.cells.lookup x=some c→c≠X.env.locals:=fun x c e z=>by
 obtain ⟨v,o,ho,hd⟩:=I.cell x c e
 obtain ⟨m,⟨o',es,ep,ho',hd',_⟩,_⟩:=I.loc
 rw [z,ho']at ho;cases ho;rw [hd']at hd;cases hd
theorem Inv.funs(I:Inv X pins σ H s):s.heap.FunFrames X.base X.outer:=by
 have all:∀(l:List Env),(∀b∈frs l,b∈X.fs)→X.s₀.heap.FunFrames X.base l→s.heap.FunFrames X.base l:=by
  intro l
  induction l with
  | nil=>intro _ _;trivial
  | cons env r ih=>
   intro hs hl
   obtain ⟨hk,⟨L,o,hf,hn,ho,hd⟩,hr⟩:=hl
   have hL:L∈X.fs:=hs L (by unfold frs;rw [List.filterMap_cons,hf];exact List.mem_cons_self)
   obtain ⟨sl,e⟩:=I.base.slot L o ho (I.ok.frf L hL) hL fun z=>I.ok.exfs L z hL
   exact ⟨hk,⟨L,_,hf,hn,e,hd⟩,ih (fun b hb=>hs b (by unfold frs;rw [List.filterMap_cons,hf];exact List.mem_cons_of_mem _ hb)) hr⟩
 exact all X.outer (fun _ hb=>hb) I.ok.funs
theorem Inv.stack(I:Inv X pins σ H s):s.heap.FunFrames X.base X.stack:=by
 rcases I.ok.stk with e | ⟨e,hf⟩
 · rw [e];exact I.funs
 · rw [e]
   obtain ⟨m,hn,_⟩:=I.loc
   refine .cons (by rw [I.ok.kind];decide) hf hn ?_ I.funs
   exact Heap.get?_none_of_le (Nat.le_trans I.ok.bsz I.ok.above)
theorem Inv.stkSub(I:Inv X pins σ H s):∀b∈frs X.stack,b∈X.env.locals::X.fs:=fun b hb=>by
 rcases I.ok.stk with e | ⟨e,hf⟩
 · rw [e]at hb;exact List.mem_cons_of_mem _ hb
 · rw [e]at hb
   unfold frs at hb
   rw [List.filterMap_cons,hf]at hb
   exact hb
theorem Inv.stkFree(I:Inv X pins σ H s):∀b∈frs X.stack,H b=none:=fun b hb=>by
 rcases List.mem_cons.mp (I.stkSub b hb) with e | hb
 · rw [e];exact I.free
 · obtain ⟨_,o,ho,_⟩:=I.ok.funs.mem hb
   exact I.base.free b o ho (I.ok.frf b hb) fun z=>I.ok.exfs b z hb
theorem Inv.step{g':Array GenState}{t':Nat}{d':Drawn}{ch:List Addr}(I:Inv X pins σ H s)
 (hch:∀b∈ch,(b∈X.ex∨X.s₀.heap.objs.size≤b)∧b≠X.env.locals∧(∀x c,X.env.cells.lookup x=some c→c≠b)∧∀p∈X.pn++pins,p.1≠b)
 (keep:∀b o,b≠X.env.locals→b∉X.fs→b∉ch→s.heap.get? b=some o→H b=none→h'.get? b=some o)
 (slot:∀b o,b≠X.env.locals→b∈X.fs→b∉ch→s.heap.get? b=some o→H b=none→∃sl,h'.get? b=some {o with slots:=sl}) (free:∀b o,b∉ch→s.heap.get? b=some o→H b=none→H' b=none)
 (there:∀b o,b∉ch→s.heap.get? b=some o→∃o',h'.get? b=some o')
 (tups:∀b xs,H b=some (.tup xs)→H' b=some (.tup xs)) (frzs:∀b o u,H b=some (.frz o u)→H' b=some (.frz o u)) (tbls:∀b ps,H b=some (.tbl ps)→∃more,H' b=some (.tbl (ps++more)))
 (ns:∀m,s.heap.Ns X.env.locals m→h'.Ns X.env.locals m) (hok:HOk X.prog X.w H' h') (hg:AllBare g'):
 Inv X pins σ H' {s with heap:=h',gens:=g',drawn:=d',toks:=t'}:=by
 have neL:∀b o,X.s₀.heap.get? b=some o→b≠X.env.locals:=fun b o e=>Nat.ne_of_lt (Nat.lt_of_lt_of_le (Heap.lt_size e) I.ok.above)
 have neC:∀b o,X.s₀.heap.get? b=some o→b∉X.ex→b∉ch:=fun b o e hx hb=>by
  rcases (hch b hb).1 with z | z
  · exact hx z
  · exact absurd (Nat.lt_of_lt_of_le (Heap.lt_size e) z) (Nat.lt_irrefl _)
 have cellK:∀x c,X.env.cells.lookup x=some c→∀v,s.heap.IsCell c v→h'.IsCell c v:=fun x c e v ⟨o,ho,hd⟩=>by
  have nch:c∉ch:=fun z=>(hch c z).2.2.1 x c e rfl
  by_cases hc:c∈X.fs
  · obtain ⟨sl,q⟩:=slot c o (I.cne x c e) hc nch ho (I.freeC x c e)
    exact ⟨_,q,hd⟩
  · exact ⟨o,keep c o (I.cne x c e) hc nch ho (I.freeC x c e),hd⟩
 refine ⟨I.ok,I.os,hg,⟨fun b o e n hb hx=>?_,fun b o e n hb hx=>?_,fun b o e n hx=>?_,fun b o e hx=>?_,fun b xs e=>tups b xs (I.base.tups b xs e),fun b o xs e=>frzs b o xs (I.base.frzs b o xs e),fun b ps e=>?_⟩,?_,fun x c e=>?_,?_,fun x c e=>?_,fun p hp=>?_,hok,I.len⟩
 · exact keep b o (neL b o e) hb (neC b o e hx) (I.base.keep b o e n hb hx) (I.base.free b o e n hx)
 · obtain ⟨sl,e1⟩:=I.base.slot b o e n hb hx
   obtain ⟨sl',e2⟩:=slot b _ (neL b o e) hb (neC b o e hx) e1 (I.base.free b o e n hx)
   exact ⟨sl',e2⟩
 · obtain ⟨o',e1⟩:=I.base.there b o e hx
   exact free b o' (neC b o e hx) e1 (I.base.free b o e n hx)
 · obtain ⟨o',e1⟩:=I.base.there b o e hx
   exact there b o' (neC b o e hx) e1
 · obtain ⟨m1,e1⟩:=I.base.tbls b ps e
   obtain ⟨m2,e2⟩:=tbls b _ e1
   exact ⟨m1++m2,by rw [e2,Array.append_assoc]⟩
 · obtain ⟨m,hn,hl⟩:=I.loc
   refine ⟨m,ns m hn,fun i x v e1 e2 e3=>?_⟩
   obtain ⟨u,r,l⟩:=hl i x v e1 e2 e3
   refine ⟨u,r,?_⟩
   rcases l with l | ⟨k,c,e,z⟩
   · exact .inl l
   · exact .inr ⟨k,c,e,cellK x c e _ z⟩
 · obtain ⟨v,z⟩:=I.cell x c e
   exact ⟨v,cellK x c e v z⟩
 · obtain ⟨m,⟨o,_,_,ho,_⟩,_⟩:=I.loc
   exact free _ o (fun z=>(hch _ z).2.1 rfl) ho I.free
 · obtain ⟨v,o,ho,hd⟩:=I.cell x c e
   exact free c o (fun z=>(hch c z).2.2.1 x c e rfl) ho (I.freeC x c e)
 · obtain ⟨e,n,ne,nf,d⟩:=I.pin p hp
   have nch:p.1∉ch:=fun z=>(hch p.1 z).2.2.2 p hp rfl
   exact ⟨keep p.1 p.2 ne nf nch e n,free p.1 p.2 nch e n,ne,nf,d⟩
theorem Inv.un{t':Nat}(I:Inv X pins σ H s)(u:Un X.fs [] H H' s.heap h')(hok:HOk X.prog X.w H' h'):Inv X pins σ H' {s with heap:=h',toks:=t'}:=by
 obtain ⟨m,⟨o,es,ep,ho,r⟩,_⟩:=id I.loc
 obtain ⟨sl,hL⟩:=u.any ho I.free (by simp)
 exact I.step (g':=s.gens) (d':=s.drawn) (ch:=[]) (fun _ z=>nomatch z) (fun b o _ hb _ e n=>u.keep b o e n hb (by simp)) (fun b o _ hb _ e n=>u.slot b o e n hb (by simp)) (fun b o _ e n=>u.free b o e n (by simp)) (fun b o _ e=>u.there b o e (by simp)) u.tups u.frzs u.tbls (fun m' hm=>by
  obtain ⟨o',es',ep',ho',r'⟩:=hm
  rw [ho]at ho';cases ho'
  exact ⟨_,es',ep',hL,r'⟩) hok I.bare
theorem Inv.call{g':Array GenState}{t':Nat}{d':Drawn}{ch:List Addr}(I:Inv X pins σ H s)(u:Un (frs X.stack) ch H H' s.heap h')(hok:HOk X.prog X.w H' h')(hg:AllBare g')
 (hch:∀b∈ch,(b∈X.ex∨X.s₀.heap.objs.size≤b)∧b≠X.env.locals∧(∀x c,X.env.cells.lookup x=some c→c≠b)∧∀p∈X.pn++pins,p.1≠b):
 Inv X pins σ H' {s with heap:=h',gens:=g',drawn:=d',toks:=t'}:=by
 obtain ⟨m,⟨o,es,ep,ho,r⟩,_⟩:=id I.loc
 obtain ⟨sl,hL⟩:=u.any ho I.free fun z=>(hch _ z).2.1 rfl
 exact I.step (ch:=ch) hch (fun b o hL hb hc e n=>u.keep b o e n (fun z=>(List.mem_cons.mp (I.stkSub b z)).elim hL hb) hc) (fun b o _ _ hc e n=>u.any e n hc) (fun b o hc e n=>u.free b o e n hc) (fun b o hc e=>u.there b o e hc) u.tups u.frzs u.tbls (fun m' hm=>by
  obtain ⟨o',es',ep',ho',r'⟩:=hm
  rw [ho]at ho';cases ho'
  exact ⟨_,es',ep',hL,r'⟩) hok hg
theorem Inv.turned{t':Nat}{it:Addr}(I:Inv X pins σ H s)(k:∀b o,b≠it→s.heap.get? b=some o→h'.get? b=some o)(hn:H it=none)(hL:it≠X.env.locals)
 (h1:it∈X.ex∨X.s₀.heap.objs.size≤it) (h2:∀x c,X.env.cells.lookup x=some c→c≠it) (h3:∀p∈X.pn++pins,p.1≠it):Inv X pins σ H {s with heap:=h',toks:=t'}:=by
 have nit:∀b u,H b=some u→b≠it:=fun b u e z=>by rw [z,hn]at e;cases e
 refine I.step (g':=s.gens) (d':=s.drawn) (ch:=[it]) (fun b hb=>?_) (fun b o _ _ hc e _=>k b o (fun z=>hc (by simp [z])) e) (fun b o _ _ hc e _=>⟨o.slots,k b o (fun z=>hc (by simp [z])) e⟩) (fun _ _ _ _ n=>n)
  (fun b o hc e=>⟨o,k b o (fun z=>hc (by simp [z])) e⟩) (fun _ _ e=>e) (fun _ _ _ e=>e) (fun b ps e=>⟨#[],by rw [e];simp⟩) (fun m hm=>?_) (fun b u e=>?_) I.bare
 · have e:b=it:=by simpa using hb
   subst e
   exact ⟨h1,hL,h2,h3⟩
 · obtain ⟨o,es,ep,ho,r⟩:=hm
   exact ⟨o,es,ep,k _ o (Ne.symm hL) ho,r⟩
 · refine (I.hok b u e).stay (fun c v hc q=>k c v ?_ q) (fun _ q=>q) fun _ _ q=>q
   rcases hc with z | z
   · rw [z];exact nit b u e
   · exact nit c _ z
theorem Inv.tok(I:Inv X pins σ H s)(t:Nat):Inv X pins σ H {s with toks:=t}:=I.un (h':=s.heap) (t':=t) Un.refl I.hok
theorem Inv.kept{t':Nat}(I:Inv X pins σ H s)(k:∀b u,s.heap.get? b=some u→h'.get? b=some u):Inv X pins σ H {s with heap:=h',toks:=t'}:=I.un (Un.kept k) (I.hok.kept k)
theorem Inv.laid{a:Addr}{o:HO}{t':Nat}(I:Inv X pins σ H s)(k:∀b u,s.heap.get? b=some u→h'.get? b=some u)(hp:s.heap.objs.size≤a)(new:ObjOk X.prog X.w (upd H a o) h' a o):
 Inv X pins σ (upd H a o) {s with heap:=h',toks:=t'}:=I.un (Un.laid k hp (I.hok.fresh hp)) (I.hok.laid k hp new)
theorem Inv.write{x e:Addr}{o:HO}{t':Nat}(I:Inv X pins σ H s)(mu:Mut (H x))(he:e=x∨H e=some (.own x))(k:∀b u,b≠e→s.heap.get? b=some u→h'.get? b=some u)(heo:∃u,h'.get? e=some u)
 (new:ObjOk X.prog X.w (upd H x o) h' x o):Inv X pins σ (upd H x o) {s with heap:=h',toks:=t'}:=I.un (Un.write mu he k heo) (I.hok.write mu he k heo new)
theorem Inv.weak{σ':List (Option V)}(I:Inv X pins σ H s)(hl:σ'.length=σ.length)(w:∀(i:Nat) v,σ'[i]?=some (some v)→σ[i]?=some (some v)):Inv X pins σ' H s:=
 ⟨I.ok,I.os,I.bare,I.base,let ⟨m,hn,hl'⟩:=I.loc;⟨m,hn,fun i x v e1 e2 e3=>hl' i x v e1 (w i v e2) e3⟩,I.cell,I.free,I.freeC,I.pin,I.hok,hl.trans I.len⟩
theorem Inv.pins_of{pins':List (Addr×Obj)}(I:Inv X pins σ H s)(h:∀p∈pins',s.heap.get? p.1=some p.2∧H p.1=none∧p.1≠X.env.locals∧p.1∉X.fs∧∀v,p.2.data≠ .cell v):Inv X pins' σ H s:=
 ⟨I.ok,I.os,I.bare,I.base,I.loc,I.cell,I.free,I.freeC,fun p hp=>(List.mem_append.mp hp).elim (fun z=>I.pin p (List.mem_append_left _ z)) (h p),I.hok,I.len⟩
theorem nodup_ix{N:List Str}(hN:N.Nodup){i j:Nat}{x:Str}(a:N[i]?=some x)(b:N[j]?=some x):i=j:=by
 obtain ⟨h1,e1⟩:=List.getElem?_eq_some_iff.mp a
 obtain ⟨h2,e2⟩:=List.getElem?_eq_some_iff.mp b
 exact (List.getElem_inj hN).mp (e1.trans e2.symm)
theorem store_ok2{M:Model}{A:Around}{E:Value→Shared→Prop}{i:Nat}{x:Str}{v:V}{u:Value}{Q:Unit→Shared→Prop}(I:Inv X pins σ H s)(hN:X.N.Nodup)(hi:X.N[i]?=some x)(hx:Loc X.env.scope x)(r:RelV v u)
 (h:∀s',Inv X pins (σ.set i (some v)) H s'→(∃a,Heap.SameBut a s.heap s'.heap∧(a=X.env.locals∨X.env.cells.lookup x=some a))→Q () s') (hf:X.fn x=true∨X.env.scope.names.lookup x=some .local:=by first | exact .inl rfl | exact .inr rfl | assumption):wpAny M A (storeName X.env x u) Q E s:=by
 obtain ⟨m,hn,hl⟩:=id I.loc
 have hcls:(X.env.scope.kind== .class || (X.env.scope.kind== .module && X.env.locals !=X.env.globals))=false:=by rw [I.ok.kind];rfl
 have hiσ:i < σ.length:=by rw [I.len];exact (List.getElem?_eq_some_iff.mp hi).1
 have cne:=I.cne
 have tracked:∀{a:Addr} {h':Heap},(∃o,s.heap.get? a=some o∧H a=none)→Heap.SameBut a s.heap h'→HOk X.prog X.w H h':=fun {a h'} ha hs b ob e=>by
  obtain ⟨_,_,hfree⟩:=ha
  refine (I.hok b ob e).stay (fun c w' hc q=>(hs.2 c ?_).trans q) (fun _ q=>q) fun _ _ q=>q
  rintro rfl
  rcases hc with rfl | hc
  · rw [hfree]at e;cases e
  · rw [hfree]at hc;cases hc
 rcases hx with hk | hk
 · refine wpAny_storeName_local hk hn (fun h' hn' hs=>?_) hcls
   obtain ⟨oL,_,_,hoL,_⟩:=id hn
   refine h _ ⟨I.ok,I.os,I.bare,⟨fun b o e n hb hx=>?_,fun b o e n hb hx=>?_,I.base.free,fun b o e hx=>?_,I.base.tups,I.base.frzs,I.base.tbls⟩,⟨_,hn',fun j y v' e1 e2 e3=>?_⟩,fun y c e=>?_,I.free,I.freeC,fun p hp=>?_,tracked ⟨oL,hoL,I.free⟩ hs,by simpa using I.len⟩ ⟨_,hs,.inl rfl⟩
   · exact (hs.2 b (Nat.ne_of_lt (Nat.lt_of_lt_of_le (Heap.lt_size e) I.ok.above))).trans (I.base.keep b o e n hb hx)
   · obtain ⟨sl,e1⟩:=I.base.slot b o e n hb hx
     exact ⟨sl,(hs.2 b (Nat.ne_of_lt (Nat.lt_of_lt_of_le (Heap.lt_size e) I.ok.above))).trans e1⟩
   · obtain ⟨o',e1⟩:=I.base.there b o e hx
     exact ⟨o',(hs.2 b (Nat.ne_of_lt (Nat.lt_of_lt_of_le (Heap.lt_size e) I.ok.above))).trans e1⟩
   · by_cases hj:j=i
     · subst hj
       rw [hi]at e1;cases e1
       rw [List.getElem?_set_self hiσ]at e2
       cases e2
       exact ⟨u,r,.inl ⟨hk,by simp⟩⟩
     · rw [List.getElem?_set_ne (Ne.symm hj)]at e2
       obtain ⟨u',r',q⟩:=hl j y v' e1 e2 e3
       refine ⟨u',r',?_⟩
       rcases q with ⟨k,e⟩ | ⟨k,c,e,z⟩
       · refine .inl ⟨k,?_⟩
         have:y≠x:=fun e=>hj (nodup_ix hN e1 (e▸hi))
         simp [this,e]
       · exact .inr ⟨k,c,e,z.sameBut hs (cne y c e)⟩
   · obtain ⟨w',z⟩:=I.cell y c e
     exact ⟨w',z.sameBut hs (cne y c e)⟩
   · obtain ⟨e,n,ne,nf,d⟩:=I.pin p hp
     exact ⟨(hs.2 p.1 ne).trans e,n,ne,nf,d⟩
 · have hfn:X.fn x=true:=by
    rcases hf with z | z
    · exact z
    · rw [z]at hk;cases hk
   obtain ⟨c,hc⟩:=I.ok.has x (.inl hk)
   obtain ⟨w',z⟩:=I.cell x c hc
   refine wpAny_storeName_cell I.ok.kind hk hc z (fun h' hc' hs=>?_)
   obtain ⟨oc,hoc,hocd⟩:=id z
   refine h {s with heap:=h'} ⟨I.ok,I.os,I.bare,⟨fun b o e n hb hx=>?_,fun b o e n hb hx=>?_,I.base.free,fun b o e hx=>?_,I.base.tups,I.base.frzs,I.base.tbls⟩,⟨m,hn.sameBut hs (Ne.symm (cne x c hc)),fun j y v' e1 e2 e3=>?_⟩,fun y c' e=>?_,I.free,I.freeC,fun p hp=>?_,tracked ⟨oc,hoc,I.freeC x c hc⟩ hs,by simpa using I.len⟩ ⟨c,hs,.inr hc⟩
   · exact (hs.2 b (Nat.ne_of_lt (Nat.lt_of_lt_of_le (Heap.lt_size e) (I.ok.cab x c hfn hc)))).trans (I.base.keep b o e n hb hx)
   · obtain ⟨sl,e1⟩:=I.base.slot b o e n hb hx
     exact ⟨sl,(hs.2 b (Nat.ne_of_lt (Nat.lt_of_lt_of_le (Heap.lt_size e) (I.ok.cab x c hfn hc)))).trans e1⟩
   · obtain ⟨o',e1⟩:=I.base.there b o e hx
     exact ⟨o',(hs.2 b (Nat.ne_of_lt (Nat.lt_of_lt_of_le (Heap.lt_size e) (I.ok.cab x c hfn hc)))).trans e1⟩
   · by_cases hj:j=i
     · subst hj
       rw [hi]at e1;cases e1
       rw [List.getElem?_set_self hiσ]at e2
       cases e2
       exact ⟨u,r,.inr ⟨.inl hk,c,hc,hc'⟩⟩
     · rw [List.getElem?_set_ne (Ne.symm hj)]at e2
       obtain ⟨u',r',q⟩:=hl j y v' e1 e2 e3
       refine ⟨u',r',?_⟩
       rcases q with q | ⟨k,c',e,z'⟩
       · exact .inl q
       · refine .inr ⟨k,c',e,z'.sameBut hs ?_⟩
         rintro rfl
         exact hj (nodup_ix hN e1 (I.ok.inj _ _ _ e hc▸hi))
   · by_cases hcc:c'=c
     · subst hcc;exact ⟨_,hc'⟩
     · obtain ⟨w2,z2⟩:=I.cell y c' e
       exact ⟨w2,z2.sameBut hs hcc⟩
   · obtain ⟨e,n,ne,nf,d⟩:=I.pin p hp
     refine ⟨(hs.2 p.1 ?_).trans e,n,ne,nf,d⟩
     intro q
     rw [q,hoc]at e
     have q':oc=p.2:=Option.some.inj e
     exact d w' (by rw [← q'];exact hocd)
theorem store_ok{M:Model}{A:Around}{E:Value→Shared→Prop}{i:Nat}{x:Str}{v:V}{u:Value}{Q:Unit→Shared→Prop}(I:Inv X pins σ H s)(hN:X.N.Nodup)(hi:X.N[i]?=some x)(hx:Loc X.env.scope x)(r:RelV v u)
 (h:∀s',Inv X pins (σ.set i (some v)) H s'→Q () s') (hf:X.fn x=true∨X.env.scope.names.lookup x=some .local:=by first | exact .inl rfl | exact .inr rfl | assumption):wpAny M A (storeName X.env x u) Q E s:=
 store_ok2 I hN hi hx r (fun s' I' _=>h s' I') hf
theorem Inv.call'{s':Shared}{ch:List Addr}(I:Inv X pins σ H s)(ho:s'.os=s.os)(u:Un (frs X.stack) ch H H' s.heap s'.heap)(hok:HOk X.prog X.w H' s'.heap)(hg:AllBare s'.gens)
 (hch:∀b∈ch,(b∈X.ex∨X.s₀.heap.objs.size≤b)∧b≠X.env.locals∧(∀x c,X.env.cells.lookup x=some c→c≠b)∧∀p∈X.pn++pins,p.1≠b):Inv X pins σ H' s':=by
 obtain ⟨h',g',d',t',o'⟩:=s'
 have e:o'=s.os:=ho
 subst e
 exact I.call (g':=g') (t':=t') (d':=d') u hok hg hch
end
noncomputable abbrev XK:=Value→Option Addr→Hp→Prop
noncomputable abbrev St:=List (Option V)
noncomputable abbrev VK:=V→Hp→Prop
noncomputable abbrev TE:=St→Hp→VK→Prop
noncomputable abbrev TT:=St→Hp→(Bool→Hp→Prop)→Prop
noncomputable abbrev TA:=St→Hp→(List V→Hp→Prop)→Prop
structure Ends where
 nx:St→Hp→Prop
 rt:VK
 bk:St→Hp→Prop:=fun _ _=>False
 ct:St→Hp→Prop:=fun _ _=>False
noncomputable abbrev TS:=Ends→St→Hp→Prop
noncomputable def EP(X:Cx)(pins:List (Addr×Obj))(σ:St)(Q:VK)(u:Value)(s':Shared):Prop:=∃v H',Inv X pins σ H' s'∧RelV v u∧Q v H'
noncomputable def TP(X:Cx)(pins:List (Addr×Obj))(σ:St)(Q:Bool→Hp→Prop)(b:Bool)(s':Shared):Prop:=∃H',Inv X pins σ H' s'∧Q b H'
noncomputable def AP(X:Cx)(pins:List (Addr×Obj))(σ:St)(Q:List V→Hp→Prop)(us:List Value)(s':Shared):Prop:=∃vs H',Inv X pins σ H' s'∧Vals vs us∧Q vs H'
noncomputable def SP(X:Cx)(pins:List (Addr×Obj))(D:Ends)(f:Flow)(s':Shared):Prop:=
 match f with
 | .next=>∃σ' H',Inv X pins σ' H' s'∧D.nx σ' H'
 | .brk=>∃σ' H',Inv X pins σ' H' s'∧D.bk σ' H'
 | .cont=>∃σ' H',Inv X pins σ' H' s'∧D.ct σ' H'
 | .ret u=>∃v σ' H',Inv X pins σ' H' s'∧RelV v u∧D.rt v H'
noncomputable def PE(X:Cx)(e:Expr)(t:TE):Prop:=
 ∀(pins:List (Addr×Obj)) (s:Shared) (σ:St) (H:Hp) (Q:VK),Inv X pins σ H s→t σ H Q→wpAny (model X.prog X.w) X.A (eval e X.env) (EP X pins σ Q) X.xe s
noncomputable def PT(X:Cx)(e:Expr)(t:TT):Prop:=
 ∀(pins:List (Addr×Obj)) (s:Shared) (σ:St) (H:Hp) (Q:Bool→Hp→Prop),Inv X pins σ H s→t σ H Q→wpAny (model X.prog X.w) X.A (isTrue e X.env (eval e X.env)) (TP X pins σ Q) X.xe s
noncomputable def PW(X:Cx)(e:Expr)(t:TT):Prop:=
 ∀(whole:Sem Value) (pins:List (Addr×Obj)) (s:Shared) (σ:St) (H:Hp) (Q:Bool→Hp→Prop),Inv X pins σ H s→t σ H Q→wpAny (model X.prog X.w) X.A (isTrue e X.env whole) (TP X pins σ Q) X.xe s
theorem PW.pt{X:Cx}{e:Expr}{t:TT}(h:PW X e t):PT X e t:=h _
noncomputable def PA(X:Cx)(es:List Expr)(t:TA):Prop:=
 ∀(pos:Pos) (pins:List (Addr×Obj)) (s:Shared) (σ:St) (H:Hp) (Q:List V→Hp→Prop),Inv X pins σ H s→t σ H Q→wpAny (model X.prog X.w) X.A (spliced (backTo pos (starEach es X.env))) (AP X pins σ Q) X.xe s
noncomputable def PS(X:Cx)(st:Stmt)(t:TS):Prop:=
 ∀(pins:List (Addr×Obj)) (s:Shared) (σ:St) (H:Hp) (D:Ends),Inv X pins σ H s→t D σ H→wpAny (model X.prog X.w) X.A (exec st X.env) (SP X pins D) X.xe s
noncomputable def PSs(X:Cx)(st:List Stmt)(t:TS):Prop:=
 ∀(pins:List (Addr×Obj)) (s:Shared) (σ:St) (H:Hp) (D:Ends),Inv X pins σ H s→t D σ H→wpAny (model X.prog X.w) X.A (execs st X.env) (SP X pins D) X.xe s
theorem thn{α:Type}{t:Sem α}{Q Q':α→Shared→Prop}{M:Model}{A:Around}{E:Value→Shared→Prop}{s:Shared}(h:wpAny M A t Q E s)(hQ:∀a s,Q a s→Q' a s):wpAny M A t Q' E s:=wpAny_mono h hQ fun _ _ x=>x
end L2
namespace L2
section
variable {X:Cx}
noncomputable def tVar(i:Nat):TE:=fun σ H Q=>∃v,σ[i]?=some (some v)∧Q v H
noncomputable def tC(v:V):TE:=fun _ H Q=>Q v H
theorem pe_var{i:Nat}{x:Str}{pos:Pos}(hN:X.N[i]?=some x)(hv:Vis X.env.scope x)(hd:(x==("__debug__":Str))=false:=by decide)(hcd:(x==("__classdict__":Str))=false:=by decide):PE X (.Name x pos) (tVar i):=by
 intro pins s σ H Q I h
 obtain ⟨v,e,h⟩:=h
 obtain ⟨m,hn,hl⟩:=I.loc
 obtain ⟨u,r,l⟩:=hl i x v hN e hv
 have fin:EP X pins σ Q u s:=⟨v,H,I,r,h⟩
 rcases l with ⟨hk,hm⟩ | ⟨hk,c,hc,hcell⟩
 · exact wpAny_Name (wpAny_loadName_local I.ok.kind hk hn hm fin) hd
 · rcases hk with hk | hk
   · exact wpAny_Name (wpAny_loadName_cell I.ok.kind hk hc hcell fin) hd
   · exact wpAny_Name (wpAny_loadName_free I.ok.kind hk hc hcell fin hcd) hd
theorem pe_int{i j pos}:PE X (.Constant (.int i) j pos) (tC (.int i)):=fun _ _ _ H _ I h=>wpAny_Constant_int ⟨.int i,H,I.tok _,⟨_,rfl⟩,h⟩
theorem pe_bl{b j pos}:PE X (.Constant (.bool b) j pos) (tC (.bl b)):=fun _ _ _ H _ I h=>Constant_bool ⟨.bl b,H,I,rfl,h⟩
theorem pe_non{j pos}:PE X (.Constant .none j pos) (tC .non):=fun _ _ _ H _ I h=>Constant_none ⟨.non,H,I,rfl,h⟩
theorem pe_str{x j pos}:PE X (.Constant (.str x) j pos) (tC (.str x)):=fun _ _ _ H _ I h=>Calls.Constant_str ⟨.str x,H,I.tok _,⟨_,rfl⟩,h⟩
noncomputable def Gl(X:Cx)(x:Str):Prop:=X.env.kindOf x=some .globalImplicit
theorem ld_glob{E:Value→Shared→Prop}{pins:List (Addr×Obj)}{s:Shared}{σ:St}{H:Hp}{x:Str}{u:Value}{pos:Pos}{Q:Value→Shared→Prop}(I:Inv X pins σ H s)(hg:Gl X x)(hm:X.mg x=some u)(h:Q u s)
 (hd:(x==("__debug__":Str))=false:=by decide):wpAny (model X.prog X.w) X.A (eval (.Name x pos) X.env) Q E s:=
 Calls.Name_function_global I.ok.kind hg (Calls.loadGlobal_global (by rw [I.ok.glob];exact I.mod.glob.keeps I.bk) hm h) hd
theorem ld_blt{E:Value→Shared→Prop}{pins:List (Addr×Obj)}{s:Shared}{σ:St}{H:Hp}{x:Str}{u:Value}{pos:Pos}{Q:Value→Shared→Prop}(I:Inv X pins σ H s)(hg:Gl X x)(hm:X.mg x=none)(hv:bootBuiltins x=some u)(h:Q u s)
 (hn:x≠"__name__":=by decide) (hd:(x==("__debug__":Str))=false:=by decide):wpAny (model X.prog X.w) X.A (eval (.Name x pos) X.env) Q E s:=by
 obtain ⟨mb,h1,h2⟩:=I.mod.blt
 exact Calls.Name_function_global I.ok.kind hg (Calls.loadGlobal_builtin (by rw [I.ok.glob];exact I.mod.glob.keeps I.bk) hm (by rw [I.ok.blt];exact h1.keeps I.bk) ((h2 x hn).trans hv) h) hd
theorem pe_glob{x:Str}{v:V}{u:Value}{pos:Pos}(hg:Gl X x)(hm:X.mg x=some u)(r:RelV v u)(hd:(x==("__debug__":Str))=false:=by decide):PE X (.Name x pos) (tC v):=
 fun _ _ _ H _ I h=>ld_glob I hg hm ⟨v,H,I,r,h⟩ hd
theorem pe_bltn{x:Str}{v:V}{u:Value}{pos:Pos}(hg:Gl X x)(hm:X.mg x=none)(hv:bootBuiltins x=some u)(r:RelV v u)(hn:x≠"__name__":=by decide)(hd:(x==("__debug__":Str))=false:=by decide):PE X (.Name x pos) (tC v):=
 fun _ _ _ H _ I h=>ld_blt I hg hm hv ⟨v,H,I,r,h⟩ hn hd
variable {a b:Expr} {ta tb:TE} {pos:Pos}
noncomputable def PC(X:Cx)(op:CmpOp)(a b:Expr)(t:TE):Prop:=
 ∀(pins:List (Addr×Obj)) (s:Shared) (σ:St) (H:Hp) (Q:VK),Inv X pins σ H s→t σ H Q→
   wpAny (model X.prog X.w) X.A (eval a X.env) (fun v s₁=>wpAny (model X.prog X.w) X.A (eval b X.env) (fun u s₂=>wpAny (model X.prog X.w) X.A (compareOp op v u) (EP X pins σ Q) X.xe s₂) X.xe s₁) X.xe s
theorem nobehind(b:Expr){op:CmpOp}(h:op≠ .In)(h2:op≠ .NotIn):behindInMarks op b=false:=by
 have e1:(op==CmpOp.In)=false:=by cases op <;> first | rfl | exact absurd rfl h
 have e2:(op==CmpOp.NotIn)=false:=by cases op <;> first | rfl | exact absurd rfl h2
 cases b <;> simp [behindInMarks,e1,e2]
noncomputable def tB(t:TE):TT:=fun σ H Q=>t σ H fun x H1=>∃c,x= .bl c∧Q c H1
theorem pe_cmp{op:CmpOp}{t:TE}(h:PC X op a b t)(h1:behindInMarks op b=false:=by first | exact nobehind _ (by decide) (by decide) | rfl):PE X (.Compare a [op] [b] pos) t:=fun pins s σ H Q I hw=>wpAny_Compare1 (h pins s σ H Q I hw) h1
theorem pt_cmp{op:CmpOp}{t:TE}(h:PC X op a b t)(h1:behindInMarks op b=false:=by first | exact nobehind _ (by decide) (by decide) | rfl):PT X (.Compare a [op] [b] pos) (tB t):=by
 intro pins s σ H Q I hw
 refine wpAny_isTrue_Compare1 (thn (h pins s σ H _ I hw) fun v s1 h1=>thn h1 fun u s2 h2=>thn h2 fun c s3 hq_=>?_) h1
 obtain ⟨x,H1,I1,r1,q1⟩:=hq_
 obtain ⟨d,rfl,q⟩:=q1
 cases r1
 exact wpAny_truthy_bool ⟨H1,I1,q⟩
theorem pt_val{e:Expr}{t:TE}(h:PE X e t)(he:∀whole,isTrue e X.env whole=(do let v ← whole;standAt e.pos;holding [v] (truthy v)):=by intro _;rfl):PT X e (tB t):=by
 intro pins s σ H Q I hw
 refine isTrue_plain (thn (h pins s σ H _ I hw) fun v s1 hq_=>?_) (he _)
 obtain ⟨x,H1,I1,r1,q1⟩:=hq_
 obtain ⟨d,rfl,q⟩:=q1
 cases r1
 exact wpAny_truthy_bool ⟨H1,I1,q⟩
variable {tA tB':TT} {rest:List Expr}
noncomputable def tAnd(t u:TT):TT:=fun σ H Q=>t σ H fun c H1=>if c=true then u σ H1 Q else Q false H1
noncomputable def tOr(t u:TT):TT:=fun σ H Q=>t σ H fun c H1=>if c=true then Q true H1 else u σ H1 Q
noncomputable def tNot(t:TT):TT:=fun σ H Q=>t σ H fun c H1=>Q (!c) H1
theorem pw_or1(ha:PT X a tA):PW X (.BoolOp .Or [a] pos) tA:=by
 intro wh pins s σ H Q I h
 refine isTrue_or (thn (ha pins s σ H Q I h) fun c s1 e=>?_)
 cases c with
 | false=>exact isTrue_or_nil e
 | true=>exact e
theorem pw_or(ha:PT X a tA)(hb:PW X (.BoolOp .Or (b::rest) pos) tB'):PW X (.BoolOp .Or (a::b::rest) pos) (tOr tA tB'):=by
 intro wh pins s σ H Q I h
 refine isTrue_or (thn (ha pins s σ H _ I h) fun c s1 ⟨H1,I1,q1⟩=>?_)
 cases c with
 | true=>exact ⟨H1,I1,q1⟩
 | false=>exact hb wh pins s1 σ H1 Q I1 q1
theorem pt_not(ha:PT X a tA):PT X (.UnaryOp .Not a pos) (tNot tA):=by
 intro pins s σ H Q I h
 exact isTrue_not (ha pins s σ H (fun c H1=>Q (!c) H1) I h)
noncomputable def tAndV(ta tb:TE):TE:=fun σ H Q=>ta σ H fun x H1=>∃c,x= .bl c∧if c=true then tb σ H1 Q else Q (.bl false) H1
noncomputable def tOrV(ta tb:TE):TE:=fun σ H Q=>ta σ H fun x H1=>∃c,x= .bl c∧if c=true then Q (.bl true) H1 else tb σ H1 Q
noncomputable def tNotV(ta:TE):TE:=fun σ H Q=>ta σ H fun x H1=>∃c,x= .bl c∧Q (.bl (!c)) H1
theorem pe_one{op}{t:TE}(h:PE X a t):PE X (.BoolOp op [a] pos) t:=fun pins s σ H Q I hw=>BoolOp_one (h pins s σ H Q I hw)
theorem pe_and(ha:PE X a ta)(hb:PE X (.BoolOp .And (b::rest) pos) tb):PE X (.BoolOp .And (a::b::rest) pos) (tAndV ta tb):=by
 intro pins s σ H Q I h
 refine BoolOp_and (thn (ha pins s σ H _ I h) fun v s1 hq_=>?_)
 obtain ⟨x,H1,I1,r1,q1⟩:=hq_
 obtain ⟨c,rfl,q1⟩:=q1
 cases r1
 refine wpAny_truthy_bool ?_
 cases c with
 | true=>exact hb pins s1 σ H1 Q I1 q1
 | false=>exact ⟨.bl false,H1,I1,rfl,q1⟩
theorem pe_not(ha:PE X a ta):PE X (.UnaryOp .Not a pos) (tNotV ta):=by
 intro pins s σ H Q I h
 refine UnaryOp_ (thn (ha pins s σ H _ I h) fun v s1 hq_=>?_)
 obtain ⟨x,H1,I1,r1,q1⟩:=hq_
 obtain ⟨c,rfl,q1⟩:=q1
 cases r1
 exact not_of (wpAny_truthy_bool ⟨.bl (!c),H1,I1,rfl,q1⟩)
noncomputable def tIf(t:TT)(ta tb:TE):TE:=fun σ H Q=>t σ H fun c H1=>if c=true then ta σ H1 Q else tb σ H1 Q
end
end L2
namespace L2
noncomputable def SqL(K:PySem.W.Frag)(H:Hp)(a:Addr)(xs:List V):Prop:=
 Rd H a (.lst xs)∨
  ∃(o:Obj) (its:Array Value) (n:Nat),K.lookup a=some o∧o.cls= .type "list"∧o.dict=none∧o.data= .seq its n∧its.size≤sizeLine∧Vals xs its.toList
noncomputable def SqT(K:PySem.W.Frag)(H:Hp)(a:Addr)(xs:List V):Prop:=
 Rd H a (.tup xs)∨
  ∃(o:Obj) (its:Array Value) (n:Nat),K.lookup a=some o∧o.cls= .type "tuple"∧o.data= .seq its n∧its.size≤sizeLine∧Vals xs its.toList
noncomputable def absV:Value→Option V
 | .none=>some .non
 | .bool b=>some (.bl b)
 | .int i _=>some (.int i)
 | .str x _=>some (.str x)
 | .bytes b _=>some (.byt b)
 | .float b _=>some (.flt b)
 | .ref a=>some (.ref a)
 | .type n=>some (.ty n)
 | _=>none
theorem RelV.abs{x:V}{u:Value}(r:RelV x u):absV u=some x:=by
 cases x with
 | non=>cases r;rfl
 | bl _=>cases r;rfl
 | int _=>obtain ⟨t,rfl⟩:=r;rfl
 | str _=>obtain ⟨t,rfl⟩:=r;rfl
 | byt _=>obtain ⟨t,rfl⟩:=r;rfl
 | flt _=>obtain ⟨t,rfl⟩:=r;rfl
 | ref _=>cases r;rfl
 | ty _=>cases r;rfl
theorem RelV.inj{x y:V}{u:Value}(r:RelV x u)(q:RelV y u):x=y:=Option.some.inj (r.abs.symm.trans q.abs)
theorem Vals.inj:∀{xs ys:List V} {us:List Value},Vals xs us→Vals ys us→xs=ys
 | _,_,_,.nil,.nil=>rfl
 | _,_,_,.cons r t,.cons r' t'=>by rw [r.inj r',Vals.inj t t']
section
variable {X:Cx} {pins:List (Addr×Obj)} {σ:St} {H:Hp} {s:Shared} {a:Addr} {xs ys:List V}
theorem SqL.of{K:PySem.W.Frag}(h:H a=some (.lst xs)):SqL K H a xs:= .inl (.inl h)
theorem SqT.of{K:PySem.W.Frag}(h:H a=some (.tup xs)):SqT K H a xs:= .inl (.inl h)
theorem Inv.list(I:Inv X pins σ H s)(h:SqL X.K H a xs):∃its:List Value,Vals xs its∧PlainL s.heap a its.toArray∧xs.length≤sizeLine:=by
 rcases h with h | ⟨o,its,n,hk,hc,hd,hs,hz,r⟩
 · obtain ⟨z,its,n,r,e⟩:=h.ok I.hok
   exact ⟨its,r,⟨_,n,e,rfl,rfl,rfl⟩,z⟩
 · refine ⟨its.toList,r,⟨o,n,I.kIn a o hk,hc,hd,by simpa using hs⟩,?_⟩
   have e:=r.length
   simp only [Array.length_toList]at e
   omega
theorem Inv.tuple(I:Inv X pins σ H s)(h:SqT X.K H a xs):∃its:List Value,Vals xs its∧IsTup s.heap a its.toArray∧xs.length≤sizeLine:=by
 rcases h with h | ⟨o,its,n,hk,hc,hs,hz,r⟩
 · obtain ⟨z,its,r,p⟩:=h.ok I.hok
   exact ⟨its,r,p,z⟩
 · refine ⟨its.toList,r,⟨o,I.kIn a o hk,hc,n,by simpa using hs⟩,?_⟩
   have e:=r.length
   simp only [Array.length_toList]at e
   omega
theorem Inv.list_inj(I:Inv X pins σ H s)(h:SqL X.K H a xs)(h':SqL X.K H a ys):xs=ys:=by
 obtain ⟨its,r,⟨o,n,e,_,_,d⟩,_⟩:=I.list h
 obtain ⟨its',r',⟨o',n',e',_,_,d'⟩,_⟩:=I.list h'
 rw [e]at e';cases e'
 rw [d]at d'
 injection d' with d1 _
 have:its=its':=by simpa using congrArg Array.toList d1
 subst this
 exact r.inj r'
end
noncomputable abbrev Cx.wish(X:Cx)(E:Value→Shared→Prop):Cx:={X with xe:=E}
noncomputable abbrev Cx.nox(X:Cx):Cx:=X.wish fun _ _=>False
theorem Cx.Ok.wish{X:Cx}(ok:X.Ok)(E:Value→Shared→Prop):(X.wish E).Ok:=
 ⟨ok.mod,ok.kind,ok.glob,ok.blt,ok.above,ok.inj,ok.has,ok.cab,ok.hd,ok.frames,ok.stk,ok.exf,ok.bs,ok.bsz,ok.noex,ok.exfs,ok.funs,ok.frf⟩
theorem Cx.Ok.unwish{X:Cx}{E:Value→Shared→Prop}(ok:(X.wish E).Ok):X.Ok:=
 ⟨ok.mod,ok.kind,ok.glob,ok.blt,ok.above,ok.inj,ok.has,ok.cab,ok.hd,ok.frames,ok.stk,ok.exf,ok.bs,ok.bsz,ok.noex,ok.exfs,ok.funs,ok.frf⟩
section
variable {X:Cx} {pins:List (Addr×Obj)} {σ:St} {H:Hp} {s:Shared} {E:Value→Shared→Prop}
theorem Inv.wish(I:Inv X pins σ H s)(E:Value→Shared→Prop):Inv (X.wish E) pins σ H s:=⟨I.ok.wish E,I.os,I.bare,I.base,I.loc,I.cell,I.free,I.freeC,I.pin,I.hok,I.len⟩
theorem Inv.unwish(I:Inv (X.wish E) pins σ H s):Inv X pins σ H s:=⟨I.ok.unwish,I.os,I.bare,I.base,I.loc,I.cell,I.free,I.freeC,I.pin,I.hok,I.len⟩
theorem SP.unwish{D:Ends}{f:Flow}{s':Shared}(h:SP (X.wish E) pins D f s'):SP X pins D f s':=by
 cases f with
 | next=>obtain ⟨σ',H',I,q⟩:=h;exact ⟨σ',H',I.unwish,q⟩
 | brk=>obtain ⟨σ',H',I,q⟩:=h;exact ⟨σ',H',I.unwish,q⟩
 | cont=>obtain ⟨σ',H',I,q⟩:=h;exact ⟨σ',H',I.unwish,q⟩
 | ret u=>obtain ⟨v,σ',H',I,r,q⟩:=h;exact ⟨v,σ',H',I.unwish,r,q⟩
theorem PSs.nox{st:List Stmt}{t:TS}(h:PSs X.nox st t):PSs X st t:=fun pins s σ H D I hw=>
 wpAny_mono (h pins s σ H D (I.wish _) hw) (fun _ _ q=>q.unwish) fun _ _ z=>False.elim z
end
section
variable {X:Cx} {st:Stmt} {rest:List Stmt} {t u:TS} {e:Expr} {te:TE} {pos:Pos}
noncomputable def tNext:TS:=fun D σ H=>D.nx σ H
noncomputable def tSeq(t u:TS):TS:=fun D σ H=>t {D with nx:=u D} σ H
theorem pss_nil:PSs X [] tNext:=fun _ _ σ H _ I h=>wpAny_execs_nil ⟨σ,H,I,h⟩
theorem pss_cons(h1:PS X st t)(h2:PSs X rest u):PSs X (st::rest) (tSeq t u):=by
 intro pins s σ H D I h
 refine wpAny_execs_cons (thn (h1 pins s σ H {D with nx:=u D} I h) fun f s1 q=>?_)
 cases f with
 | next=>
  obtain ⟨σ',H',I',q⟩:=q
  exact h2 pins s1 σ' H' D I' q
 | ret v=>exact q
 | brk=>exact q
 | cont=>exact q
theorem pss_one(h1:PS X st t):PSs X [st] t:=by
 intro pins s σ H D I h
 refine wpAny_execs_cons (thn (h1 pins s σ H D I h) fun f s1 q=>?_)
 cases f with
 | next=>exact wpAny_execs_nil q
 | ret v=>exact q
 | brk=>exact q
 | cont=>exact q
noncomputable def tBreak:TS:=fun D σ H=>D.bk σ H
noncomputable def tCont:TS:=fun D σ H=>D.ct σ H
theorem Inv.quiet{pins:List (Addr×Obj)}{σ:St}{H:Hp}{s:Shared}(I:Inv X pins σ H s):interactive X.env=false:=by simp [interactive,I.ok.kind]
noncomputable def tDrop(te:TE):TS:=fun D σ H=>te σ H fun _ H1=>D.nx σ H1
theorem ps_expr(he:PE X e te)(hs:swapsWith e none pos.line X.env=pure false:=by rfl):PS X (.Expr e pos) (tDrop te):=by
 intro pins s σ H D I h
 exact wpAny_Expr_any (thn (he pins s σ H _ I h) fun v s1 ⟨x,H1,I1,r1,q1⟩=>⟨σ,H1,I1,q1⟩) I.quiet hs
noncomputable def tRet(te:TE):TS:=fun D σ H=>te σ H D.rt
theorem ps_ret(he:PE X e te):PS X (.Return (some e) pos) (tRet te):=by
 intro pins s σ H D I h
 exact wpAny_Return_some (thn (he pins s σ H _ I h) fun v s1 ⟨x,H1,I1,r1,q1⟩=>⟨x,σ,H1,I1,r1,q1⟩)
noncomputable def tRetN:TS:=fun D _ H=>D.rt .non H
noncomputable def tIfS(c:TT)(t u:TS):TS:=fun D σ H=>c σ H fun b H1=>if b=true then t D σ H1 else u D σ H1
theorem ps_if{c:Expr}{a b:List Stmt}{tc:TT}(hc:PT X c tc)(ha:PSs X a t)(hb:PSs X b u):PS X (.If c a b pos) (tIfS tc t u):=by
 intro pins s σ H D I h
 refine wpAny_If (thn (hc pins s σ H _ I h) fun d s1 ⟨H1,I1,q1⟩=>?_)
 cases d with
 | true=>exact ha pins s1 σ H1 D I1 q1
 | false=>exact hb pins s1 σ H1 D I1 q1
noncomputable def tNever:TS:=fun _ _ _=>False
theorem ps_never:PS X st tNever:=fun _ _ _ _ _ _ h=>h.elim
end
noncomputable abbrev TG:=V→St→Hp→(St→Hp→Prop)→Prop
noncomputable abbrev TGs:=List V→St→Hp→(St→Hp→Prop)→Prop
noncomputable def PG(X:Cx)(target:Expr)(t:TG):Prop:=
 ∀(pins:List (Addr×Obj)) (s:Shared) (σ:St) (H:Hp) (v:V) (u:Value) (Q:St→Hp→Prop),Inv X pins σ H s→RelV v u→t v σ H Q→
   wpAny (model X.prog X.w) X.A (assign target X.env u) (fun _ s'=>∃σ' H',Inv X pins σ' H' s'∧Q σ' H') X.xe s
noncomputable def PGs(X:Cx)(ts:List Expr)(t:TGs):Prop:=
 ∀(pins:List (Addr×Obj)) (s:Shared) (σ:St) (H:Hp) (vs:List V) (us:List Value) (Q:St→Hp→Prop),Inv X pins σ H s→Vals vs us→t vs σ H Q→
   wpAny (model X.prog X.w) X.A (assignInOrder ((assignEach ts X.env).map (·.2)) us) (fun _ s'=>∃σ' H',Inv X pins σ' H' s'∧Q σ' H') X.xe s
noncomputable abbrev TSet:=V→V→V→Hp→(Hp→Prop)→Prop
noncomputable def PSet(X:Cx)(t:TSet):Prop:=
 ∀(pins:List (Addr×Obj)) (s:Shared) (σ:St) (H:Hp) (o i v:V) (ov iv u:Value) (Q:Hp→Prop),Inv X pins σ H s→RelV o ov→RelV i iv→RelV v u→t o i v H Q→
   wpAny (model X.prog X.w) X.A (setItem ov iv u) (fun _ s'=>∃H',Inv X pins σ H' s'∧Q H') X.xe s
noncomputable abbrev TIp:=V→V→Hp→VK→Prop
noncomputable def PIp(X:Cx)(op:Operator)(t:TIp):Prop:=
 ∀(pins:List (Addr×Obj)) (s:Shared) (σ:St) (H:Hp) (x y:V) (v u:Value) (Q:VK),Inv X pins σ H s→RelV x v→RelV y u→t x y H Q→
   wpAny (model X.prog X.w) X.A (inplaceOp op v u) (EP X pins σ Q) X.xe s
section
variable {X:Cx} {pos:Pos}
noncomputable def gName(i:Nat):TG:=fun v σ H Q=>Q (σ.set i (some v)) H
theorem pg_name{i:Nat}{x:Str}(hN:X.N.Nodup)(hi:X.N[i]?=some x)(hx:Loc X.env.scope x)(hf:X.fn x=true∨X.env.scope.names.lookup x=some .local:=by first | exact .inl rfl | exact .inr rfl | assumption):PG X (.Name x pos) (gName i):=by
 intro pins s σ H v u Q I r h
 exact wpAny_assign_Name (store_ok I hN hi hx r (fun s' I'=>⟨_,H,I',h⟩) hf)
noncomputable def gNil:TGs:=fun vs σ H Q=>vs=[]∧Q σ H
noncomputable def gCons(t:TG)(u:TGs):TGs:=fun vs σ H Q=>∃v r,vs=v::r∧t v σ H fun σ' H'=>u r σ' H' Q
theorem pgs_nil:PGs X [] gNil:=by
 intro pins s σ H vs us Q I r h
 obtain ⟨e,h⟩:=h
 subst e
 cases r
 exact assignInOrder_nil ⟨σ,H,I,h⟩
theorem pgs_cons{e:Expr}{es:List Expr}{t:TG}{u:TGs}(h1:PG X e t)(h2:PGs X es u)
 (hs:(assignEach (e::es) X.env).map (·.2)=assign e X.env::(assignEach es X.env).map (·.2):=by rfl):PGs X (e::es) (gCons t u):=by
 intro pins s σ H vs us Q I r h
 obtain ⟨v,vr,e1,h⟩:=h
 subst e1
 cases r with
 | cons r rr=>
  rw [hs]
  refine assignInOrder_cons (thn (h1 pins s σ H _ _ _ I r h) fun _ s1 hq_=>?_)
  obtain ⟨σ1,H1,I1,q1⟩:=hq_
  exact h2 pins s1 σ1 H1 _ _ Q I1 rr q1
noncomputable def gTup(K:PySem.W.Frag)(n:Nat)(t:TGs):TG:=fun v σ H Q=>∃a xs,v= .ref a∧SqT K H a xs∧xs.length=n∧t xs σ H Q
theorem pg_tup{es:List Expr}{k:Nat}{t:TGs}{n:Nat}(hc:X.calm=true)(h:PGs X es t)
 (hn:(assignEach es X.env).length=n:=by rfl) (hst:(assignEach es X.env).findIdx? (·.1)=none:=by rfl):PG X (.Tuple es k pos) (gTup X.K n t):=by
 intro pins s σ H v u Q I r hw
 obtain ⟨a,xs,e1,hq,hl,hw⟩:=hw
 subst e1
 cases r
 obtain ⟨its,rv,ht,hz⟩:=I.tuple hq
 refine assign_Tuple_tuple (I.ok.hd hc) ht (by simp [hn,← hl,rv.length]) hst fun h' hx=>?_
 have I1:Inv X pins σ H {s with heap:=h'}:=I.kept (t':=s.toks) fun b o e=>hx b o (Nat.ne_of_lt (Heap.lt_size e)) e
 exact h pins _ σ H xs _ Q I1 (by simpa using rv) hw
noncomputable def gSub(to ti:TE)(t:TSet):TG:=fun v σ H Q=>to σ H fun o H1=>ti σ H1 fun i H2=>t o i v H2 fun H3=>Q σ H3
theorem pg_sub{o i:Expr}{to ti:TE}{t:TSet}(ho:PE X o to)(hi:PE X i ti)(hs:PSet X t)
 (ha:∀v,assign (.Subscript o i pos) X.env v=(do
  let ov ← holding [v] (eval o X.env)
  let iv ← holding [v,ov] (eval i X.env)
  standAt pos
  holding [v,ov,iv] (setItem ov iv v)
  release [v,ov,iv] []):=by intro _;rfl):PG X (.Subscript o i pos) (gSub to ti t):=by
 intro pins s σ H v u Q I r h
 rw [ha]
 refine wpAny_bind (wpAny_holding (thn (ho pins s σ H _ I h) fun ov s1 hq_=>?_))
 obtain ⟨x,H1,I1,r1,q1⟩:=hq_
 refine wpAny_bind (wpAny_holding (thn (hi pins s1 σ H1 _ I1 q1) fun iv s2 hq_=>?_))
 obtain ⟨y,H2,I2,r2,q2⟩:=hq_
 refine wpAny_bind (wpAny_standAt (wpAny_bind (wpAny_holding (thn (hs pins s2 σ H2 x y v ov iv u _ I2 r1 r2 r q2) fun _ s3 ⟨H3,I3,q3⟩=>?_))))
 exact wpAny_release ⟨σ,H3,I3,q3⟩
noncomputable def tAsg(te:TE)(g:TG):TS:=fun D σ H=>te σ H fun x H1=>g x σ H1 D.nx
theorem ps_asg{tg e:Expr}{te:TE}{g:TG}(he:PE X e te)(hg:PG X tg g)(hs:swapsWithSole [tg] e pos.line X.env=pure false:=by rfl)(hw:swappedStores [tg] e X.env=pure none:=by rfl)
 (h1:(assignEach [tg] X.env).map (·.2)=[assign tg X.env]:=by rfl):PS X (.Assign [tg] e pos) (tAsg te g):=by
 intro pins s σ H D I h
 refine wpAny_Assign_stores (thn (he pins s σ H _ I h) fun v s1 hq_=>?_) hs hw
 obtain ⟨x,H1,I1,r1,q1⟩:=hq_
 rw [h1]
 exact thn (hg pins s1 σ H1 x v _ I1 r1 q1) fun _ s2 q=>q
theorem ps_set{i:Nat}{x:Str}{e:Expr}{te:TE}{pos':Pos}(hN:X.N.Nodup)(hi:X.N[i]?=some x)(hx:Loc X.env.scope x)(he:PE X e te)(hs:swapsWith e (some (.Name x pos')) pos.line X.env=pure false:=by rfl)(hf:X.fn x=true∨X.env.scope.names.lookup x=some .local:=by first | exact .inl rfl | exact .inr rfl | assumption):
 PS X (.Assign [.Name x pos'] e pos) (tAsg te (gName i)):=by
 intro pins s σ H D I h
 refine wpAny_Assign_Name (thn (he pins s σ H _ I h) fun v s1 hq_=>?_) hs
 obtain ⟨y,H1,I1,r1,q1⟩:=hq_
 exact store_ok I1 hN hi hx r1 (fun s2 I2=>⟨_,H1,I2,q1⟩) hf
noncomputable def tPar(i j:Nat)(ta:TA):TS:=fun D σ H=>ta σ H fun vs H1=>∃v w,vs=[v,w]∧D.nx ((σ.set i (some v)).set j (some w)) H1
noncomputable def tAug(i:Nat)(te:TE)(ti:TIp):TS:=fun D σ H=>∃x,σ[i]?=some (some x)∧te σ H fun y H1=>ti x y H1 fun z H2=>D.nx (σ.set i (some z)) H2
theorem ps_aug{i:Nat}{x:Str}{e:Expr}{te:TE}{op:Operator}{ti:TIp}{pos':Pos}(hN:X.N.Nodup)(hi:X.N[i]?=some x)(hx:Loc X.env.scope x)(he:PE X e te)(ho:PIp X op ti)(hf:X.fn x=true∨X.env.scope.names.lookup x=some .local:=by first | exact .inl rfl | exact .inr rfl | assumption):
 PS X (.AugAssign (.Name x pos') op e pos) (tAug i te ti):=by
 intro pins s σ H D I h
 obtain ⟨v,e1,h⟩:=h
 obtain ⟨m,hn,hl⟩:=I.loc
 have vis:Vis X.env.scope x:=by rcases hx with k | k;exact .inl k;exact .inr (.inl k)
 obtain ⟨u,r,l⟩:=hl i x v hi e1 vis
 refine wpAny_AugAssign_Name ?_
 have go:wpAny (model X.prog X.w) X.A (eval e X.env) (fun w s₂=>wpAny (model X.prog X.w) X.A (inplaceOp op u w) (fun r s₃=>wpAny (model X.prog X.w) X.A (storeName X.env x r) (fun _=>SP X pins D .next) X.xe s₃) X.xe s₂) X.xe s:=by
  refine thn (he pins s σ H _ I h) fun w s1 hq_=>?_
  obtain ⟨y,H1,I1,r1,q1⟩:=hq_
  refine thn (ho pins s1 σ H1 v y u w _ I1 r r1 q1) fun z s2 hq_=>?_
  obtain ⟨zv,H2,I2,r2,q2⟩:=hq_
  exact store_ok I2 hN hi hx r2 (fun s3 I3=>⟨_,H2,I3,q2⟩) hf
 rcases l with ⟨hk,hm⟩ | ⟨hk,c,hc,hcell⟩
 · exact wpAny_loadName_local I.ok.kind hk hn hm go
 · rcases hk with hk | hk
   · exact wpAny_loadName_cell I.ok.kind hk hc hcell go
   · rcases hx with k | k
     · have:X.env.scope.names.lookup x=some .free:=hk
       rw [k]at this;cases this
     · have:X.env.scope.names.lookup x=some .free:=hk
       rw [k]at this;cases this
noncomputable def ipI(f:Int→Int→Int):TIp:=fun x y H Q=>∃i j,x= .int i∧y= .int j∧Q (.int (f i j)) H
theorem ip_add:PIp X .Add (ipI fun i j=>i+j):=by
 intro pins s σ H x y v u Q I r1 r2 h
 obtain ⟨i,j,e1,e2,q⟩:=h
 subst e1;subst e2
 obtain ⟨t,rfl⟩:=r1
 obtain ⟨t',rfl⟩:=r2
 exact iadd_int ⟨.int _,H,I.tok _,⟨_,rfl⟩,q⟩
end
section
variable {X:Cx} {pos:Pos}
noncomputable def tWhile(c:TT)(tb:TS):TS:=fun D σ H=>∃W:Nat→St→Hp→Prop,(∃m,W m σ H)∧∀m σ H,W m σ H→
 c σ H fun b H1=>if b=true then ∃N:St→Hp→Prop,(∀σ' H',N σ' H'→∃m',m' < m∧W m' σ' H')∧tb {D with nx:=N,ct:=N,bk:=D.nx} σ H1 else D.nx σ H1
theorem ps_while{c:Expr}{body:List Stmt}{tc:TT}{tb:TS}(hp:PassesOwn (model X.prog X.w) X.A X.env X.xe)(hc:PT X c tc)(hb:PSs X body tb):PS X (.While c body [] pos) (tWhile tc tb):=by
 intro pins s σ H D I h
 obtain ⟨W,⟨m0,w0⟩,turn⟩:=h
 refine wpAny_While (codeAny_whileLoop (fun n s'=>∃σ' H',Inv X pins σ' H' s'∧W n σ' H') ?_ m0 ⟨σ,H,I,w0⟩)
 rintro n s1 ⟨σ1,H1,I1,w1⟩
 refine wpAny_passesOwn hp (thn (hc pins s1 σ1 H1 _ I1 (turn n σ1 H1 w1)) fun b s2 ⟨H2,I2,q2⟩=>?_)
 cases b with
 | true=>
  obtain ⟨N,hN,q2⟩:=q2
  rw [if_pos rfl]
  refine wpAny_passesOwn hp (thn (hb pins s2 σ1 H2 _ I2 q2) fun f s3 q3=>?_)
  cases f with
  | next=>
   obtain ⟨σ3,H3,I3,n3⟩:=q3
   obtain ⟨m',hm,w3⟩:=hN σ3 H3 n3
   exact ⟨m',hm,σ3,H3,I3,w3⟩
  | cont=>
   obtain ⟨σ3,H3,I3,n3⟩:=q3
   obtain ⟨m',hm,w3⟩:=hN σ3 H3 n3
   exact ⟨m',hm,σ3,H3,I3,w3⟩
  | brk=>exact q3
  | ret v=>exact q3
 | false=>
  rw [if_neg Bool.false_ne_true]
  exact wpAny_execs_nil ⟨σ1,H2,I2,q2⟩
end
structure It where
 go:Nat→Hp→Prop
 yld:Nat→Hp→V→Hp→Prop
 stop:Nat→Hp→Prop
noncomputable def FpOk(X:Cx)(pins:List (Addr×Obj))(H:Hp)(b:Addr):Prop:=
 H b=none∧b≠X.env.locals∧b∉X.fs∧(b∈X.ex∨X.s₀.heap.objs.size≤b)∧(∀x c,X.env.cells.lookup x=some c→c≠b)∧∀p∈X.pn++pins,p.1≠b
theorem Inv.fpOk{X:Cx}{pins:List (Addr×Obj)}{σ:St}{H H':Hp}{s:Shared}{b:Addr}(I:Inv X pins σ H s)(hb:s.heap.objs.size≤b)(hn:H' b=none):FpOk X pins H' b:=by
 refine ⟨hn,Nat.ne_of_gt (Nat.lt_of_lt_of_le I.lt hb),I.nofs hb,.inr (Nat.le_trans I.sz hb),fun x c e z=>?_,fun p hp z=>?_⟩
 · obtain ⟨v,q⟩:=I.cell x c e
   exact absurd (Nat.lt_of_lt_of_le q.lt (by rw [z];exact hb)) (Nat.lt_irrefl _)
 · exact absurd (Nat.lt_of_lt_of_le (Heap.lt_size (I.pin p hp).1) (by rw [z];exact hb)) (Nat.lt_irrefl _)
structure Turn(P:Program)(w:World)(K:PySem.W.Frag)(tg:Expr)(J:It)(fp:List Addr)(it:Addr)(tn:Nat→Heap→Prop):Prop where
 mem:it∈fp
 obj:∀i h,tn i h→∀b∈fp,∃o,h.get? b=some o∧∀v,o.data≠ .cell v
 keep:∀i h h',tn i h→(∀b∈fp,∀o,h.get? b=some o→h'.get? b=some o)→tn i h'
 item:∀(X:Cx),X.prog=P→X.w=w→X.K=K→X.calm=true→∀(i:Nat) (pins:List (Addr×Obj)) (s:Shared) (σ:St) (H:Hp) (E:Value→Shared→Prop),Inv X pins σ H s→(∀b∈fp,FpOk X pins H b)→tn i s.heap→J.go i H→
  wpAny (model P w) X.A (pyNext (.ref it)) (fun r s1=>∃u,r=some u∧
   wpAny (model P w) X.A (letOwnedTupleGo tg (.ref it) u) (fun _ s2=>∃x H',Inv X pins σ H' s2∧RelV x u∧J.yld i H x H'∧tn (i+1) s2.heap∧∀b∈fp,H' b=none) E s1) E s
 done:∀(X:Cx),X.prog=P→X.w=w→X.K=K→X.calm=true→∀(i:Nat) (pins:List (Addr×Obj)) (s:Shared) (σ:St) (H:Hp) (E:Value→Shared→Prop),Inv X pins σ H s→(∀b∈fp,FpOk X pins H b)→tn i s.heap→J.stop i H→
   wpAny (model P w) X.A (pyNext (.ref it)) (fun r s1=>r=none∧Inv X pins σ H s1) E s
 self:∀(A:Around) (i:Nat) (s:Shared) (Q:Value→Shared→Prop) (E:Value→Shared→Prop),tn i s.heap→Q (.ref it) s→wpAny (model P w) A (pyIter (.ref it)) Q E s
noncomputable abbrev TI:=St→Hp→(It→Hp→Prop)→Prop
noncomputable def PIE(X:Cx)(pins:List (Addr×Obj))(σ:St)(tg:Expr)(R:It→Hp→Prop)(itv:Value)(s2:Shared):Prop:=
 ∃(it:Addr) (fp:List Addr) (tn:Nat→Heap→Prop) (J:It) (H':Hp),itv= .ref it∧Inv X pins σ H' s2∧Turn X.prog X.w X.K tg J fp it tn∧tn 0 s2.heap∧(∀b∈fp,FpOk X pins H' b)∧R J H'
noncomputable def PI(X:Cx)(tg iter:Expr)(wi:TI):Prop:=
 ∀(pins:List (Addr×Obj)) (s:Shared) (σ:St) (H:Hp) (R:It→Hp→Prop),Inv X pins σ H s→wi σ H R→
   wpAny (model X.prog X.w) X.A (eval iter X.env) (fun v s1=>wpAny (model X.prog X.w) X.A (pyIter v) (PIE X pins σ tg R) X.xe s1) X.xe s
theorem go_of{M:Model}{A:Around}{E:Value→Shared→Prop}{s:Shared}{tg:Expr}{it:Addr}{u:Value}{o:Obj}{n:String}{vs:Array Value}{Q:Unit→Shared→Prop}(ho:s.heap.get? it=some o)(hc:o.cls= .type n)(hd:o.data= .fields vs)
 (hn:["enumerate","zip","dict_itemiterator","dict_reverseitemiterator","odict_iterator","itertools.zip_longest","itertools.pairwise"].contains n=false) (hQ:Q () s):wpAny M A (letOwnedTupleGo tg (.ref it) u) Q E s:=by
 unfold letOwnedTupleGo
 cases tg <;> first
  | exact wpAny_pure hQ
  | (cases u <;> first
   | exact wpAny_pure hQ
   | (refine wpAny_bind (wpAny_load ho ?_)
      rw [hc,hd]
      show wpAny M A (if (["enumerate","zip","dict_itemiterator","dict_reverseitemiterator","odict_iterator","itertools.zip_longest","itertools.pairwise"].contains n && vs[0]?==some (rawInt _))=true then _ else _) Q E s
      rw [if_neg (by intro h;rw [hn,Bool.false_and]at h;cases h)]
      exact wpAny_pure hQ))
noncomputable def Itl(K:PySem.W.Frag)(a:Addr):It:=
 ⟨fun i H=>∃xs x,SqL K H a xs∧xs[i]?=some x,fun i H x H'=>H'=H∧∀xs,SqL K H a xs→xs[i]?=some x,fun i H=>∃xs,SqL K H a xs∧xs.length≤i⟩
noncomputable def Itt(K:PySem.W.Frag)(a:Addr):It:=
 ⟨fun i H=>∃xs x,SqT K H a xs∧xs[i]?=some x,fun i H x H'=>H'=H∧∀xs,SqT K H a xs→xs[i]?=some x,fun i H=>∃xs,SqT K H a xs∧xs.length≤i⟩
noncomputable def Itr(lo:Int)(n:Nat):It:=⟨fun i _=>i < n,fun i H x H'=>H'=H∧x= .int (lo+i),fun i _=>n≤i⟩
theorem turn_list{P:Program}{w:World}{K:PySem.W.Frag}{tg:Expr}(a it:Addr):Turn P w K tg (Itl K a) [it] it (fun i h=>h.IsListIter it a i) where
 mem:=by simp
 obj:=fun i h st b hb=>by
  have e:b=it:=by simpa using hb
  subst e
  obtain ⟨o,e,c,d⟩:=st
  exact ⟨o,e,fun v z=>by rw [d]at z;cases z⟩
 keep:=fun i h h' st k=>st.at fun o e=>k it (by simp) o e
 item:=by
  intro X hP hw hK hc i pins s σ H E I hf st hg
  subst hP hw hK
  obtain ⟨xs,x,hq,hx⟩:=hg
  obtain ⟨its,rv,p,hz⟩:=I.list hq
  obtain ⟨u,hu,ru⟩:=rv.get hx
  obtain ⟨f0,f1,f2,f3,f4,f5⟩:=hf it (by simp)
  refine wpAny_pyNext_list_item st p.isList (x:=u) (by simpa using hu) fun h' st' sb=>?_
  have I1:Inv X pins σ H {s with heap:=h'}:=I.turned (t':=s.toks) (fun b o hb e=>(sb.2 b hb).trans e) f0 f1 f3 f4 f5
  obtain ⟨o,e,c,d⟩:=id st'
  exact ⟨u,rfl,go_of (s:={s with heap:=h'}) e c d (by decide) ⟨x,H,I1,ru,⟨rfl,fun ys hy=>by rw [I.list_inj hy hq];exact hx⟩,st',fun b hb=>(hf b hb).1⟩⟩
 done:=by
   intro X hP hw hK hc i pins s σ H E I hf st hg
   subst hP hw hK
   obtain ⟨xs,hq,hx⟩:=hg
   obtain ⟨its,rv,p,hz⟩:=I.list hq
   obtain ⟨f0,f1,f2,f3,f4,f5⟩:=hf it (by simp)
   have hl:=rv.length
   exact wpAny_pyNext_list_end (I.ok.hd hc) st p.isList (by simp;omega) fun h' eb=>⟨rfl,I.turned (t':=s.toks) (fun b o hb e=>eb b o hb e) f0 f1 f3 f4 f5⟩
 self:=fun _ _ _ _ _ st h=>wpAny_pyIter_listiter st h
theorem turn_range{P:Program}{w:World}{K:PySem.W.Frag}{tg:Expr}(it:Addr)(lo:Int)(n:Nat):Turn P w K tg (Itr lo n) [it] it (fun i h=>IsRangeIter h it (lo+(i:Nat) * 1) ((n:Int) - (i:Nat)) 1) where
 mem:=by simp
 obj:=fun i h st b hb=>by
  have e:b=it:=by simpa using hb
  subst e
  exact ⟨_,st,fun v z=>by
   have z':Data.fields _=Data.cell v:=z
   cases z'⟩
 keep:=fun i h h' st k=>k it (by simp) _ st
 item:=by
  intro X hP hw hK hc i pins s σ H E I hf st hg
  subst hP hw hK
  obtain ⟨f0,f1,f2,f3,f4,f5⟩:=hf it (by simp)
  have W:=Walks.range (prog:=X.prog) (w:=X.w) (I.ok.hd hc) it lo 1 n
  refine W.item i s _ _ hg st fun v h' tk hv st' kk=>?_
  obtain ⟨t,rfl⟩:=hv
  have I1:Inv X pins σ H {s with heap:=h',toks:=tk}:=I.turned (fun b o hb e=>kk b o (by simpa using hb) e) f0 f1 f3 f4 f5
  refine ⟨_,rfl,go_of (s:={s with heap:=h',toks:=tk}) (n:="range_iterator") st' rfl rfl (by decide) ⟨.int (lo+i),H,I1,⟨t,?_⟩,⟨rfl,rfl⟩,st',fun b hb=>(hf b hb).1⟩⟩
  rw [Int.mul_one]
 done:=by
   intro X hP hw hK hc i pins s σ H E I hf st hg
   subst hP hw hK
   obtain ⟨f0,f1,f2,f3,f4,f5⟩:=hf it (by simp)
   exact wpAny_pyNext_range_end (I.ok.hd hc) st (by have:n≤i:=hg;omega) fun h' eb=>⟨rfl,I.turned (t':=s.toks) (fun b o hb e=>eb b o hb e) f0 f1 f3 f4 f5⟩
 self:=fun _ _ _ _ _ st h=>wpAny_pyIter_rangeiter st h
end L2
namespace L2
section
variable {X:Cx} {tg:Expr}
noncomputable def iList(K:PySem.W.Frag)(tl:TE):TI:=fun σ H R=>tl σ H fun x H1=>∃a,x= .ref a∧(∃xs,SqL K H1 a xs)∧R (Itl K a) H1
noncomputable def iTup(K:PySem.W.Frag)(tl:TE):TI:=fun σ H R=>tl σ H fun x H1=>∃a,x= .ref a∧(∃xs,SqT K H1 a xs)∧R (Itt K a) H1
theorem pi_list{l:Expr}{tl:TE}(hl:PE X l tl):PI X tg l (iList X.K tl):=by
 intro pins s σ H R I h
 refine thn (hl pins s σ H _ I h) fun v s1 hq_=>?_
 obtain ⟨x,H1,I1,r1,q1⟩:=hq_
 obtain ⟨a,e,⟨xs,hq⟩,q⟩:=q1
 subst e
 cases r1
 obtain ⟨its,rv,p,hz⟩:=I1.list hq
 refine wpAny_pyIter_list p.isList ?_
 refine ⟨s1.heap.objs.size,[s1.heap.objs.size],_,_,H1,rfl,I1.kept (t':=s1.toks) fun b o e=>Heap.get?_push_of_some _ e,turn_list a _,⟨_,Heap.get?_push_size _ rfl,rfl,rfl⟩,fun b hb=>?_,q⟩
 have e:b=s1.heap.objs.size:=by simpa using hb
 subst e
 exact I1.fpOk (Nat.le_refl _) (I1.hok.fresh (Nat.le_refl _))
theorem range_it{pins:List (Addr×Obj)}{σ:St}{H:Hp}{s:Shared}{R:It→Hp→Prop}{E:Value→Shared→Prop}{lo hi:Int}{t u v:Tok}{tk:Nat}(I:Inv X pins σ H s)(h1:-(2 ^ 62)≤lo)(h2:lo < 2 ^ 62)(h3:-(2 ^ 62)≤hi)(h4:hi < 2 ^ 62)
 (q:R (Itr lo (hi - lo).toNat) H):wpAny (model X.prog X.w) X.A (pyIter (.ref s.heap.objs.size)) (PIE X pins σ tg R) E {s with heap:=s.heap.push {cls:= .type "range",data:= .fields #[.int lo t,.int hi u,.int 1 v]},toks:=tk}:=by
 refine wpAny_pyIter_range (IsRange.new ..) (small_one h1 h2 h3 h4) ?_
 have I1:Inv X pins σ H {s with heap:=s.heap.push {cls:= .type "range",data:= .fields #[.int lo t,.int hi u,.int 1 v]},toks:=tk}:=I.kept fun b o e=>Heap.get?_push_of_some _ e
 refine ⟨(s.heap.push {cls:= .type "range",data:= .fields #[.int lo t,.int hi u,.int 1 v]}).objs.size,[(s.heap.push {cls:= .type "range",data:= .fields #[.int lo t,.int hi u,.int 1 v]}).objs.size],_,_,H,rfl,
  I1.kept (t':=tk) fun b o e=>Heap.get?_push_of_some _ e,turn_range _ lo (hi - lo).toNat,?_,fun b hb=>?_,q⟩
 · have e1:lo+((0:Nat):Int) * 1=lo:=by simp
   have e2:(((hi - lo).toNat:Nat):Int) - ((0:Nat):Int)=Builtin.Range.rangeSize lo hi 1:=by rw [rangeSize_one];split <;> omega
   show IsRangeIter _ _ (lo+((0:Nat):Int) * 1) ((((hi - lo).toNat:Nat):Int) - ((0:Nat):Int)) 1
   rw [e1,e2]
   exact Heap.get?_push_size _ rfl
 · have e:b=(s.heap.push {cls:= .type "range",data:= .fields #[.int lo t,.int hi u,.int 1 v]}).objs.size:=by simpa using hb
   subst e
   exact I1.fpOk (Nat.le_refl _) (I1.hok.fresh (Nat.le_refl _))
noncomputable def iRng1(ta:TA):TI:=fun σ H R=>ta σ H fun vs H1=>∃j:Int,vs=[.int j]∧-(2 ^ 62)≤j∧j < 2 ^ 62∧R (Itr 0 j.toNat) H1
noncomputable def iRng2(ta:TA):TI:=fun σ H R=>ta σ H fun vs H1=>∃i j:Int,vs=[.int i,.int j]∧(-(2 ^ 62)≤i∧i < 2 ^ 62∧-(2 ^ 62)≤j∧j < 2 ^ 62)∧R (Itr i (j - i).toNat) H1
theorem pi_range1{a:Expr}{ta:TA}{p pos:Pos}(hg:Gl X "range")(hm:X.mg "range"=none)(ha:PA X [a] ta)(hs:starEach [a] X.env=[(false,eval a X.env)]:=by rfl):PI X tg (.Call (.Name "range" p) [a] [] pos) (iRng1 ta):=by
 intro pins s σ H R I h
 refine Call_ (ld_blt I hg hm boot_range (PyProof.Rows.callWith_type1 (thn (ha pos pins s σ H _ I h) fun us s1 hq_=>?_) hs rfl))
 obtain ⟨vs,H1,I1,r1,q1⟩:=hq_
 obtain ⟨j,e,q1,q2,q⟩:=q1
 subst e
 cases r1 with
 | cons r rr=>
  cases rr
  obtain ⟨t,rfl⟩:=r
  exact call_range_1 (range_it I1 (by omega) (by omega) q1 q2 (by simpa using q))
theorem pi_range2{a b:Expr}{ta:TA}{p pos:Pos}(hg:Gl X "range")(hm:X.mg "range"=none)(ha:PA X [a,b] ta)(hs:starEach [a,b] X.env=[(false,eval a X.env),(false,eval b X.env)]:=by rfl)(hs2:starEach [b] X.env=[(false,eval b X.env)]:=by rfl):
 PI X tg (.Call (.Name "range" p) [a,b] [] pos) (iRng2 ta):=by
 intro pins s σ H R I h
 refine Call_ (ld_blt I hg hm boot_range (PyProof.Rows.callWith_type1 (thn (ha pos pins s σ H _ I h) fun us s1 ⟨vs,H1,I1,r1,q1⟩=>?_) (by rw [hs,hs2]) (by rw [hs2];rfl)))
 obtain ⟨i,j,e,⟨q1,q2,q3,q4⟩,q⟩:=q1
 subst e
 cases r1 with
 | cons r rr=>
  cases rr with
  | cons r' rr=>
   cases rr
   obtain ⟨t,rfl⟩:=r
   obtain ⟨t',rfl⟩:=r'
   exact call_range_2 (range_it I1 q1 q2 q3 q4 q)
noncomputable def tFor(wi:TI)(g:TG)(tb:TS):TS:=fun D σ H=>wi σ H fun J H1=>∃W:Nat→Nat→St→Hp→Prop,(∃m,W 0 m σ H1)∧∀i m σ H,W i m σ H→
 (J.stop i H∧D.nx σ H)∨(J.go i H∧∃N:St→Hp→Prop,(∀σ' H',N σ' H'→∃m',m' < m∧W (i+1) m' σ' H')∧∀x H',J.yld i H x H'→g x σ H' fun σ2 H2=>tb {D with nx:=N,ct:=N,bk:=D.nx} σ2 H2)
noncomputable def pinsAt(fp:List Addr)(h:Heap):List (Addr×Obj):=fp.filterMap fun b=>(h.get? b).map fun o=>(b,o)
theorem mem_pinsAt{fp:List Addr}{h:Heap}{b:Addr}{o:Obj}(hb:b∈fp)(e:h.get? b=some o):(b,o)∈pinsAt fp h:=List.mem_filterMap.mpr ⟨b,hb,by rw [e];rfl⟩
theorem of_pinsAt{fp:List Addr}{h:Heap}{p:Addr×Obj}(hp:p∈pinsAt fp h):p.1∈fp∧h.get? p.1=some p.2:=by
 obtain ⟨b,hb,e⟩:=List.mem_filterMap.mp hp
 cases q:h.get? b with
 | none=>rw [q]at e;cases e
 | some o=>
  rw [q]at e
  have e':(b,o)=p:=Option.some.inj e
  subst e'
  exact ⟨hb,q⟩
theorem Inv.pinned{pins:List (Addr×Obj)}{σ:St}{H:Hp}{s:Shared}{fp:List Addr}(I:Inv X pins σ H s)(hf:∀b∈fp,FpOk X pins H b)(ho:∀b∈fp,∃o,s.heap.get? b=some o∧∀v,o.data≠ .cell v):Inv X (pins++pinsAt fp s.heap) σ H s:=
 I.pins_of fun p hp=>(List.mem_append.mp hp).elim (fun z=>I.pin p (List.mem_append_right _ z)) fun z=>by
  obtain ⟨hb,e⟩:=of_pinsAt z
  obtain ⟨f0,f1,f2,_⟩:=hf p.1 hb
  obtain ⟨o,e',d⟩:=ho p.1 hb
  rw [e]at e';cases e'
  exact ⟨e,f0,f1,f2,d⟩
theorem Inv.unpinned{pins pl:List (Addr×Obj)}{σ:St}{H:Hp}{s:Shared}(I:Inv X (pins++pl) σ H s):Inv X pins σ H s:=I.pins_of fun p hp=>I.pin p (List.mem_append_right _ (List.mem_append_left _ hp))
theorem ps_for{iter:Expr}{body:List Stmt}{wi:TI}{g:TG}{tb:TS}{pos:Pos}(hp:PassesOwn (model X.prog X.w) X.A X.env X.xe)(hc:X.calm=true)(hi:PI X tg iter wi)(hg:PG X tg g)(hb:PSs X body tb)
 (hs:∀x,foldedSetIterable iter X.env x=pure x:=by intro _;rfl):PS X (.For tg iter body [] pos) (tFor wi g tb):=by
 intro pins s σ H D I h
 refine wpAny_For (thn (hi pins s σ H _ I h) fun v s1 h1=>thn h1 fun itv s2 h2=>?_) hs
 obtain ⟨it,fp,tn,J,H2,e,I2,T,st2,f2,W,⟨m0,w0⟩,turn⟩:=h2
 subst e
 have stat:∀{H':Hp},(∀b∈fp,H' b=none)→∀b∈fp,FpOk X pins H' b:=fun hn b hb=>⟨hn b hb,(f2 b hb).2⟩
 refine codeAny_forLoop_any (fun n s'=>∃i σ' H',Inv X pins σ' H' s'∧tn i s'.heap∧(∀b∈fp,H' b=none)∧W i n σ' H') ?_ m0 ⟨0,σ,H2,I2,st2,fun b hb=>(f2 b hb).1,w0⟩
 rintro n s3 ⟨i,σ3,H3,I3,st3,fr3,w3⟩
 rcases turn i n σ3 H3 w3 with ⟨stop,qn⟩ | ⟨go,N,hN,step⟩
 · refine wpAny_passesOwn hp (thn (T.done X rfl rfl rfl hc i pins s3 σ3 H3 X.xe I3 (stat fr3) st3 stop) fun r s4 ⟨hr,I4⟩=>?_)
   subst hr
   exact wpAny_execs_nil ⟨σ3,H3,I4,qn⟩
 · refine wpAny_passesOwn hp (thn (T.item X rfl rfl rfl hc i pins s3 σ3 H3 X.xe I3 (stat fr3) st3 go) fun r s4 ⟨u,hr,h4⟩=>?_)
   subst hr
   refine wpAny_passesOwn hp (thn h4 fun _ s5 hq_=>?_)
   obtain ⟨x,H5,I5,r5,y5,st5,fr5⟩:=hq_
   have I5':=I5.pinned (stat fr5) (T.obj _ _ st5)
   refine wpAny_passesOwn hp (thn (hg _ s5 σ3 H5 x u _ I5' r5 (step x H5 y5)) fun _ s6 hq_=>?_)
   obtain ⟨σ6,H6,I6,q6⟩:=hq_
   refine wpAny_passesOwn hp (thn (hb _ s6 σ6 H6 _ I6 q6) fun f s7 q7=>?_)
   have again:∀{σ7:St} {H7:Hp},Inv X (pins++pinsAt fp s5.heap) σ7 H7 s7→N σ7 H7→∃m,m < n∧∃i σ' H',Inv X pins σ' H' s7∧tn i s7.heap∧(∀b∈fp,H' b=none)∧W i m σ' H':=fun {σ7 H7} I7 n7=>by
    obtain ⟨m',hm,w7⟩:=hN σ7 H7 n7
    refine ⟨m',hm,i+1,σ7,H7,I7.unpinned,T.keep _ _ _ st5 fun b hb o e=>(I7.pin (b,o) (List.mem_append_right _ (List.mem_append_right _ (mem_pinsAt hb e)))).1,fun b hb=>?_,w7⟩
    obtain ⟨o,e,d⟩:=T.obj _ _ st5 b hb
    exact (I7.pin (b,o) (List.mem_append_right _ (List.mem_append_right _ (mem_pinsAt hb e)))).2.1
   cases f with
   | next=>obtain ⟨σ7,H7,I7,n7⟩:=q7;exact again I7 n7
   | cont=>obtain ⟨σ7,H7,I7,n7⟩:=q7;exact again I7 n7
   | brk=>obtain ⟨σ7,H7,I7,q7⟩:=q7;exact ⟨σ7,H7,I7.unpinned,q7⟩
   | ret v=>obtain ⟨x7,σ7,H7,I7,r7,q7⟩:=q7;exact ⟨x7,σ7,H7,I7.unpinned,r7,q7⟩
end
theorem for_list{K:PySem.W.Frag}{a:Addr}{xs:List V}{g:TG}{tb:TS}{D:Ends}{σ:St}{H:Hp}(Pv:Nat→St→Hp→Prop)(h0:Pv 0 σ H)(hl:∀i σ H,i≤xs.length→Pv i σ H→SqL K H a xs)
 (hs:∀i x σ H,xs[i]?=some x→Pv i σ H→g x σ H fun σ2 H2=>tb {D with nx:=Pv (i+1),ct:=Pv (i+1),bk:=D.nx} σ2 H2) (hd:∀σ H,Pv xs.length σ H→D.nx σ H):
 ∃W:Nat→Nat→St→Hp→Prop,(∃m,W 0 m σ H)∧∀i m σ H,W i m σ H→
  ((Itl K a).stop i H∧D.nx σ H)∨((Itl K a).go i H∧∃N:St→Hp→Prop,(∀σ' H',N σ' H'→∃m',m' < m∧W (i+1) m' σ' H')∧∀x H',(Itl K a).yld i H x H'→g x σ H' fun σ2 H2=>tb {D with nx:=N,ct:=N,bk:=D.nx} σ2 H2):=by
 refine ⟨fun i m σ H=>m=xs.length - i∧i≤xs.length∧Pv i σ H,⟨xs.length,by simp,Nat.zero_le _,h0⟩,?_⟩
 rintro i m σ H ⟨rfl,hi,p⟩
 have q:=hl i σ H hi p
 by_cases hlt:i < xs.length
 · refine .inr ⟨⟨xs,xs[i],q,by simp [hlt]⟩,Pv (i+1),fun σ' H' p'=>⟨xs.length - (i+1),by omega,rfl,hlt,p'⟩,fun x H' y=>?_⟩
   obtain ⟨e,y⟩:=y
   subst e
   exact hs i x σ _ (y xs q) p
 · have e:i=xs.length:=by omega
   subst e
   exact .inl ⟨⟨xs,q,Nat.le_refl _⟩,hd σ H p⟩
theorem for_range{lo:Int}{n:Nat}{g:TG}{tb:TS}{D:Ends}{σ:St}{H:Hp}(Pv:Nat→St→Hp→Prop)(h0:Pv 0 σ H)
 (hs:∀i σ H,i < n→Pv i σ H→g (.int (lo+i)) σ H fun σ2 H2=>tb {D with nx:=Pv (i+1),ct:=Pv (i+1),bk:=D.nx} σ2 H2) (hd:∀σ H,Pv n σ H→D.nx σ H):
 ∃W:Nat→Nat→St→Hp→Prop,(∃m,W 0 m σ H)∧∀i m σ H,W i m σ H→
  ((Itr lo n).stop i H∧D.nx σ H)∨((Itr lo n).go i H∧∃N:St→Hp→Prop,(∀σ' H',N σ' H'→∃m',m' < m∧W (i+1) m' σ' H')∧∀x H',(Itr lo n).yld i H x H'→g x σ H' fun σ2 H2=>tb {D with nx:=N,ct:=N,bk:=D.nx} σ2 H2):=by
 refine ⟨fun i m σ H=>m=n - i∧i≤n∧Pv i σ H,⟨n,by simp,Nat.zero_le _,h0⟩,?_⟩
 rintro i m σ H ⟨rfl,hi,p⟩
 by_cases hlt:i < n
 · refine .inr ⟨hlt,Pv (i+1),fun σ' H' p'=>⟨n - (i+1),by omega,rfl,hlt,p'⟩,fun x H' y=>?_⟩
   obtain ⟨e,y⟩:=y
   subst e y
   exact hs i σ _ hlt p
 · have e:i=n:=by omega
   subst e
   exact .inl ⟨Nat.le_refl _,hd σ H p⟩
end L2
namespace L2
noncomputable abbrev R2:=V→V→Hp→VK→Prop
noncomputable def OpR(X:Cx)(f:Value→Value→Sem Value)(r:R2):Prop:=
 ∀(pins:List (Addr×Obj)) (s:Shared) (σ:St) (H:Hp) (x y:V) (v u:Value) (Q:VK),Inv X pins σ H s→RelV x v→RelV y u→r x y H Q→
   wpAny (model X.prog X.w) X.A (f v u) (EP X pins σ Q) X.xe s
noncomputable def UnR(X:Cx)(f:Value→Sem Value)(r:V→Hp→VK→Prop):Prop:=
 ∀(pins:List (Addr×Obj)) (s:Shared) (σ:St) (H:Hp) (x:V) (v:Value) (Q:VK),Inv X pins σ H s→RelV x v→r x H Q→
   wpAny (model X.prog X.w) X.A (f v) (EP X pins σ Q) X.xe s
noncomputable def CallR(X:Cx)(f:Value)(r:List V→Hp→VK→Prop):Prop:=
 ∀(pins:List (Addr×Obj)) (s:Shared) (σ:St) (H:Hp) (xs:List V) (us:List Value) (Q:VK),Inv X pins σ H s→Vals xs us→r xs H Q→
   wpAny (model X.prog X.w) X.A (call f us) (EP X pins σ Q) X.xe s
noncomputable def tOp(r:R2)(ta tb:TE):TE:=fun σ H Q=>ta σ H fun x H1=>tb σ H1 fun y H2=>r x y H2 Q
noncomputable def tUn(r:V→Hp→VK→Prop)(ta:TE):TE:=fun σ H Q=>ta σ H fun x H1=>r x H1 Q
noncomputable def rI(C:Int→Int→Prop)(g:Int→Int→V):R2:=fun x y H Q=>∃i j,x= .int i∧y= .int j∧C i j∧Q (g i j) H
noncomputable def rI0(g:Int→Int→V):R2:=fun x y H Q=>∃i j,x= .int i∧y= .int j∧Q (g i j) H
noncomputable def rU(g:Int→V):V→Hp→VK→Prop:=fun x H Q=>∃i,x= .int i∧Q (g i) H
section
variable {X:Cx} {a b c:Expr} {ta tb tc:TE} {pos:Pos}
theorem binT(ha:PE X a ta)(hb:PE X b tb){pins:List (Addr×Obj)}{s:Shared}{σ:St}{H:Hp}{R:V→V→Hp→Prop}(I:Inv X pins σ H s)
 (h:ta σ H fun x H1=>tb σ H1 fun y H2=>R x y H2) {Q:Value→Shared→Prop} {f:Value→Value→Sem Value}
 (hf:∀v u s2 x y H2,Inv X pins σ H2 s2→RelV x v→RelV y u→R x y H2→wpAny (model X.prog X.w) X.A (f v u) Q X.xe s2):
 wpAny (model X.prog X.w) X.A (eval a X.env) (fun v s₁=>wpAny (model X.prog X.w) X.A (eval b X.env) (fun u s₂=>wpAny (model X.prog X.w) X.A (f v u) Q X.xe s₂) X.xe s₁) X.xe s:=by
 refine thn (ha pins s σ H _ I h) fun v s1 hq_=>?_
 obtain ⟨x,H1,I1,r1,q1⟩:=hq_
 refine thn (hb pins s1 σ H1 _ I1 q1) fun u s2 hq_=>?_
 obtain ⟨y,H2,I2,r2,q2⟩:=hq_
 exact hf v u s2 x y H2 I2 r1 r2 q2
theorem pe_op{op:Operator}{r:R2}(ho:OpR X (binaryOp op) r)(ha:PE X a ta)(hb:PE X b tb):PE X (.BinOp a op b pos) (tOp r ta tb):=by
 intro pins s σ H Q I h
 exact wpAny_BinOp (binT ha hb I h fun v u s2 x y H2 I2 rx ry q=>ho pins s2 σ H2 x y v u Q I2 rx ry q)
theorem pe_un{op:UnaryOp}{r:V→Hp→VK→Prop}(ho:UnR X (unaryOp op) r)(ha:PE X a ta):PE X (.UnaryOp op a pos) (tUn r ta):=by
 intro pins s σ H Q I h
 exact UnaryOp_ (thn (ha pins s σ H _ I h) fun v s1 ⟨x,H1,I1,r1,q1⟩=>ho pins s1 σ H1 x v Q I1 r1 q1)
theorem opI{f:Value→Value→Sem Value}{C:Int→Int→Prop}{g:Int→Int→Int}
 (rule:∀(i j:Int) (t u:Tok) (s:Shared) (Q:Value→Shared→Prop) (E:Value→Shared→Prop),C i j→Q (.int (g i j) s.toks) {s with toks:=s.toks+1}→wpAny (model X.prog X.w) X.A (f (.int i t) (.int j u)) Q E s):
 OpR X f (rI C fun i j=> .int (g i j)):=by
 intro pins s σ H x y v u Q I rx ry h
 obtain ⟨i,j,rfl,rfl,hc,q⟩:=h
 obtain ⟨t,rfl⟩:=rx
 obtain ⟨t',rfl⟩:=ry
 exact rule i j t t' s _ _ hc ⟨.int (g i j),H,I.tok _,⟨_,rfl⟩,q⟩
theorem opI0{f:Value→Value→Sem Value}{g:Int→Int→Int}
 (rule:∀(i j:Int) (t u:Tok) (s:Shared) (Q:Value→Shared→Prop) (E:Value→Shared→Prop),Q (.int (g i j) s.toks) {s with toks:=s.toks+1}→wpAny (model X.prog X.w) X.A (f (.int i t) (.int j u)) Q E s):
 OpR X f (rI0 fun i j=> .int (g i j)):=by
 intro pins s σ H x y v u Q I rx ry h
 obtain ⟨i,j,rfl,rfl,q⟩:=h
 obtain ⟨t,rfl⟩:=rx
 obtain ⟨t',rfl⟩:=ry
 exact rule i j t t' s _ _ ⟨.int (g i j),H,I.tok _,⟨_,rfl⟩,q⟩
theorem opB0{f:Value→Value→Sem Value}{g:Int→Int→Bool}
 (rule:∀(i j:Int) (t u:Tok) (s:Shared) (Q:Value→Shared→Prop) (E:Value→Shared→Prop),Q (.bool (g i j)) s→wpAny (model X.prog X.w) X.A (f (.int i t) (.int j u)) Q E s):
 OpR X f (rI0 fun i j=> .bl (g i j)):=by
 intro pins s σ H x y v u Q I rx ry h
 obtain ⟨i,j,rfl,rfl,q⟩:=h
 obtain ⟨t,rfl⟩:=rx
 obtain ⟨t',rfl⟩:=ry
 exact rule i j t t' s _ _ ⟨.bl (g i j),H,I,rfl,q⟩
noncomputable def CDiv(i j:Int):Prop:=0 < j∧j < 1073741824
noncomputable def CPow(i j:Int):Prop:=0≤j∧j≤1000000∧i.natAbs < 2 ^ 64
noncomputable def CMul(i j:Int):Prop:=(-(2 ^ 64) < i∧i < 2 ^ 64)∨(-(2 ^ 64) < j∧j < 2 ^ 64)
theorem CMul.ok{i j:Int}(h:CMul i j):IntMulOk i j:=by
 rcases h with ⟨h1,h2⟩ | ⟨h1,h2⟩
 · exact .of_left (intBits_le_64 h1 h2)
 · exact .of_right (intBits_le_64 h1 h2)
theorem op_add:OpR X (binaryOp .Add) (rI0 fun i j=> .int (i+j)):=opI0 fun _ _ _ _ _ _ _ q=>add_int q
theorem op_sub:OpR X (binaryOp .Sub) (rI0 fun i j=> .int (i - j)):=opI0 fun _ _ _ _ _ _ _ q=>sub_int q
theorem op_mul:OpR X (binaryOp .Mult) (rI CMul fun i j=> .int (i * j)):=opI fun _ _ _ _ _ _ _ hc q=>mul_int q hc.ok
theorem op_fdiv:OpR X (binaryOp .FloorDiv) (rI CDiv fun i j=> .int (i / j)):=opI fun i j _ _ _ _ _ hc q=>by
 have h1:(0:Int) < j:=hc.1
 have h2:j < 1073741824:=hc.2
 exact floordiv_int (by omega) (by rw [Int.fdiv_eq_ediv_of_nonneg i (by omega)];exact q) (.inl (PyProof.noPylong_small (by omega)))
theorem op_mod:OpR X (binaryOp .Mod) (rI (fun _ j=>0 < j) fun i j=> .int (i % j)):=opI fun i j _ _ _ _ _ hc q=>by
 have h1:(0:Int) < j:=hc
 exact mod_int' (by omega) (by rw [Int.fmod_eq_emod_of_nonneg i (by omega)];exact q)
theorem op_pow:OpR X (binaryOp .Pow) (rI CPow fun i j=> .int (i ^ j.toNat)):=opI fun _ _ _ _ _ _ _ hc q=>pow_int_small hc.1 hc.2.1 hc.2.2 q
theorem unI{f:Value→Sem Value}{g:Int→Int}
 (rule:∀(i:Int) (t:Tok) (s:Shared) (Q:Value→Shared→Prop) (E:Value→Shared→Prop),Q (.int (g i) s.toks) {s with toks:=s.toks+1}→wpAny (model X.prog X.w) X.A (f (.int i t)) Q E s):
 UnR X f (rU fun i=> .int (g i)):=by
 intro pins s σ H x v Q I rx h
 obtain ⟨i,rfl,q⟩:=h
 obtain ⟨t,rfl⟩:=rx
 exact rule i t s _ _ ⟨.int (g i),H,I.tok _,⟨_,rfl⟩,q⟩
theorem un_neg:UnR X (unaryOp .USub) (rU fun i=> .int (-i)):=unI fun _ _ _ _ _ q=>neg_int q
end
noncomputable def scal:V→V→Bool
 | .non,.non=>true | .non,.int _=>true | .int _,.non=>true | .non,.bl _=>true | .bl _,.non=>true | .non,.str _=>true | .str _,.non=>true
 | .int _,.int _=>true | .bl _,.bl _=>true | .str _,.str _=>true | .byt _,.byt _=>true
 | .int _,.str _=>true | .str _,.int _=>true | .bl _,.str _=>true | .str _,.bl _=>true
 | _,_=>false
noncomputable def rEq:R2:=fun x y H Q=>scal x y=true∧Q (.bl (decide (x=y))) H
noncomputable def rNe:R2:=fun x y H Q=>scal x y=true∧Q (.bl (!decide (x=y))) H
theorem dec_int{i j:Int}:decide (V.int i=V.int j)=(i==j):=by
 rw [Bool.eq_iff_iff]
 simp
theorem dec_bl{i j:Bool}:decide (V.bl i=V.bl j)=(i==j):=by
 rw [Bool.eq_iff_iff]
 simp
theorem dec_str{i j:Str}:decide (V.str i=V.str j)=(i==j):=by
 rw [Bool.eq_iff_iff]
 simp
theorem dec_byt{i j:Array UInt8}:decide (V.byt i=V.byt j)=(i.toList==j.toList):=by
 rw [Bool.eq_iff_iff]
 cases i
 cases j
 simp
section
variable {X:Cx} {a b c:Expr} {ta tb tc:TE} {pos:Pos}
theorem fin_bl{pins:List (Addr×Obj)}{σ:St}{H:Hp}{s:Shared}{Q:VK}{k k':Bool}(I:Inv X pins σ H s)(q:Q (.bl k) H)(e:k=k'):EP X pins σ Q (.bool k') s:=by
 subst e
 exact ⟨.bl k,H,I,rfl,q⟩
theorem op_eq:OpR X (compareOp .Eq) rEq:=by
 intro pins s σ H x y v u Q I rx ry h
 obtain ⟨hs,q⟩:=h
 cases x with
 | non=>
  cases rx
  cases y with
  | non=>cases ry;exact PySem.EqNone.eq_none_none (fin_bl I q (by simp))
  | bl j=>cases ry;exact PySem.EqNone.eq_none_bool (fin_bl I q (by simp))
  | int j=>obtain ⟨t',rfl⟩:=ry;exact PySem.EqNone.eq_none_int (fin_bl I q (by simp))
  | str j=>obtain ⟨t',rfl⟩:=ry;exact PySem.EqNone.eq_none_str (fin_bl I q (by simp))
  | _=>exact absurd (show false=true from hs) Bool.false_ne_true
 | bl i=>
  cases rx
  cases y with
  | non=>cases ry;exact PySem.EqNone.eq_bool_none (fin_bl I q (by simp))
  | bl j=>cases ry;exact eq_bool (fin_bl I q dec_bl)
  | str j=>obtain ⟨t',rfl⟩:=ry;exact PySem.EqMixed.eq_bool_str (fin_bl I q (by simp))
  | _=>exact absurd (show false=true from hs) Bool.false_ne_true
 | int i=>
  obtain ⟨t,rfl⟩:=rx
  cases y with
  | non=>cases ry;exact PySem.EqNone.eq_int_none (fin_bl I q (by simp))
  | int j=>obtain ⟨t',rfl⟩:=ry;exact eq_int (fin_bl I q dec_int)
  | str j=>obtain ⟨t',rfl⟩:=ry;exact PySem.EqMixed.eq_int_str (fin_bl I q (by simp))
  | _=>exact absurd (show false=true from hs) Bool.false_ne_true
 | str i=>
  obtain ⟨t,rfl⟩:=rx
  cases y with
  | non=>cases ry;exact PySem.EqNone.eq_str_none (fin_bl I q (by simp))
  | bl j=>cases ry;exact PySem.EqMixed.eq_str_bool (fin_bl I q (by simp))
  | int j=>obtain ⟨t',rfl⟩:=ry;exact PySem.EqMixed.eq_str_int (fin_bl I q (by simp))
  | str j=>obtain ⟨t',rfl⟩:=ry;exact eq_str (fin_bl I q dec_str)
  | _=>exact absurd (show false=true from hs) Bool.false_ne_true
 | byt i=>
  obtain ⟨t,rfl⟩:=rx
  cases y with
  | byt j=>obtain ⟨t',rfl⟩:=ry;exact PySem.W.eq_bytes (fin_bl I q dec_byt)
  | _=>exact absurd (show false=true from hs) Bool.false_ne_true
 | _=>cases y <;> exact absurd (show false=true from hs) Bool.false_ne_true
theorem op_ne:OpR X (compareOp .NotEq) rNe:=by
 intro pins s σ H x y v u Q I rx ry h
 obtain ⟨hs,q⟩:=h
 cases x with
 | non=>
  cases rx
  cases y with
  | non=>cases ry;exact PySem.EqNone.ne_none_none (fin_bl I q (by simp))
  | bl j=>cases ry;exact PySem.EqNone.ne_none_bool (fin_bl I q (by simp))
  | int j=>obtain ⟨t',rfl⟩:=ry;exact PySem.EqNone.ne_none_int (fin_bl I q (by simp))
  | str j=>obtain ⟨t',rfl⟩:=ry;exact PySem.EqNone.ne_none_str (fin_bl I q (by simp))
  | _=>exact absurd (show false=true from hs) Bool.false_ne_true
 | bl i=>
  cases rx
  cases y with
  | non=>cases ry;exact PySem.EqNone.ne_bool_none (fin_bl I q (by simp))
  | bl j=>cases ry;exact ne_bool (fin_bl I q (congrArg not dec_bl))
  | str j=>obtain ⟨t',rfl⟩:=ry;exact PySem.EqMixed.ne_bool_str (fin_bl I q (by simp))
  | _=>exact absurd (show false=true from hs) Bool.false_ne_true
 | int i=>
  obtain ⟨t,rfl⟩:=rx
  cases y with
  | non=>cases ry;exact PySem.EqNone.ne_int_none (fin_bl I q (by simp))
  | int j=>obtain ⟨t',rfl⟩:=ry;exact ne_int (fin_bl I q (congrArg not dec_int))
  | str j=>obtain ⟨t',rfl⟩:=ry;exact PySem.EqMixed.ne_int_str (fin_bl I q (by simp))
  | _=>exact absurd (show false=true from hs) Bool.false_ne_true
 | str i=>
  obtain ⟨t,rfl⟩:=rx
  cases y with
  | non=>cases ry;exact PySem.EqNone.ne_str_none (fin_bl I q (by simp))
  | bl j=>cases ry;exact PySem.EqMixed.ne_str_bool (fin_bl I q (by simp))
  | int j=>obtain ⟨t',rfl⟩:=ry;exact PySem.EqMixed.ne_str_int (fin_bl I q (by simp))
  | str j=>obtain ⟨t',rfl⟩:=ry;exact ne_str (fin_bl I q (congrArg not dec_str))
  | _=>exact absurd (show false=true from hs) Bool.false_ne_true
 | byt i=>
  obtain ⟨t,rfl⟩:=rx
  cases y with
  | byt j=>obtain ⟨t',rfl⟩:=ry;exact PySem.W.ne_bytes (fin_bl I q (congrArg not dec_byt))
  | _=>exact absurd (show false=true from hs) Bool.false_ne_true
 | _=>cases y <;> exact absurd (show false=true from hs) Bool.false_ne_true
theorem op_lt:OpR X (compareOp .Lt) (rI0 fun i j=> .bl (decide (i < j))):=opB0 fun _ _ _ _ _ _ _ q=>lt_int q
theorem op_le:OpR X (compareOp .LtE) (rI0 fun i j=> .bl (decide (i≤j))):=opB0 fun _ _ _ _ _ _ _ q=>le_int q
theorem op_gt:OpR X (compareOp .Gt) (rI0 fun i j=> .bl (decide (j < i))):=opB0 fun _ _ _ _ _ _ _ q=>gt_int q
theorem op_ge:OpR X (compareOp .GtE) (rI0 fun i j=> .bl (decide (j≤i))):=opB0 fun _ _ _ _ _ _ _ q=>ge_int q
theorem op_in_str:OpR X (compareOp .In) (fun x y H Q=>∃i j,x= .str i∧y= .str j∧Q (.bl (!(Builtin.Str.occurrences j i 0 j.length 1).isEmpty)) H):=by
 intro pins s σ H x y v u Q I rx ry h
 obtain ⟨i,j,rfl,rfl,q⟩:=h
 obtain ⟨t,rfl⟩:=rx
 obtain ⟨t',rfl⟩:=ry
 exact in_str (fin_bl I q rfl)
theorem op_notN:OpR X (compareOp .IsNot) (fun x y H Q=>y= .non∧Q (.bl (!decide (x= .non))) H):=by
 intro pins s σ H x y v u Q I rx ry h
 obtain ⟨rfl,q⟩:=h
 cases ry
 refine isnot_none_gen (fin_bl I q ?_)
 cases x <;> first
  | (cases rx;rfl)
  | (obtain ⟨t,rfl⟩:=rx;rfl)
theorem nomark(b:Expr){op:CmpOp}(h:op≠ .In:=by decide)(h2:op≠ .NotIn:=by decide):behindInMarks op b=false:=by
 have e1:(op==CmpOp.In)=false:=by cases op <;> first | rfl | exact absurd rfl h
 have e2:(op==CmpOp.NotIn)=false:=by cases op <;> first | rfl | exact absurd rfl h2
 cases b <;> simp [behindInMarks,e1,e2]
theorem pe_cmpR{op:CmpOp}{r:R2}(ho:OpR X (compareOp op) r)(ha:PE X a ta)(hb:PE X b tb)(hm:behindInMarks op b=false):PE X (.Compare a [op] [b] pos) (tOp r ta tb):=by
 intro pins s σ H Q I h
 exact wpAny_Compare1 (binT ha hb I h fun v u s2 x y H2 I2 rx ry q=>ho pins s2 σ H2 x y v u Q I2 rx ry q) hm
noncomputable def tTest(t:TE):TT:=fun σ H Q=>t σ H fun x H'=>∃k,x= .bl k∧Q k H'
theorem pt_cmpR{op:CmpOp}{r:R2}(ho:OpR X (compareOp op) r)(ha:PE X a ta)(hb:PE X b tb)(hm:behindInMarks op b=false):PT X (.Compare a [op] [b] pos) (tTest (tOp r ta tb)):=by
 intro pins s σ H Q I h
 refine wpAny_isTrue_Compare1 (thn (ha pins s σ H _ I h) fun v s1 ⟨x,H1,I1,r1,q1⟩=>thn (hb pins s1 σ H1 _ I1 q1) fun u s2 ⟨y,H2,I2,r2,q2⟩=>
  thn (ho pins s2 σ H2 x y v u _ I2 r1 r2 q2) fun c s3 ⟨z,H3,I3,r3,k,e,q3⟩=>?_) hm
 subst e
 cases r3
 exact wpAny_truthy_bool ⟨H3,I3,q3⟩
noncomputable def tChain(r r':R2)(ta tb tc:TE):TE:=fun σ H Q=>ta σ H fun x H1=>tb σ H1 fun y H2=>r x y H2 fun z H3=>∃k,z= .bl k∧
 (if k=true then tc σ H3 fun w' H4=>r' y w' H4 Q else Q (.bl false) H3)
theorem pe_chain{op op':CmpOp}{r r':R2}(ho:OpR X (compareOp op) r)(ho':OpR X (compareOp op') r')(ha:PE X a ta)(hb:PE X b tb)(hc:PE X c tc)
 (hm:lastMarks [op,op'] [b,c]=false:=by with_unfolding_all rfl):PE X (.Compare a [op,op'] [b,c] pos) (tChain r r' ta tb tc):=by
 intro pins s σ H Q I h
 refine Compare_chain (thn (ha pins s σ H _ I h) fun v s1 ⟨x,H1,I1,r1,q1⟩=>chain_link (thn (hb pins s1 σ H1 _ I1 q1) fun u s2 ⟨y,H2,I2,r2,q2⟩=>
  thn (ho pins s2 σ H2 x y v u _ I2 r1 r2 q2) fun d s3 ⟨z,H3,I3,r3,k,e,q3⟩=>?_)) hm
 subst e
 cases r3
 refine wpAny_truthy_bool ?_
 cases k with
 | false=>exact ite_ff ⟨.bl false,H3,I3,rfl,q3⟩
 | true=>exact ite_tt (chain_last (thn (hc pins s3 σ H3 _ I3 q3) fun w' s4 ⟨z',H4,I4,r4,q4⟩=>ho' pins s4 σ H4 y z' u w' Q I4 r2 r4 q4))
theorem line63:(sizeLine:Nat) < 2 ^ 63:=by rw [sizeLine_eq];decide
theorem op_add_str:OpR X (binaryOp .Add) (fun x y H Q=>∃i j,x= .str i∧y= .str j∧i.length+j.length≤sizeLine∧Q (.str (i++j)) H):=by
 intro pins s σ H x y v u Q I rx ry h
 obtain ⟨i,j,rfl,rfl,hz,q⟩:=h
 obtain ⟨t,rfl⟩:=rx
 obtain ⟨t',rfl⟩:=ry
 exact add_str (fun t' tk=>⟨.str (i++j),H,I.tok _,⟨_,rfl⟩,q⟩) hz
theorem vals1{x:V}{us:List Value}(r:Vals [x] us):∃u,us=[u]∧RelV x u:=by
 cases r with
 | cons r1 r2=>cases r2;exact ⟨_,rfl,r1⟩
theorem vals2{x y:V}{us:List Value}(r:Vals [x,y] us):∃u w',us=[u,w']∧RelV x u∧RelV y w':=by
 cases r with
 | cons r1 r2=>
  cases r2 with
  | cons r3 r4=>cases r4;exact ⟨_,_,rfl,r1,r3⟩
theorem call_abs:CallR X (.builtin "abs") (fun xs H Q=>∃i,xs=[.int i]∧Q (.int (if i < 0 then -i else i)) H):=by
 intro pins s σ H xs us Q I r h
 obtain ⟨i,rfl,q⟩:=h
 obtain ⟨u,rfl,t,rfl⟩:=vals1 r
 exact call_abs_int fun u tk=>⟨.int (if i < 0 then -i else i),H,I.tok _,⟨_,rfl⟩,q⟩
theorem call_min2(hc:X.calm=true):CallR X (.builtin "min") (fun xs H Q=>∃i j,xs=[.int i,.int j]∧Q (.int (if j < i then j else i)) H):=by
 intro pins s σ H xs us Q I r h
 obtain ⟨i,j,rfl,q⟩:=h
 obtain ⟨u,w',rfl,⟨t,rfl⟩,⟨t',rfl⟩⟩:=vals2 r
 refine min_two_ints (I.ok.hd hc) fun h' tk k=>⟨_,H,I.kept k,?_,q⟩
 by_cases hj:j < i
 · rw [if_pos hj,if_pos hj];exact ⟨_,rfl⟩
 · rw [if_neg hj,if_neg hj];exact ⟨_,rfl⟩
end
end L2
namespace L2
structure ObjM(h:Heap)(x dx C:Addr)(mA:Str→Option Value):Prop where
 obj:h.get? x=some (PySem.W.instObj C dx)
 ns:h.Ns1 dx mA
 ne:dx≠x
theorem lookIn_ns{h:Heap}{dx:Addr}{mA:Str→Option Value}(n:h.Ns1 dx mA):∃od,h.get? dx=some od∧∀name,PySem.W.lookIn name od=some (mA name):=by
 obtain ⟨o,es,ep,ho,hd,hk,_,hm⟩:=n
 refine ⟨o,ho,fun name=>?_⟩
 have e:=hm name
 unfold nsFind findBy at e
 rw [← Array.find?_toList]at e
 unfold PySem.W.lookIn
 rw [hd]
 dsimp only
 split
 · rename_i y q
   rw [q]at e
   exact congrArg some e
 · rename_i q
   rw [q]at e
   have a:es.toList.any (·.refKey)=false:=by
    rw [List.any_eq_false]
    intro y hy
    obtain ⟨z,t,hkey⟩:=hk y (Array.mem_toList_iff.mp hy)
    simp [DictEntry.refKey,hkey]
   have a':¬es.toList.any (·.refKey)=true:=by rw [a];exact Bool.false_ne_true
   rw [if_neg a']
   exact congrArg some e
theorem ObjM.look{h:Heap}{x dx C:Addr}{mA:Str→Option Value}(I:ObjM h x dx C mA):∃od,PySem.W.InstAt h x (PySem.W.instObj C dx) C (some od)∧∀name,PySem.W.lookIn name od=some (mA name):=
 let ⟨od,ho,hl⟩:=lookIn_ns I.ns
 ⟨od,⟨I.obj,rfl,rfl,ho⟩,hl⟩
section
variable {prog:Program} {w:World} {A:Around} {E:Value→Shared→Prop} {s:Shared} {K:PySem.W.Frag} {x dx C f:Addr} {mA:Str→Option Value} {name:Str} {v:Value}
theorem get_map{expr:Bool}{Q:Value→Shared→Prop}(X:K.In s.heap)(I:ObjM s.heap x dx C mA)(hg:PySem.W.plainGet K C name=true)(hh:PySem.W.hasDictIn K C=true)
 (ha:PySem.W.findIn K (.ref C) name=some none) (hv:mA name=some v) (hv':PySem.W.handedIn v=true) (h:Q v {s with toks:=s.toks+1}):
 wpAny (model prog w) A (getAttr (.ref x) name expr) Q E s:=by
 obtain ⟨od,J,hl⟩:=I.look
 exact PySem.W.get_value X J (PySem.W.plainGet_of hg).1 (PySem.W.findObj_own hh ha rfl (by rw [hl,hv])) hv' h
theorem get_meth{pl:Sem Bool}{Q:Value×List Value→Shared→Prop}(X:K.In s.heap)(I:ObjM s.heap x dx C mA)(hg:PySem.W.plainGet K C name=true)
 (hf:PySem.W.findIn K (.ref C) name=some (some (.ref f))) (ht:PySem.W.isFn K (.ref f)=true) (hv:mA name=none) (h:Q (.ref f,[.ref x]) s):
 wpAny (model prog w) A (getMethod (.ref x) name pl) Q E s:=by
 obtain ⟨od,J,hl⟩:=I.look
 exact PySem.W.method_fn X J (PySem.W.plainGet_of hg).1 (PySem.W.plainGet_of hg).2 hf (beq_iff_eq.mp ht) (by show (PySem.W.lookIn name od).map (·.isSome)=some false;rw [hl,hv];rfl) h
theorem set_map{ns:List Str}{Q:Unit→Shared→Prop}(X:K.In s.heap)(I:ObjM s.heap x dx C mA)
 (hs:PySem.W.findIn K (.ref C) "__setattr__"=some (some (.builtin "object.__setattr__"))) (hp:PySem.W.plainOver K C=true) (ht:PySem.W.takerIn K C name=some none) (hh:PySem.W.hasDictIn K C=true)
 (hw:PySem.Within mA ns) (hsz:ns.length≤sizeLine)
 (h:∀h',ObjM h' x dx C (fun y=>if y=name then some v else mA y)→Heap.SameBut dx s.heap h'→Q () {s with heap:=h',toks:=s.toks+2}):
 wpAny (model prog w) A (setAttr (.ref x) name v) Q E s:=by
 obtain ⟨od,J,hl⟩:=I.look
 refine PySem.W.set_plain X J hs (PySem.W.osa_open (s:={s with toks:=s.toks+1}) (r:=none) X J hp ht fun b=>?_)
 obtain ⟨cd,hc,hd'⟩:=PySem.W.any_some hh
 have hx:s.heap.get? x=some ⟨.ref C,some dx,.plain,#[]⟩:=I.obj
 refine wpAny_bind (wpAny_pure (wpAny_bind (wpAny_bind (wpAny_loadPart hx (wpAny_bind (PySem.W.Looks.here (s:={s with toks:=s.toks+1}) (PySem.W.looks_clsIn X hc) ?_))))))
 rw [hd']
 refine wpAny_pure (a:=some dx) (wpAny_bind (wpAny_pure (wpAny_bind ?_)))
 refine wpAny_nsSet1 (s:={s with toks:=s.toks+1}) I.ns fun h' hn2 hs2=>?_
 obtain ⟨oD,esD,epD,hoD,hdD,hcD⟩:=hn2.count (PySem.Within.cons name v hw)
 refine wpAny_bind (wpAny_lookBehind hoD (by rw [hdD];exact pastItsLine_dict (Nat.le_trans hcD (by rw [List.length_cons];omega))) ?_)
 exact wpAny_pure (h _ ⟨(hs2.2 _ (Ne.symm I.ne)).trans I.obj,hn2,I.ne⟩ hs2)
theorem make_map{R:Result→Shared→Prop}{vs:List Value}{kw:List (Str×Value)}(X:K.In s.heap)(hm:PySem.W.makesIn K C=true)
 (hi:PySem.W.findIn K (.ref C) "__init__"=some (some (.ref f))) (hf:PySem.W.typeIn K (.ref f)=some (.type "function"))
 (h:codeAny (model prog w) (A.under (.builtin "type.__call__" ⟨.ref C::vs,kw⟩)) (.call (.ref f) ⟨.ref (s.heap.objs.size+1)::vs,kw⟩) (PySem.W.InitBack (s.heap.objs.size+1) R)
  {s with heap:=(s.heap.push PySem.W.emptyDict).push (PySem.W.instObj C s.heap.objs.size)}):
 codeAny (model prog w) A (.call (.ref C) ⟨vs,kw⟩) R s:=by
 obtain ⟨hh,g,d,t,os⟩:=s
 exact PySem.W.make_core (PySem.W.makes_of X hm) (PySem.W.looks_findIn X hi) (fun self=>PySem.W.bind_fn X self hf) (.inl rfl) h
end
noncomputable def putF(f:Str)(v:V):List (Str×V)→List (Str×V)
 | []=>[(f,v)]
 | (g,x)::r=>if g=f then (g,v)::r else (g,x)::putF f v r
theorem lookup_putF(f g:Str)(v:V):∀fs:List (Str×V),(putF f v fs).lookup g=if g=f then some v else fs.lookup g
 | []=>by
  show List.lookup g [(f,v)]=_
  by_cases h:g=f
  · have hb:(g==f)=true:=beq_iff_eq.mpr h
    simp only [List.lookup,hb,if_pos h]
  · have hb:(g==f)=false:=beq_eq_false_iff_ne.mpr h
    simp only [List.lookup,hb,if_neg h]
 | (k,x)::r=>by
  have ih:=lookup_putF f g v r
  rw [show putF f v ((k,x)::r)=(if k=f then (k,v)::r else (k,x)::putF f v r) from rfl]
  by_cases hk:k=f
  · rw [if_pos hk]
    by_cases h:g=k
    · have hb:(g==k)=true:=beq_iff_eq.mpr h
      simp only [List.lookup,hb,if_pos (h.trans hk)]
    · have hb:(g==k)=false:=beq_eq_false_iff_ne.mpr h
      simp only [List.lookup,hb,if_neg (fun e:g=f=>h (e.trans hk.symm))]
  · rw [if_neg hk]
    by_cases h:g=k
    · have hb:(g==k)=true:=beq_iff_eq.mpr h
      simp only [List.lookup,hb,if_neg (fun e:g=f=>hk (h.symm.trans e))]
    · have hb:(g==k)=false:=beq_eq_false_iff_ne.mpr h
      simp only [List.lookup,hb]
      exact ih
theorem keys_putF(f:Str)(v:V):∀fs:List (Str×V),f∈(putF f v fs).map (·.1)∧∀g,g∈fs.map (·.1)→g∈(putF f v fs).map (·.1)
 | []=>⟨by simp [putF],fun g h=>by simp at h⟩
 | (k,x)::r=>by
  obtain ⟨i1,i2⟩:=keys_putF f v r
  rw [show putF f v ((k,x)::r)=(if k=f then (k,v)::r else (k,x)::putF f v r) from rfl]
  by_cases hk:k=f
  · rw [if_pos hk]
    subst hk
    exact ⟨by simp,fun g h=>by simpa using h⟩
  · rw [if_neg hk]
    refine ⟨?_,fun g h=>?_⟩
    · rw [List.map_cons]
      exact List.mem_cons_of_mem _ i1
    · rw [List.map_cons]at h ⊢
      rcases List.mem_cons.mp h with e | e
      · exact List.mem_cons.mpr (.inl e)
      · exact List.mem_cons_of_mem _ (i2 g e)
theorem length_putF(f:Str)(v:V):∀fs:List (Str×V),(putF f v fs).length≤fs.length+1
 | []=>by simp [putF]
 | (k,x)::r=>by
  have ih:=length_putF f v r
  rw [show putF f v ((k,x)::r)=(if k=f then (k,v)::r else (k,x)::putF f v r) from rfl]
  by_cases hk:k=f
  · rw [if_pos hk,List.length_cons,List.length_cons];omega
  · rw [if_neg hk,List.length_cons,List.length_cons];omega
theorem RelO.some_of{v:V}{o:Option Value}(r:RelO (some v) o):∃u,o=some u∧RelV v u:=by
 cases o with
 | none=>exact (show False from r).elim
 | some u=>exact ⟨u,rfl,r⟩
theorem RelO.none_of{o:Option Value}(r:RelO none o):o=none:=by
 cases o with
 | none=>rfl
 | some u=>exact (show False from r).elim
theorem handed_of{v:V}{u:Value}(r:RelV v u):PySem.W.handedIn u=true:=by
 cases v with
 | non=>cases (show u=Value.none from r);rfl
 | bl b=>cases (show u=Value.bool b from r);rfl
 | int i=>obtain ⟨t,e⟩:=(show ∃t,u=Value.int i t from r);cases e;rfl
 | str x=>obtain ⟨t,e⟩:=(show ∃t,u=Value.str x t from r);cases e;rfl
 | byt b=>obtain ⟨t,e⟩:=(show ∃t,u=Value.bytes b t from r);cases e;rfl
 | flt b=>obtain ⟨t,e⟩:=(show ∃t,u=Value.float b t from r);cases e;rfl
 | ref a=>cases (show u=Value.ref a from r);rfl
 | ty n=>cases (show u=Value.type n from r);rfl
section
variable {P:Program} {w:World} {H H':Hp} {h h':Heap} {a C dx:Addr} {fs fs':List (Str×V)}
theorem ins_get(hok:HOk P w H h)(e:H a=some (.ins C dx fs)):∃mA,ObjM h a dx C mA∧(∀f,RelO (fs.lookup f) (mA f))∧PySem.Within mA (fs.map (·.1))∧fs.length≤1000∧H dx=some (.own a):=by
 obtain ⟨d,z,ne,ob,mA,n,r,q⟩:=(show ObjOk P w H h a (.ins C dx fs) from hok a _ e)
 exact ⟨mA,⟨ob,n,ne⟩,r,q,z,d⟩
end
structure Cls(K:PySem.W.Frag)(C:Addr):Prop where
 pg:PySem.W.plainGet K C Str.empty=true
 hd:PySem.W.hasDictIn K C=true
 po:PySem.W.plainOver K C=true
 sa:PySem.W.findIn K (.ref C) "__setattr__"=some (some (.builtin "object.__setattr__"))
theorem Cls.get{K:PySem.W.Frag}{C:Addr}(c:Cls K C)(f:Str):PySem.W.plainGet K C f=true:=c.pg
noncomputable def NoAttr(K:PySem.W.Frag)(C:Addr)(f:Str):Prop:=PySem.W.findIn K (.ref C) f=some none
theorem NoAttr.taker{K:PySem.W.Frag}{C:Addr}{f:Str}(n:NoAttr K C f):PySem.W.takerIn K C f=some none:=by
 unfold PySem.W.takerIn
 rw [show PySem.W.findIn K (.ref C) f=some none from n]
 rfl
structure Meth(K:PySem.W.Frag)(C:Addr)(m:Str)(f:Addr):Prop where
 at_:PySem.W.findIn K (.ref C) m=some (some (.ref f))
 fn:PySem.W.isFn K (.ref f)=true
 kp:PySem.W.keepIn K (.ref f)=true
section
variable {X:Cx} {pins:List (Addr×Obj)} {σ:St} {H:Hp} {s:Shared} {a C dx:Addr} {fs:List (Str×V)} {f:Str} {v:V} {A:Around} {E:Value→Shared→Prop}
theorem getattr_ok{b:Bool}{Q:Value→Shared→Prop}(I:Inv X pins σ H s)(e:H a=some (.ins C dx fs))(c:Cls X.K C)(n:NoAttr X.K C f)(l:fs.lookup f=some v)
 (h:∀u s',Inv X pins σ H s'→RelV v u→Q u s'):wpAny (model X.prog X.w) A (getAttr (.ref a) f b) Q E s:=by
 obtain ⟨mA,O,r,_,_,_⟩:=ins_get I.hok e
 obtain ⟨u,hu,ru⟩:=RelO.some_of (v:=v) (o:=mA f) (by rw [← l];exact r f)
 exact get_map I.kIn O (c.get f) c.hd n hu (handed_of ru) (h u _ (I.tok _) ru)
theorem getmeth_ok{m:Str}{g:Addr}{pl:Sem Bool}{Q:Value×List Value→Shared→Prop}(I:Inv X pins σ H s)(e:H a=some (.ins C dx fs))(c:Cls X.K C)(k:Meth X.K C m g)(l:fs.lookup m=none)
 (h:Q (.ref g,[.ref a]) s):wpAny (model X.prog X.w) A (getMethod (.ref a) m pl) Q E s:=by
 obtain ⟨mA,O,r,_,_,_⟩:=ins_get I.hok e
 have hn:mA m=none:=RelO.none_of (by rw [← l];exact r m)
 exact get_meth I.kIn O (c.get m) k.at_ k.fn hn h
theorem setattr_ok{y:V}{u:Value}{Q:Unit→Shared→Prop}(I:Inv X pins σ H s)(e:H a=some (.ins C dx fs))(c:Cls X.K C)(n:NoAttr X.K C f)(hl:fs.length < 1000)(ry:RelV y u)
 (h:∀s',Inv X pins σ (upd H a (.ins C dx (putF f y fs))) s'→Q () s'):wpAny (model X.prog X.w) A (setAttr (.ref a) f u) Q E s:=by
 obtain ⟨mA,O,r,wi,_,ho⟩:=ins_get I.hok e
 have hz:(fs.map (·.1)).length≤sizeLine:=by rw [List.length_map,sizeLine_eq];omega
 refine set_map I.kIn O c.sa c.po n.taker c.hd wi hz fun h' O' sb=>h _ ?_
 have hd:∃o,h'.get? dx=some o:=let ⟨o,_,_,e',_⟩:=O'.ns;⟨o,e'⟩
 refine I.write (x:=a) (e:=dx) (by rw [e];exact True.intro) (.inr ho) (fun b q hb z=>(sb.2 b hb).trans z) hd ?_
 refine ⟨by rw [upd_ne O.ne];exact ho,?_,O.ne,O'.obj,_,O'.ns,fun g=>?_,fun g hg=>?_⟩
 · have:=length_putF f y fs;omega
 · show RelO ((putF f y fs).lookup g) (if g=f then some u else mA g)
   rw [lookup_putF]
   by_cases q:g=f
   · rw [if_pos q,if_pos q];exact ry
   · rw [if_neg q,if_neg q];exact r g
 · by_cases q:g=f
   · rw [q];exact (keys_putF f y fs).1
   · refine (keys_putF f y fs).2 g (wi g fun z=>hg ?_)
     show (if g=f then some u else mA g)=none
     rw [if_neg q];exact z
theorem Inv.made(I:Inv X pins σ H s):Inv X pins σ (upd (upd H s.heap.objs.size (.own (s.heap.objs.size+1))) (s.heap.objs.size+1) (.ins C s.heap.objs.size []))
 {s with heap:=(s.heap.push PySem.W.emptyDict).push (PySem.W.instObj C s.heap.objs.size)}:=by
 have e1:(s.heap.push PySem.W.emptyDict).get? s.heap.objs.size=some PySem.W.emptyDict:=Heap.get?_push_size s.heap rfl
 have e2:((s.heap.push PySem.W.emptyDict).push (PySem.W.instObj C s.heap.objs.size)).get? (s.heap.objs.size+1)=some (PySem.W.instObj C s.heap.objs.size):=by
  have:=Heap.get?_push_size (s.heap.push PySem.W.emptyDict) (o:=PySem.W.instObj C s.heap.objs.size) rfl
  rwa [Heap.size_push]at this
 have e3:(s.heap.push PySem.W.emptyDict).Ns s.heap.objs.size (fun _=>none):=⟨PySem.W.emptyDict,#[],_,e1,rfl,(fun e he=>absurd he (by simp)),fun _=>rfl⟩
 have I1:=I.laid (a:=s.heap.objs.size) (o:= .own (s.heap.objs.size+1)) (h':=s.heap.push PySem.W.emptyDict) (t':=s.toks) (fun b u q=>Heap.get?_push_of_some _ q) (Nat.le_refl _) ⟨_,e1⟩
 refine I1.laid (a:=s.heap.objs.size+1) (o:= .ins C s.heap.objs.size []) (t':=s.toks) (fun b u q=>Heap.get?_push_of_some _ q) (Nat.le_of_eq (Heap.size_push _ _)) ?_
 have ne:s.heap.objs.size≠s.heap.objs.size+1:=Nat.ne_of_lt (Nat.lt_succ_self _)
 refine ⟨by rw [upd_ne ne,upd_same],Nat.zero_le _,ne,e2,fun _=>none,(Heap.Ns1.of_empty e3).at fun o q=>Heap.get?_push_of_some _ q,fun _=>True.intro,fun y hy=>absurd rfl hy⟩
theorem attr_of{prog:Program}{w:World}{env:Env}{e:Expr}{f:Str}{pos:Pos}{s:Shared}{Q:Value→Shared→Prop}(hb:attributeBase e f env (eval e env)=eval e env)
 (h:wpAny (model prog w) A (eval e env) (fun o s₁=>wpAny (model prog w) A (getAttr o f true) Q E s₁) E s):wpAny (model prog w) A (eval (.Attribute e f pos) env) Q E s:=
 Attribute_any_ h (by rw [arm_eval_Attribute,hb])
end
noncomputable def tFld(K:PySem.W.Frag)(ta:TE)(f:Str):TE:=fun σ H Q=>ta σ H fun x H1=>∃a C dx fs v,x= .ref a∧H1 a=some (.ins C dx fs)∧Cls K C∧NoAttr K C f∧fs.lookup f=some v∧Q v H1
noncomputable def sFld(K:PySem.W.Frag)(ta tv:TE)(f:Str):TS:=fun D σ H=>tv σ H fun y H1=>ta σ H1 fun x H2=>∃a C dx fs,x= .ref a∧H2 a=some (.ins C dx fs)∧Cls K C∧NoAttr K C f∧fs.length < 1000∧
 D.nx σ (upd H2 a (.ins C dx (putF f y fs)))
section
variable {X:Cx} {o e value:Expr} {f:Str} {pos pos' tpos:Pos} {ta tv:TE}
theorem pe_fld(he:PE X e ta)(hb:attributeBase e f X.env (eval e X.env)=eval e X.env):PE X (.Attribute e f pos) (tFld X.K ta f):=by
 intro pins s σ H Q I h
 refine attr_of hb (thn (he pins s σ H _ I h) fun u s1 hq_=>?_)
 obtain ⟨x,H1,I1,rx,a,C,dx,fs,v,ex,ea,c,n,l,q⟩:=hq_
 subst ex
 obtain rfl:u=Value.ref a:=rx
 exact getattr_ok I1 ea c n l fun u' s2 I2 ru=>⟨v,H1,I2,ru,q⟩
theorem ps_fld(ha:PE X o ta)(hv:PE X value tv)(hs:swapsWith value (some (.Attribute o f pos')) pos.line X.env=pure false):PS X (.Assign [.Attribute o f pos'] value pos) (sFld X.K ta tv f):=by
 intro pins s σ H D I h
 refine plainObj_wpAny_Assign_Attribute (thn (hv pins s σ H _ I h) fun u s1 ⟨y,H1,I1,ry,q⟩=>thn (ha pins s1 σ H1 _ I1 q) fun ov s2 hq_=>?_) hs
 obtain ⟨x,H2,I2,rx,a,C,dx,fs,ex,ea,c,n,l,q2⟩:=hq_
 subst ex
 obtain rfl:ov=Value.ref a:=rx
 exact setattr_ok I2 ea c n l ry fun s3 I3=>⟨σ,_,I3,q2⟩
noncomputable def rAdd:V→V→Hp→VK→Prop:=fun x y H Q=>∃i j,x= .int i∧y= .int j∧Q (.int (i+j)) H
end
section
variable {X:Cx} {pins:List (Addr×Obj)} {σ:St} {H:Hp} {s:Shared} {A:Around} {E:Value→Shared→Prop} {Q:Value→Shared→Prop} {c:Value} {b:Bool}
inductive TyOf(K:PySem.W.Frag)(H:Hp):V→Value→Prop where
 | non:TyOf K H .non (.type "NoneType")
 | bl (x:Bool):TyOf K H (.bl x) (.type "bool")
 | int (i:Int):TyOf K H (.int i) (.type "int")
 | str (x:Str):TyOf K H (.str x) (.type "str")
 | flt (x:UInt64):TyOf K H (.flt x) (.type "float")
 | lst {a:Addr} {xs:List V} (e:H a=some (.lst xs)):TyOf K H (.ref a) (.type "list")
 | frz {a:Addr} {o:Obj} {xs:List V} (e:H a=some (.frz o (.lst xs))):TyOf K H (.ref a) (.type "list")
 | tup {a:Addr} {xs:List V} (e:H a=some (.tup xs)):TyOf K H (.ref a) (.type "tuple")
 | dK {a:Addr} {kvs:List (Key×V)} (e:H a=some (.dK kvs)):TyOf K H (.ref a) (.type "dict")
 | dT {a:Addr} {kvs:List (List Key×V)} (e:H a=some (.dT kvs)):TyOf K H (.ref a) (.type "dict")
 | ins {a C dx:Addr} {fs:List (Str×V)} (e:H a=some (.ins C dx fs)) (cl:Cls K C) (ha:PySem.W.findIn K (.ref C) "__class__"=some (some (.builtin "object.__class__")))
  (hn:PySem.W.specialIn K (.builtin "object.__class__") "__get__"=some (some (.builtin "getset_descriptor.__get__"))) (htk:PySem.W.takesIn K (.builtin "object.__class__")=some true)
  (hm:PySem.W.mroIn K C (.type "object")=some true):TyOf K H (.ref a) (.ref C)
theorem isinst_ok{x:V}{u t:Value}(I:Inv X pins σ H s)(rx:RelV x u)(ty:TyOf X.K H x t)(e:PySem.W.kitOne X.K t c=some b)(h:∀tk,Q (.bool b) {s with toks:=tk}):
 wpAny (model X.prog X.w) A (call (.builtin "isinstance") [u,c]) Q E s:=by
 cases ty with
 | non=>cases (show u=Value.none from rx);exact PySem.W.kia_one PySem.W.kitx_none I.kIn True.intro e (fun z=>nomatch z) h
 | bl y=>cases (show u=Value.bool y from rx);exact PySem.W.kia_one PySem.W.kitx_bool I.kIn True.intro e (fun z=>nomatch z) h
 | int i=>obtain ⟨t,q⟩:=(show ∃t,u=Value.int i t from rx);cases q;exact PySem.W.kia_one PySem.W.kitx_int I.kIn True.intro e (fun z=>nomatch z) h
 | str y=>obtain ⟨t,q⟩:=(show ∃t,u=Value.str y t from rx);cases q;exact PySem.W.kia_one PySem.W.kitx_str I.kIn True.intro e (fun z=>nomatch z) h
 | flt y=>obtain ⟨t,q⟩:=(show ∃t,u=Value.float y t from rx);cases q;exact PySem.W.kia_one PySem.W.kitx_float I.kIn True.intro e (fun z=>nomatch z) h
 | @lst a xs ea=>
  cases (show u=Value.ref a from rx)
  obtain ⟨_,_,n,_,h1⟩:=(show ObjOk X.prog X.w H s.heap a (.lst xs) from I.hok a _ ea)
  exact PySem.W.kia_one PySem.W.kitx_list I.kIn ⟨_,h1,rfl⟩ e (fun z=>nomatch z) h
 | @frz a ob xs ea=>
  cases (show u=Value.ref a from rx)
  obtain ⟨_,_,_,n,_,h1⟩:=(show ObjOk X.prog X.w H s.heap a (.frz ob (.lst xs)) from I.hok a _ ea)
  exact PySem.W.kia_one PySem.W.kitx_list I.kIn ⟨_,h1,rfl⟩ e (fun z=>nomatch z) h
 | @tup a xs ea=>
  cases (show u=Value.ref a from rx)
  obtain ⟨_,_,_,p⟩:=(show ObjOk X.prog X.w H s.heap a (.tup xs) from I.hok a _ ea)
  obtain ⟨o,h1,h2,_⟩:=p
  exact PySem.W.kia_one PySem.W.kitx_tuple I.kIn ⟨o,h1,h2⟩ e (fun z=>nomatch z) h
 | @dK a kvs ea=>
  cases (show u=Value.ref a from rx)
  obtain ⟨_,_,vs,_,p⟩:=(show ObjOk X.prog X.w H s.heap a (.dK kvs) from I.hok a _ ea)
  obtain ⟨o,es,ep,h1,h2,_⟩:=p
  exact PySem.W.kia_one PySem.W.kitx_dict I.kIn ⟨o,h1,h2.1⟩ e (fun z=>nomatch z) h
 | @dT a kvs ea=>
  cases (show u=Value.ref a from rx)
  obtain ⟨_,_,xs,_,o,es,ep,h1,h2,_⟩:=(show ObjOk X.prog X.w H s.heap a (.dT kvs) from I.hok a _ ea)
  exact PySem.W.kia_one PySem.W.kitx_dict I.kIn ⟨o,h1,h2.1⟩ e (fun z=>nomatch z) h
 | @ins a C dx fs ea cl ha hn htk hm=>
  cases (show u=Value.ref a from rx)
  obtain ⟨mA,O,_⟩:=ins_get I.hok ea
  obtain ⟨od,J,_⟩:=O.look
  exact PySem.W.kia_one (PySem.W.kitx_own (cl.get _) cl.hd ha hn htk hm) I.kIn J e (fun z=>nomatch z) h
end
end L2
namespace L2
structure Room(k:Nat)(A:Around):Prop where
 hd:A.handled=none
 dp:A.depth+3 * k+5 < recursionLimit
 un:A.units+16 * k+200 < cLine
theorem Room.mono{j k:Nat}{A:Around}(r:Room k A)(h:j≤k):Room j A:=⟨r.hd,by have:=r.dp;omega,by have:=r.un;omega⟩
theorem Room.deeper{k:Nat}{A:Around}(r:Room (k+1) A)(env:Env):Room k (A.deeper env):=
 ⟨r.hd,by have:=r.dp;show A.depth+1+3 * k+5 < _;omega,by have:=r.un;show A.units+3+16 * k+200 < _;omega⟩
theorem make_depth{A:Around}{C:Addr}{us:List Value}{kw:List (Str×Value)}:(A.under (.builtin "type.__call__" ⟨.ref C::us,kw⟩)).depth=A.depth+1:=by
 first | rfl | simp [Around.under,Code.weight,Code.isCreation,Code.isGuard,Code.isCaller,Code.frames,Code.isFrame,guardIds]
theorem make_units{A:Around}{C:Addr}{us:List Value}{kw:List (Str×Value)}:(A.under (.builtin "type.__call__" ⟨.ref C::us,kw⟩)).units=A.units+1:=by
 first | rfl | simp [Around.under,Code.cUnits,Code.frames,Code.isFrame]
theorem Room.make{k:Nat}{A:Around}(r:Room (k+1) A)(C:Addr)(us:List Value)(kw:List (Str×Value)):Room k (A.under (.builtin "type.__call__" ⟨.ref C::us,kw⟩)):=
 ⟨r.hd,by have:=r.dp;rw [make_depth];omega,by have:=r.un;rw [make_units];omega⟩
theorem Room.depth{k:Nat}{A:Around}(r:Room k A):A.depth < recursionLimit:=by have:=r.dp;omega
theorem Room.units{k:Nat}{A:Around}(r:Room k A):A.units+64 < cLine:=by have:=r.un;omega
noncomputable def tNil:TA:=fun _ H Q=>Q [] H
noncomputable def tCons(ta:TE)(tr:TA):TA:=fun σ H Q=>ta σ H fun x H1=>tr σ H1 fun xs H2=>Q (x::xs) H2
section
variable {X:Cx} {e:Expr} {es:List Expr} {te:TE} {t:TA} {pos:Pos}
theorem pa_nil:PA X [] tNil:=fun _ _ _ _ H Q I h=>Calls.spliced_nil ⟨[],H,I,.nil,h⟩
theorem pa_cons(ha:PE X e te)(hr:PA X es t)(hs:starEach (e::es) X.env=(false,eval e X.env)::starEach es X.env:=by rfl):PA X (e::es) (tCons te t):=by
 intro pos pins s σ H Q I h
 rw [hs]
 show wpAny _ _ (spliced ((false,eval e X.env)::backTo pos (starEach es X.env))) _ _ s
 refine Calls.spliced_cons (thn (ha pins s σ H _ I h) fun u s1 hq_=>?_)
 obtain ⟨x,H1,I1,r1,q1⟩:=hq_
 exact thn (hr pos pins s1 σ H1 _ I1 q1) fun us s2 ⟨xs,H2,I2,r2,q2⟩=>⟨x::xs,H2,I2,.cons r1 r2,q2⟩
noncomputable def tTup(t:TA):TE:=fun σ H Q=>t σ H fun xs H1=>xs.length≤sizeLine∧∀p,H1 p=none→Q (.ref p) (upd H1 p (.tup xs))
noncomputable def tLst(t:TA):TE:=fun σ H Q=>t σ H fun xs H1=>xs.length≤sizeLine∧∀p,H1 p=none→Q (.ref p) (upd H1 p (.lst xs))
theorem pe_tup{x1}(h:PA X es t):PE X (.Tuple es x1 pos) (tTup t):=by
 intro pins s σ H Q I hq
 refine wpAny_Tuple_spliced (thn (h pos pins s σ H _ I hq) fun us s1 ⟨xs,H1,I1,r,z,q⟩=>⟨by rw [← r.length];exact z,?_⟩)
 have hf:H1 s1.heap.objs.size=none:=I1.hok.fresh (Nat.le_refl _)
 refine ⟨.ref s1.heap.objs.size,upd H1 s1.heap.objs.size (.tup xs),I1.laid (t':=s1.toks) (fun b u e=>Heap.get?_push_of_some _ e) (Nat.le_refl _) ?_,rfl,q _ hf⟩
 exact ⟨z,us,r,⟨_,Heap.get?_push_size _ rfl,rfl,_,rfl⟩⟩
theorem pe_lst(h:PA X es t):PE X (.List es pos) (tLst t):=by
 intro pins s σ H Q I hq
 refine wpAny_List_spliced (thn (h pos pins s σ H _ I hq) fun us s1 ⟨xs,H1,I1,r,z,q⟩=>⟨by rw [← r.length];exact z,?_⟩)
 have hf:H1 s1.heap.objs.size=none:=I1.hok.fresh (Nat.le_refl _)
 refine ⟨.ref s1.heap.objs.size,upd H1 s1.heap.objs.size (.lst xs),I1.laid (t':=s1.toks) (fun b u e=>Heap.get?_push_of_some _ e) (Nat.le_refl _) ?_,rfl,q _ hf⟩
 exact ⟨z,us,0,r,Heap.get?_push_size _ rfl⟩
end
noncomputable abbrev Sp:=List V→Hp→VK→XK→Prop
noncomputable abbrev CXT:=List Env→Hp→Shared→XK→Value→Shared→Prop
structure Env0(P:Program)(w:World)(K:PySem.W.Frag)(mg:Str→Option Value)(base:Heap)(A:Around)(outer:List Env)(s:Shared)(H:Hp):Prop where
 frames:A.frames=some outer
 mod:Mod K mg base
 bs:∀b o,base.get? b=some o→s.heap.get? b=some o∧H b=none
 bsz:base.objs.size≤s.heap.objs.size
 funs:s.heap.FunFrames base outer
 frf:∀b∈frs outer,H b=none
 hok:HOk P w H s.heap
 bare:AllBare s.gens
noncomputable def CE(outer:List Env)(P:Program)(w:World)(H:Hp)(s:Shared)(Q:VK)(u:Value)(s':Shared):Prop:=
 ∃v H',s'.os=s.os∧AllBare s'.gens∧Un (frs outer) [] H H' s.heap s'.heap∧HOk P w H' s'.heap∧RelV v u∧Q v H'
noncomputable def CR(CX:CXT)(outer:List Env)(P:Program)(w:World)(H:Hp)(s:Shared)(Q:VK)(E:XK)(r:Result)(s':Shared):Prop:=
 match r with
 | .ok (.ret u)=>CE outer P w H s Q u s'
 | .ok _=>False
 | .error e=>CX outer H s E e s'
structure FnOk(P:Program)(w:World)(K:PySem.W.Frag)(mg:Str→Option Value)(base:Heap)(CX:CXT)(k:Nat)(f:Addr)(fd:FuncData)(ps:List Str)(sp:Sp):Prop where
 len:∀vs H Q E,sp vs H Q E→vs.length=ps.length
 run:∀(A:Around) (outer:List Env) (s:Shared) (H:Hp) (args:Args) (us:List Value) (vs:List V) (Q:VK) (E:XK),Room k A→Env0 P w K mg base A outer s H→BindsTo s fd args (ps.zip us)→Vals vs us→sp vs H Q E→
  codeAny (model P w) A (.call (.ref f) args) (CR CX outer P w H s Q E) s
theorem FnOk.mono{P:Program}{w:World}{K:PySem.W.Frag}{mg:Str→Option Value}{base:Heap}{CX:CXT}{j k:Nat}{f:Addr}{fd:FuncData}{ps:List Str}{sp:Sp}(F:FnOk P w K mg base CX j f fd ps sp)(h:j≤k):
 FnOk P w K mg base CX k f fd ps sp:=⟨F.len,fun A outer s H args us vs Q E hr=>F.run A outer s H args us vs Q E (hr.mono h)⟩
theorem Env0.make{P:Program}{w:World}{K:PySem.W.Frag}{mg:Str→Option Value}{base:Heap}{A:Around}{outer:List Env}{s:Shared}{H:Hp}(e:Env0 P w K mg base A outer s H)(C:Addr)(us:List Value)(kw:List (Str×Value)):
 Env0 P w K mg base (A.under (.builtin "type.__call__" ⟨.ref C::us,kw⟩)) outer s H:=⟨by first | exact e.frames | (simpa [Around.under,Code.envs,Code.isFrame,pushEnvs] using e.frames),e.mod,e.bs,e.bsz,e.funs,e.frf,e.hok,e.bare⟩
section
variable {X:Cx} {pins:List (Addr×Obj)} {σ:St} {H:Hp} {s s':Shared}
theorem Inv.env0(I:Inv X pins σ H s):Env0 X.prog X.w X.K X.mg X.base X.A X.stack s H:=
 ⟨I.ok.frames,I.ok.mod,I.bs,Nat.le_trans I.ok.bsz I.sz,I.stack,I.stkFree,I.hok,I.bare⟩
theorem Inv.after{Q:VK}{u:Value}(I:Inv X pins σ H s)(h:CE X.stack X.prog X.w H s Q u s'):EP X pins σ Q u s':=by
 obtain ⟨v,H',os,bare,un,hok,r,q⟩:=h
 obtain ⟨hh,g,d,t,os'⟩:=s'
 obtain rfl:os'=s.os:=os
 exact ⟨v,H',I.call (h':=hh) (g':=g) (d':=d) (t':=t) (ch:=[]) un hok bare (fun b z=>absurd z (by simp)),r,q⟩
end
noncomputable def tCall(sp:Sp)(dvs:List V)(E:XK)(t:TA):TE:=fun σ H Q=>t σ H fun vs H1=>sp (vs++dvs) H1 Q E
noncomputable def Binds(K:PySem.W.Frag)(fd:FuncData)(ps:List Str)(ds:List Value):Prop:=
 ∀(s:Shared) (us:List Value),K.In s.heap→(us++ds).length=ps.length→BindsTo s fd ⟨us,[]⟩ (ps.zip (us++ds))
theorem Binds.all{K:PySem.W.Frag}{fd:FuncData}{ps:List Str}(h:∀us:List Value,us.length=ps.length→bindArgs fd ⟨us,[]⟩=pure (ps.zip us)):Binds K fd ps []:=fun s us _ hl=>by
 rw [List.append_nil]at hl ⊢
 exact .of_eq (h us hl)
noncomputable def Passes(CX:CXT)(X:Cx)(E:XK):Prop:=∀(pins:List (Addr×Obj)) (σ:St) (H:Hp) (s:Shared) (e:Value) (s':Shared),Inv X pins σ H s→CX X.stack H s E e s'→X.xe e s'
section
variable {X:Cx} {CX:CXT} {k:Nat} {f C:Addr} {fd:FuncData} {ps:List Str} {sp:Sp} {dvs:List V} {ds:List Value} {E:XK} {x m:Str} {p pos apos:Pos} {e o:Expr} {es:List Expr} {ta:TE} {t:TA}
theorem run_fn{pins:List (Addr×Obj)}{σ:St}{H:Hp}{s:Shared}{Q:VK}{us:List Value}{vs:List V}(F:FnOk X.prog X.w X.K X.mg X.base CX k f fd ps sp)(hr:Room k X.A)(hb:Binds X.K fd ps ds)(hd:Vals dvs ds)(hx:Passes CX X E)
 (I:Inv X pins σ H s) (r:Vals vs us) (h:sp (vs++dvs) H Q E):wpAny (model X.prog X.w) X.A (call (.ref f) us) (EP X pins σ Q) X.xe s:=by
 have r2:Vals (vs++dvs) (us++ds):=r.append hd
 have hl:(us++ds).length=ps.length:=by rw [← r2.length];exact F.len _ _ _ _ h
 refine wpAny_call (codeAny_mono (F.run X.A X.stack s H ⟨us,[]⟩ (us++ds) (vs++dvs) Q E hr I.env0 (hb s us I.kIn hl) r2 h) fun r s' hq=>?_)
 cases r with
 | error e=>exact hx pins σ H s e s' I hq
 | ok fl=>
  cases fl with
  | ret u=>exact I.after hq
  | next=>exact False.elim hq
  | brk=>exact False.elim hq
  | cont=>exact False.elim hq
theorem pe_call(F:FnOk X.prog X.w X.K X.mg X.base CX k f fd ps sp)(hr:Room k X.A)(hg:Gl X x)(hm:X.mg x=some (.ref f))(hk:PySem.W.keepIn X.K (.ref f)=true)(hb:Binds X.K fd ps ds)(hd:Vals dvs ds)(hx:Passes CX X E)
 (ha:PA X (e::es) t) (hdb:(x==("__debug__":Str))=false:=by decide) (he:starEach (e::es) X.env=(false,eval e X.env)::starEach es X.env:=by rfl) (hpl:(backTo pos (starEach es X.env)).any (·.1)=false:=by rfl):
 PE X (.Call (.Name x p) (e::es) [] pos) (tCall sp dvs E t):=by
 intro pins s σ H Q I h
 refine wpAny_Call_Name_kw (ld_glob I hg hm ?_ hdb)
 refine PySem.W.callWith_K (h₀:=X.base) I.ok.mod.kin hk (thn (ha pos pins s σ H _ I h) fun us s1 ⟨vs,H1,I1,r,q⟩=>⟨I1.kIn,?_⟩) he hpl
 exact run_fn F hr hb hd hx I1 r q
structure Mk(K:PySem.W.Frag)(C f:Addr):Prop where
 makes:PySem.W.makesIn K C=true
 init:PySem.W.findIn K (.ref C) "__init__"=some (some (.ref f))
 fn:PySem.W.isFn K (.ref f)=true
 kp:PySem.W.keepIn K (.ref C)=true
end
structure FnScope(N P:List Str)(sc:Scope):Prop where
 kind:sc.kind= .function
 co:sc.isCoroutine=false
 gen:sc.isGenerator=false
 nd:N.Nodup
 pre:N.take P.length=P
 par:∀x∈P,sc.names.lookup x=some .local∨sc.names.lookup x=some .cell
 nofree:∀y∈sc.names,y.2≠ .free
theorem bindL_out{kindOf:Str→Option NameKind}{x:Str}:∀{binds:List (Str×Value)} {m:Str→Option Value},(∀v,(x,v)∉binds)→bindL kindOf binds m x=m x
 | [],_,_=>rfl
 | (n,v)::r,m,h=>by
  unfold bindL
  rw [bindL_out fun w hw=>h w (List.mem_cons_of_mem _ hw)]
  split
  · have:x≠n:=by rintro rfl;exact h v List.mem_cons_self
    simp [this]
  · rfl
theorem bindC_out{kindOf:Str→Option NameKind}{x:Str}:∀{binds:List (Str×Value)} {m:Str→Option Value},(∀v,(x,v)∉binds)→bindC kindOf binds m x=m x
 | [],_,_=>rfl
 | (n,v)::r,m,h=>by
  unfold bindC
  rw [bindC_out fun w hw=>h w (List.mem_cons_of_mem _ hw)]
  split
  · rfl
  · have:x≠n:=by rintro rfl;exact h v List.mem_cons_self
    simp [this]
theorem bindL_get{kindOf:Str→Option NameKind}{x:Str}{v:Value}:∀{P:List Str} {vs:List Value} {i:Nat} {m:Str→Option Value},P.Nodup→P[i]?=some x→vs[i]?=some v→kindOf x=some .local→
 bindL kindOf (P.zip vs) m x=some v
 | [],_,_,_,_,h,_,_=>by simp at h
 | _::_,[],_,_,_,_,h,_=>by simp at h
 | p::P,w::vs,0,m,nd,h1,h2,hk=>by
  simp at h1 h2;subst h1;subst h2
  show bindL kindOf ((p,w)::P.zip vs) m p=_
  unfold bindL
  rw [bindL_out fun v hv=>(List.nodup_cons.mp nd).1 (List.of_mem_zip hv).1,if_pos hk]
  simp
 | p::P,w::vs,i+1,m,nd,h1,h2,hk=>by
  show bindL kindOf ((p,w)::P.zip vs) m x=_
  unfold bindL
  exact bindL_get (i:=i) (List.nodup_cons.mp nd).2 (by simpa using h1) (by simpa using h2) hk
theorem bindC_get{kindOf:Str→Option NameKind}{x:Str}{v:Value}:∀{P:List Str} {vs:List Value} {i:Nat} {m:Str→Option Value},P.Nodup→P[i]?=some x→vs[i]?=some v→kindOf x≠some .local→
 bindC kindOf (P.zip vs) m x=some v
 | [],_,_,_,_,h,_,_=>by simp at h
 | _::_,[],_,_,_,_,h,_=>by simp at h
 | p::P,w::vs,0,m,nd,h1,h2,hk=>by
  simp at h1 h2;subst h1;subst h2
  show bindC kindOf ((p,w)::P.zip vs) m p=_
  unfold bindC
  rw [bindC_out fun v hv=>(List.nodup_cons.mp nd).1 (List.of_mem_zip hv).1,if_neg hk]
  simp
 | p::P,w::vs,i+1,m,nd,h1,h2,hk=>by
  show bindC kindOf ((p,w)::P.zip vs) m x=_
  unfold bindC
  exact bindC_get (i:=i) (List.nodup_cons.mp nd).2 (by simpa using h1) (by simpa using h2) hk
noncomputable def start(N:List Str)(vs:List V):St:=vs.map some++List.replicate (N.length - vs.length) none
noncomputable def cxOf(CX:CXT)(P:Program)(w:World)(K:PySem.W.Frag)(mg:Str→Option Value)(base:Heap)(N:List Str)(qual:Str)(scope:Scope)(f:Addr)(cd:Value)(A:Around)(outer:List Env)(s:Shared)(H:Hp)(E:XK):Cx where
 prog:=P
 w:=w
 K:=K
 mg:=mg
 base:=base
 A:=A.deeper (envOfC qual scope s.heap.objs.size f cd)
 N:=N
 s₀:=s
 H₀:=H
 env:=envOfC qual scope s.heap.objs.size f cd
 outer:=outer
 stack:=envOfC qual scope s.heap.objs.size f cd::outer
 ex:=[]
 calm:=true
 fn:=fun _=>true
 pn:=[]
 xe:=fun e s'=>wpAny (model P w) (A.deeper (envOfC qual scope s.heap.objs.size f cd)) (leaving (envOfC qual scope s.heap.objs.size f cd) e) (fun _ s''=>CX outer H s E e s'') (fun e' s''=>CX outer H s E e' s'') s'
theorem cell_has{sc:Scope}{n:Nat}{x:Str}(h:sc.names.lookup x=some .cell):∃c,(cellsFrom n sc.names []).lookup x=some c:=by
 have q:=PySem.W.cellsFrom_some sc.names n [] (.inl h)
 exact Option.isSome_iff_exists.mp q
theorem inv_start{CX:CXT}{P:Program}{w:World}{K:PySem.W.Frag}{mg:Str→Option Value}{base:Heap}{N ps:List Str}{qual:Str}{scope:Scope}{f:Addr}{cd:Value}{A:Around}{outer:List Env}{s s1:Shared}{H:Hp}{E:XK}{us:List Value}{vs:List V}
 (S:FnScope N ps scope) (hd:A.handled=none) (e0:Env0 P w K mg base A outer s H) (hl:vs.length=ps.length) (r:Vals vs us)
 (x:InCallC s s.heap.objs.size (bindL (envOfC qual scope s.heap.objs.size f cd).kindOf (ps.zip us) fun _=>none) (cellsFrom (s.heap.objs.size+1) scope.names []) (bindC (envOfC qual scope s.heap.objs.size f cd).kindOf (ps.zip us) fun _=>none) s1):
 Inv (cxOf CX P w K mg base N qual scope f cd A outer s H E) [] (start N vs) H s1:=by
 have hpl:ps.length≤N.length:=by have:=congrArg List.length S.pre;rw [List.length_take]at this;omega
 obtain ⟨h1,tk,rfl,hk⟩:=x.done
 have noA:∀b:Addr,b∉(cxOf CX P w K mg base N qual scope f cd A outer s H E).ex:=fun b z=>absurd (show b∈([]:List Addr) from z) (by simp)
 refine ⟨⟨e0.mod,S.kind,rfl,rfl,Nat.le_refl _,fun y z c h1 h2=>?_,fun y hy=>?_,fun y c _ h=>?_,fun _=>hd,Around.frames_deeper e0.frames,.inr ⟨rfl,rfl⟩,fun b z=>absurd z (noA b),e0.bs,e0.bsz,fun b _ _=>noA b,fun b z=>absurd z (noA b),e0.funs,e0.frf⟩,
  rfl,e0.bare,Un.kept hk,⟨_,x.toInCall.ns,fun i y v h1 h2 h3=>?_⟩,fun y c h=>⟨_,x.cell y c h⟩,e0.hok.fresh (Nat.le_refl _),fun y c h=>?_,fun p hp=>absurd (show p∈([]:List (Addr×Obj)) from hp) (by simp),e0.hok.kept hk,?_⟩
 · exact name_of_addr x.apart (PySem.mem_of_lookup h1) (PySem.mem_of_lookup h2)
 · have hy:scope.names.lookup y=some .cell∨scope.names.lookup y=some .free:=hy
   rcases hy with hy | hy
   · exact cell_has hy
   · exact absurd rfl (S.nofree _ (PySem.mem_of_lookup hy))
 · exact Nat.le_of_lt (x.above y c (PySem.mem_of_lookup h))
 · have hi:i < vs.length:=by
    unfold start at h2
    by_cases hi:i < vs.length
    · exact hi
    · rw [List.getElem?_append_right (by simpa using hi)]at h2
      rw [List.getElem?_replicate]at h2
      split at h2 <;> cases h2
   have ha:vs[i]?=some v:=by
    unfold start at h2
    rw [List.getElem?_append_left (by simpa using hi),List.getElem?_map]at h2
    cases e:vs[i]? with
    | none=>rw [e]at h2;cases h2
    | some a=>rw [e]at h2;cases h2;rfl
   obtain ⟨u,hu,rv⟩:=r.get ha
   have hp:ps[i]?=some y:=by
    rw [← S.pre,List.getElem?_take_of_lt (by omega)];exact h1
   have ndP:ps.Nodup:=by rw [← S.pre];exact S.nd.sublist (List.take_sublist _ _)
   refine ⟨u,rv,?_⟩
   rcases S.par y (List.mem_of_getElem? hp) with k | k
   · exact .inl ⟨k,bindL_get ndP hp hu k⟩
   · obtain ⟨c,e⟩:=cell_has (n:=s.heap.objs.size+1) k
     refine .inr ⟨.inl k,c,e,?_⟩
     have q:=x.cell y c e
     rw [bindC_get ndP hp hu (by show scope.names.lookup y≠_;rw [k];decide)]at q
     exact q
 · exact e0.hok.fresh (Nat.le_of_lt (x.above y c (PySem.mem_of_lookup h)))
 · unfold start
   show _=N.length
   rw [List.length_append,List.length_map,List.length_replicate]
   omega
theorem fn_of{CX:CXT}{P:Program}{w:World}{K:PySem.W.Frag}{mg:Str→Option Value}{base:Heap}{k:Nat}{f:Addr}{name qual:Str}{params:Arguments}{body:List Stmt}{scope:Scope}{dV kV doc pm cdv ct oc:Value}{an od:Option Addr}
 {osl:Array (Option Value)} {N ps:List Str} {sp:Sp} (lk:K.lookup f=some ⟨oc,od,.func (PySem.W.fnOf name qual params body scope dV kV doc pm an cdv ct),osl⟩) (hcd:PySem.W.codeIn K cdv qual=true) (S:FnScope N ps scope)
 (len:∀vs H Q E,sp vs H Q E→vs.length=ps.length)
 (hbody:∀(A:Around) (outer:List Env) (s:Shared) (H:Hp) (vs:List V) (Q:VK) (E:XK),Room k (A.deeper (envOfC qual scope s.heap.objs.size f cdv))→sp vs H Q E→
  ∃t,PSs (cxOf CX P w K mg base N qual scope f cdv A outer s H E) body t∧t {nx:=fun _ H'=>Q .non H',rt:=Q} (start N vs) H):
 FnOk P w K mg base CX (k+1) f (PySem.W.fnOf name qual params body scope dV kV doc pm an cdv ct) ps sp:=by
 refine ⟨len,fun A outer s H args us vs Q E hr e0 hb r hsp=>?_⟩
 have hl:=len _ _ _ _ hsp
 have KX:K.In s.heap:=e0.mod.kin.keeps fun b o e=>(e0.bs b o e).1
 have lim:s.heap.NoLimit:=e0.mod.nolimit.keeps fun b o e=>(e0.bs b o e).1
 have hkind:∀y∈ps.zip us,scope.names.lookup y.1=some .local∨(scope.names.lookup y.1=some .cell∧((cellsFrom (s.heap.objs.size+1) scope.names []).lookup y.1).isSome=true):=fun ⟨n,v⟩ hy=>by
  rcases S.par n (List.of_mem_zip hy).1 with q | q
  · exact .inl q
  · exact .inr ⟨q,PySem.W.cellsFrom_some _ _ _ (.inl q)⟩
 refine codeAny_call_function hr.depth (KX _ _ lk) rfl S.co S.gen rfl (PySem.W.codeRec_of KX hcd) (hb _ _ _ _ ?_)
 refine wpAny_newFunctionEnv_cells S.kind hkind fun env he s1 x=>?_
 subst he
 refine ⟨lim.keeps x.toInCall.keep,codeAny_func ?_⟩
 obtain ⟨t,ht,hq⟩:=hbody A outer s H vs Q E (hr.deeper _) hsp
 have I:Inv (cxOf CX P w K mg base N qual scope f cdv A outer s H E) [] (start N vs) H s1:=inv_start S hr.hd e0 hl r x
 refine wpAny_mono (ht [] s1 (start N vs) H _ I hq) (fun fl s' hs=>?_) fun e s' hs=>hs
 have fin:∀{σ':St} {H':Hp} {v:V} {u:Value},Inv (cxOf CX P w K mg base N qual scope f cdv A outer s H E) [] σ' H' s'→RelV v u→Q v H'→CE outer P w H s Q u s':=
  fun {σ' H' v u} J rv q=>⟨v,H',J.os,J.bare,J.base,J.hok,rv,q⟩
 cases fl with
 | ret u=>
  obtain ⟨v,σ',H',J,rv,q⟩:=hs
  exact fin J rv q
 | next=>
  obtain ⟨σ',H',J,q⟩:=hs
  exact fin (v:=V.non) (u:=Value.none) J rfl q
 | brk=>
  obtain ⟨_,_,_,q⟩:=hs
  exact False.elim q
 | cont=>
  obtain ⟨_,_,_,q⟩:=hs
  exact False.elim q
end L2
namespace L2
section
variable {X:Cx} {x:Str} {p pos:Pos} {e:Expr} {es:List Expr} {t:TA} {id T:String} {r:List V→Hp→VK→Prop}
noncomputable def tCB(r:List V→Hp→VK→Prop)(t:TA):TE:=fun σ H Q=>t σ H fun vs H1=>r vs H1 Q
theorem pe_callB(hc:CallR X (.builtin id) r)(hg:Gl X x)(hm:X.mg x=none)(hv:bootBuiltins x=some (.builtin id))(ha:PA X (e::es) t)(hn:x≠"__name__":=by decide)(hdb:(x==("__debug__":Str))=false:=by decide)
 (he:starEach (e::es) X.env=(false,eval e X.env)::starEach es X.env:=by rfl) (hpl:(backTo pos (starEach es X.env)).any (·.1)=false:=by rfl):PE X (.Call (.Name x p) (e::es) [] pos) (tCB r t):=by
 intro pins s σ H Q I h
 refine wpAny_Call_Name_kw (ld_blt I hg hm hv ?_ hn hdb)
 exact PyProof.Rows.callWith_builtin1 (thn (ha pos pins s σ H _ I h) fun us s1 ⟨vs,H1,I1,r1,q1⟩=>hc pins s1 σ H1 vs us Q I1 r1 q1) he hpl
theorem pe_callTy(hc:CallR X (.type T) r)(hg:Gl X x)(hm:X.mg x=none)(hv:bootBuiltins x=some (.type T))(ha:PA X (e::es) t)(hn:x≠"__name__":=by decide)(hdb:(x==("__debug__":Str))=false:=by decide)
 (he:starEach (e::es) X.env=(false,eval e X.env)::starEach es X.env:=by rfl) (hpl:(backTo pos (starEach es X.env)).any (·.1)=false:=by rfl):PE X (.Call (.Name x p) (e::es) [] pos) (tCB r t):=by
 intro pins s σ H Q I h
 refine wpAny_Call_Name_kw (ld_blt I hg hm hv ?_ hn hdb)
 exact PyProof.Rows.callWith_type1 (thn (ha pos pins s σ H _ I h) fun us s1 ⟨vs,H1,I1,r1,q1⟩=>hc pins s1 σ H1 vs us Q I1 r1 q1) he hpl
end
end L2
namespace HT
open PySem PyProof.Rows
section
variable {prog:Program} {w:World} {A:Around} {E:Value→Shared→Prop} {s:Shared}
noncomputable def sIx(n d:Nat):Option Int→Nat
 | none=>d
 | some v=>if v < 0 then (v+(n:Int)).toNat else min v.toNat n
theorem sIx_nat(n d k:Nat):sIx n d (some (k:Int))=min k n:=by
 show (if (k:Int) < 0 then ((k:Int)+(n:Int)).toNat else min (k:Int).toNat n)=min k n
 rw [if_neg (by omega),Int.toNat_natCast]
end
end HT
namespace L2
noncomputable abbrev TO:=St→Hp→(Option Int→Hp→Prop)→Prop
noncomputable def PO(X:Cx)(e:Option Expr)(t:TO):Prop:=
 ∀(pins:List (Addr×Obj)) (s:Shared) (σ:St) (H:Hp) (Q:Option Int→Hp→Prop),Inv X pins σ H s→t σ H Q→
   wpAny (model X.prog X.w) X.A (evalPart e X.env) (fun u s'=>∃o H',Inv X pins σ H' s'∧IsPart u o∧Q o H') X.xe s
noncomputable def tNoPart:TO:=fun _ H Q=>Q none H
noncomputable def tPart(t:TE):TO:=fun σ H Q=>t σ H fun x H1=>∃i,x= .int i∧Q (some i) H1
section
variable {X:Cx} {e:Expr} {te:TE} {lo hi:Option Expr} {tl th:TO} {pos p2:Pos}
theorem po_none:PO X none tNoPart:=by
 intro pins s σ H Q I h
 rw [evalPart_none]
 exact wpAny_pure ⟨none,H,I,.none,h⟩
theorem po_some(h:PE X e te):PO X (some e) (tPart te):=by
 intro pins s σ H Q I hw
 rw [evalPart_some]
 refine thn (h pins s σ H _ I hw) fun u s1 hq_=>?_
 obtain ⟨x,H1,I1,r1,q1⟩:=hq_
 obtain ⟨i,rfl,q⟩:=q1
 obtain ⟨t,rfl⟩:=r1
 exact ⟨some i,H1,I1,.int i t,q⟩
noncomputable def SlR(X:Cx)(r:V→Option Int→Option Int→Hp→VK→Prop):Prop:=
 ∀(pins:List (Addr×Obj)) (s:Shared) (σ:St) (H:Hp) (x:V) (v vl vu:Value) (lo hi:Option Int) (sl:Addr) (Q:VK),Inv X pins σ H s→RelV x v→s.heap.IsSliceOf sl vl vu .none→IsPart vl lo→IsPart vu hi→r x lo hi H Q→
   ∃T id,typeLookup (.type T) "__getitem__"=pure (some (.builtin id))∧s.TypeIs v T∧wpAny (model X.prog X.w) X.A (getItem v (.ref sl)) (EP X pins σ Q) X.xe s
noncomputable def tSl(r:V→Option Int→Option Int→Hp→VK→Prop)(te:TE)(tl th:TO):TE:=fun σ H Q=>te σ H fun x H1=>tl σ H1 fun l H2=>th σ H2 fun u H3=>r x l u H3 Q
theorem pe_slice{r:V→Option Int→Option Int→Hp→VK→Prop}(hr:SlR X r)(he:PE X e te)(hl:PO X lo tl)(hu:PO X hi th):PE X (.Subscript e (.Slice lo hi none p2) pos) (tSl r te tl th):=by
 intro pins s σ H Q I h
 refine Subscript_ (thn (he pins s σ H _ I h) fun v s1 hq_=>?_)
 obtain ⟨x,H1,I1,r1,q1⟩:=hq_
 refine wpAny_Slice (thn (hl pins s1 σ H1 _ I1 q1) fun vl s2 ⟨l,H2,I2,pl,q2⟩=>thn (hu pins s2 σ H2 _ I2 q2) fun vu s3 hq_=>?_)
 obtain ⟨u,H3,I3,pu,q3⟩:=hq_
 rw [evalPart_none]
 refine wpAny_pure ?_
 have I4:Inv X pins σ H3 {s3 with heap:=s3.heap.push {cls:= .type "slice",data:= .fields #[vl,vu,.none]}}:=I3.kept (t':=s3.toks) fun b ob q=>Heap.get?_push_of_some _ q
 obtain ⟨T,id,hT,ht,hg⟩:=hr pins {s3 with heap:=s3.heap.push {cls:= .type "slice",data:= .fields #[vl,vu,.none]}} σ H3 x v vl vu l u s3.heap.objs.size Q I4 r1 (Heap.IsSliceOf.new ..) pl pu q3
 show wpAny (model X.prog X.w) X.A (subscriptTail e (.Slice lo hi none p2) v (.ref s3.heap.objs.size)) (EP X pins σ Q) X.xe {s3 with heap:=s3.heap.push {cls:= .type "slice",data:= .fields #[vl,vu,.none]}}
 exact tail_any (ops:=[.ref s3.heap.objs.size,v]) ht hT hg (by with_unfolding_all rfl)
noncomputable def cutV(xs:List V)(lo hi:Option Int):List V:=(xs.drop (HT.sIx xs.length 0 lo)).take (HT.sIx xs.length xs.length hi - HT.sIx xs.length 0 lo)
theorem cutV_length(xs:List V)(lo hi:Option Int):(cutV xs lo hi).length≤xs.length:=by
 unfold cutV
 rw [List.length_take,List.length_drop]
 omega
end
end L2
namespace L2
noncomputable def ixN(n:Nat)(i:Int):Option Nat:=if 0≤i then (if i < n then some i.toNat else none) else if -(n:Int)≤i then some (i+n).toNat else none
noncomputable def atI{α:Type}(xs:List α)(i:Int):Option α:=(ixN xs.length i).bind fun j=>xs[j]?
theorem ixN_seq{n:Nat}{i:Int}{j:Nat}(h:ixN n i=some j):seqIndex? i n=some j∧j < n∧-(n:Int)≤i∧i < n:=by
 unfold ixN at h
 by_cases h0:0≤i
 · rw [if_pos h0]at h
   by_cases h1:i < n
   · rw [if_pos h1]at h
     have e:i.toNat=j:=Option.some.inj h
     exact ⟨by rw [seqIndex_of h0 h1,e],by omega,by omega,h1⟩
   · rw [if_neg h1]at h;cases h
 · rw [if_neg h0]at h
   by_cases h1:-(n:Int)≤i
   · rw [if_pos h1]at h
     have e:(i+n).toNat=j:=Option.some.inj h
     exact ⟨by rw [seqIndex_neg (by omega) h1,e],by omega,h1,by omega⟩
   · rw [if_neg h1]at h;cases h
theorem atI_get{α:Type}{xs:List α}{i:Int}{v:α}(h:atI xs i=some v):∃j,seqIndex? i xs.length=some j∧xs[j]?=some v∧j < xs.length∧-(xs.length:Int)≤i∧i < xs.length:=by
 unfold atI at h
 cases e:ixN xs.length i with
 | none=>rw [e]at h;cases h
 | some j=>
  rw [e]at h
  obtain ⟨h1,h2,h3,h4⟩:=ixN_seq e
  exact ⟨j,h1,h,h2,h3,h4⟩
theorem atI_nat{α:Type}{xs:List α}{j:Nat}{v:α}(h:xs[j]?=some v):atI xs (j:Int)=some v:=by
 have hj:j < xs.length:=(List.getElem?_eq_some_iff.mp h).1
 have e:ixN xs.length (j:Int)=some j:=by
  unfold ixN
  rw [if_pos (by omega),if_pos (by omega)];simp
 unfold atI;rw [e];exact h
theorem atI_last{α:Type}(xs:List α)(v:α):atI (xs++[v]) (-1)=some v:=by
 have hl:(xs++[v]).length=xs.length+1:=by simp
 have e:ixN (xs++[v]).length (-1)=some xs.length:=by
  unfold ixN
  rw [hl,if_neg (by decide),if_pos (by omega)]
  congr 1
  omega
 unfold atI
 rw [e]
 show (xs++[v])[xs.length]?=some v
 simp
noncomputable def PlainIx(b:Expr):Prop:=∀o i,subscripted b false o i=operate [o,i] (getItem o i)
noncomputable def IxR(X:Cx)(r:R2):Prop:=
 ∀(value slice:Expr) (pins:List (Addr×Obj)) (s:Shared) (σ:St) (H:Hp) (x y:V) (v u:Value) (Q:VK),Inv X pins σ H s→RelV x v→RelV y u→r x y H Q→
   subscripted slice false v u=operate [v,u] (getItem v u)→wpAny (model X.prog X.w) X.A (subscriptTail value slice v u) (EP X pins σ Q) X.xe s
noncomputable def MtR(X:Cx)(id:String)(r:V→List V→Hp→VK→Prop):Prop:=
 ∀(pins:List (Addr×Obj)) (s:Shared) (σ:St) (H:Hp) (x:V) (xs:List V) (v:Value) (us:List Value) (Q:VK),Inv X pins σ H s→RelV x v→Vals xs us→r x xs H Q→
   wpAny (model X.prog X.w) X.A (call (.builtin id) (v::us)) (EP X pins σ Q) X.xe s
section
variable {X:Cx} {a b:Expr} {ta tb:TE} {pos:Pos}
theorem pe_ix{r:R2}(hr:IxR X r)(ha:PE X a ta)(hb:PE X b tb)(hs:PlainIx b):PE X (.Subscript a b pos) (tOp r ta tb):=by
 intro pins s σ H Q I h
 exact Subscript_ (binT ha hb I h fun v u s2 x y H2 I2 rx ry q=>hr a b pins s2 σ H2 x y v u Q I2 rx ry q (hs _ _))
noncomputable def rIxL(K:PySem.W.Frag):R2:=fun x y H Q=>∃p xs i v,x= .ref p∧y= .int i∧SqL K H p xs∧atI xs i=some v∧Q v H
noncomputable def rIxT(K:PySem.W.Frag):R2:=fun x y H Q=>∃p xs i v,x= .ref p∧y= .int i∧SqT K H p xs∧atI xs i=some v∧Q v H
noncomputable def rIxS:R2:=fun x y H Q=>∃z i c,x= .str z∧y= .int i∧z.length≤sizeLine∧atI z.cps.toList i=some c∧Q (.str ⟨#[c]⟩) H
theorem ix_list:IxR X (rIxL X.K):=by
 intro value slice pins s σ H x y v u Q I rx ry h hs
 obtain ⟨p,xs,i,z,rfl,rfl,hq,he,q⟩:=h
 cases rx
 obtain ⟨t,rfl⟩:=ry
 obtain ⟨its,r,pl,hz⟩:=I.list hq
 obtain ⟨j,h1,h2,h3,h4,h5⟩:=atI_get he
 obtain ⟨w,ew,rw'⟩:=r.get h2
 have hl:=r.length
 have hn:=line63
 have fin:EP X pins σ Q w s:=⟨z,H,I,rw',q⟩
 by_cases h0:0≤i
 · have hj:i.toNat=j:=by
    rw [seqIndex_of h0 h5]at h1
    exact Option.some.inj h1
   exact item_listR pl.isList h0 (by omega) (by rw [hj];simpa using ew) fin hs
 · have hj:(i+(its.toArray.size:Int)).toNat=j:=by
    rw [seqIndex_neg (by omega) h4]at h1
    rw [List.size_toArray,← hl]
    exact Option.some.inj h1
   exact subscriptTail_builtinR (x:=w) pl.isList.typeIs slot_list_getitem.lookup
    (wpAny_getItem_list_neg (Q:=fun r s'=>r=w∧EP X pins σ Q r s') pl.isList (by omega) (by rw [List.size_toArray] <;> omega) (by omega) (by rw [hj];simpa using ew) ⟨rfl,fin⟩) hs
theorem ix_tup:IxR X (rIxT X.K):=by
 intro value slice pins s σ H x y v u Q I rx ry h hs
 obtain ⟨p,xs,i,z,rfl,rfl,hq,he,q⟩:=h
 cases rx
 obtain ⟨t,rfl⟩:=ry
 obtain ⟨its,r,pl,hz⟩:=I.tuple hq
 obtain ⟨j,h1,h2,h3,h4,h5⟩:=atI_get he
 obtain ⟨w,ew,rw'⟩:=r.get h2
 have hl:=r.length
 have hn:=line63
 have fin:EP X pins σ Q w s:=⟨z,H,I,rw',q⟩
 exact subscriptTail_builtinR (x:=w) pl.typeIs slot_tuple_getitem.lookup
  (getItem_tuple (j:=j) (Q:=fun r s'=>r=w∧EP X pins σ Q r s') pl (by omega) (by omega) (by rw [List.size_toArray,← hl];exact h1) (by simpa using ew) ⟨rfl,fin⟩) hs
theorem ix_str:IxR X rIxS:=by
 intro value slice pins s σ H x y v u Q I rx ry h hs
 obtain ⟨z,i,c,rfl,rfl,hz,he,q⟩:=h
 obtain ⟨t,rfl⟩:=rx
 obtain ⟨t',rfl⟩:=ry
 obtain ⟨j,h1,h2,h3,h4,h5⟩:=atI_get he
 have hl:z.cps.toList.length=z.length:=by simp [Str.length]
 rw [hl]at h1 h4 h5
 have hn:=line63
 exact tail_any (typeIs_str s z t) slot_str_getitem.lookup (getItem_str (c:=c) (by
  have e1:decide (i < -(2 ^ 63:Int))=false:=decide_eq_false (by omega)
  have e2:decide (i ≥ 2 ^ 63)=false:=decide_eq_false (by omega)
  rw [e1,e2,Bool.or_false]) (by rw [h1];simpa using h2) ⟨.str ⟨#[c]⟩,H,I.tok _,⟨_,rfl⟩,q⟩) hs
theorem mapSeq_set(its:List Value)(n j:Nat)(u:Value):Obj.mapSeq (·.setIfInBounds j u) {cls:= .type "list",data:= .seq its.toArray n}={cls:= .type "list",data:= .seq (its.set j u).toArray n}:=by
 simp [Obj.mapSeq]
theorem Inv.lst{pins:List (Addr×Obj)}{σ:St}{H:Hp}{s:Shared}{p:Addr}{xs:List V}(I:Inv X pins σ H s)(h:H p=some (.lst xs)):
 ∃(its:List Value) (n:Nat),Vals xs its∧s.heap.get? p=some {cls:= .type "list",data:= .seq its.toArray n}∧xs.length≤sizeLine:=by
 obtain ⟨z,its,n,r,e⟩:=I.hok p _ h
 exact ⟨its,n,r,e,z⟩
theorem Inv.lstUpd{pins:List (Addr×Obj)}{σ:St}{H:Hp}{s:Shared}{p:Addr}{xs ys:List V}{its its':List Value}{n n':Nat}{f:Obj→Obj}(I:Inv X pins σ H s)(h:H p=some (.lst xs))
 (ho:s.heap.get? p=some {cls:= .type "list",data:= .seq its.toArray n}) (hf:f {cls:= .type "list",data:= .seq its.toArray n}={cls:= .type "list",data:= .seq its'.toArray n'}) (r:Vals ys its') (hz:ys.length≤sizeLine) (t:Nat):
 Inv X pins σ (upd H p (.lst ys)) {s with heap:=s.heap.update p f,toks:=t}:=by
 have e:(s.heap.update p f).get? p=some {cls:= .type "list",data:= .seq its'.toArray n'}:=by
  rw [Heap.get?_update_self f ho (by rw [hf] <;> rfl),hf]
 refine I.write (x:=p) (e:=p) (by rw [h];trivial) (.inl rfl) (fun b u hb q=>(Heap.get?_update_other _ _ (Ne.symm hb)).trans q) ⟨_,e⟩ ?_
 exact ⟨hz,its',n',r,e⟩
noncomputable def rSetL:V→V→V→Hp→(Hp→Prop)→Prop:=fun o i v H Q=>∃p xs k j,o= .ref p∧i= .int k∧H p=some (.lst xs)∧ixN xs.length k=some j∧Q (upd H p (.lst (xs.set j v)))
theorem set_list:PSet X rSetL:=by
 intro pins s σ H o i v ov iv u Q I ro ri rv h
 obtain ⟨p,xs,k,j,rfl,rfl,hp,hj,q⟩:=h
 cases ro
 obtain ⟨t,rfl⟩:=ri
 obtain ⟨its,n,r,ho,hz⟩:=I.lst hp
 obtain ⟨h1,h2,h3,h4⟩:=ixN_seq hj
 have hl:=r.length
 have hn:=line63
 have I':Inv X pins σ (upd H p (.lst (xs.set j v))) {s with heap:=s.heap.update p (Obj.mapSeq (·.setIfInBounds j u))}:=
  I.lstUpd hp ho (mapSeq_set its n j u) (r.set rv j) (by rw [List.length_set];exact hz) s.toks
 by_cases h0:0≤k
 · have hk:k.toNat=j:=by
    rw [seqIndex_of h0 h4]at h1
    exact Option.some.inj h1
   exact PySem.W.ki_setAt ho h0 (by omega) (by rw [List.size_toArray,← hl];exact h4) (by rw [hk];exact ⟨_,I',q⟩)
 · have hk:(k+(its.toArray.size:Int)).toNat=j:=by
    rw [seqIndex_neg (by omega) h3]at h1
    rw [List.size_toArray,← hl]
    exact Option.some.inj h1
   exact PySem.W.ki_setBack ho (by omega) (by rw [List.size_toArray,← hl];exact h3) (by omega) (by rw [hk];exact ⟨_,I',q⟩)
theorem slice_bounds(lo hi:Option Int)(n:Nat):(sliceBounds lo hi none n).1=((HT.sIx n 0 lo:Nat):Int)∧(sliceBounds lo hi none n).2.1=((HT.sIx n n hi:Nat):Int)∧(sliceBounds lo hi none n).2.2=1:=by
 refine ⟨?_,?_,rfl⟩
 · cases lo with
   | none=>simp [sliceBounds,HT.sIx]
   | some i=>
    simp only [sliceBounds,HT.sIx,Option.getD_none,show (1:Int) > 0 by decide,if_true]
    by_cases h:i < 0
    · simp only [h,if_true] <;> omega
    · simp only [h,if_false] <;> omega
 · cases hi with
   | none=>simp [sliceBounds,HT.sIx]
   | some i=>
    simp only [sliceBounds,HT.sIx,Option.getD_none,show (1:Int) > 0 by decide,if_true]
    by_cases h:i < 0
    · simp only [h,if_true] <;> omega
    · simp only [h,if_false] <;> omega
theorem slicePick_cut(its:List Value)(lo hi:Option Int):slicePick its.toArray lo hi none=((its.drop (HT.sIx its.length 0 lo)).take (HT.sIx its.length its.length hi - HT.sIx its.length 0 lo)).toArray:=by
 obtain ⟨h1,h2,h3⟩:=slice_bounds lo hi its.toArray.size
 unfold slicePick
 rw [h1,h2,h3]
 simp only [sliceRange_one,pick_run,List.size_toArray] <;> rfl
noncomputable def rSlL(K:PySem.W.Frag):V→Option Int→Option Int→Hp→VK→Prop:=fun x lo hi H Q=>∃a xs,x= .ref a∧SqL K H a xs∧∀p,H p=none→Q (.ref p) (upd H p (.lst (cutV xs lo hi)))
theorem sl_list:SlR X (rSlL X.K):=by
 intro pins s σ H x v vl vu lo hi sl Q I rx hs pl pu h
 obtain ⟨a,xs,rfl,hx,q⟩:=h
 cases rx
 obtain ⟨its,r,ht,hz⟩:=I.list hx
 have hlen:=r.length
 refine ⟨"list",_,slot_list_getitem.lookup,ht.isList.typeIs,?_⟩
 refine wpAny_getItem_list_slice ht.isList hs pl pu .none (by simp) ?_ (by rw [List.size_toArray] <;> omega)
 rw [slicePick_cut,← hlen]
 refine ⟨.ref s.heap.objs.size,_,I.laid (t':=s.toks) (o:= .lst (cutV xs lo hi)) (fun b ob q=>Heap.get?_push_of_some _ q) (Nat.le_refl _) ?_,rfl,q _ (I.hok.fresh (Nat.le_refl _))⟩
 exact ⟨Nat.le_trans (cutV_length xs lo hi) hz,_,0,(r.drop (HT.sIx xs.length 0 lo)).take (HT.sIx xs.length xs.length hi - HT.sIx xs.length 0 lo),Heap.get?_push_size _ rfl⟩
noncomputable def flatV:V→Bool
 | .non=>true
 | .bl _=>true
 | .int _=>true
 | .str _=>true
 | _=>false
noncomputable def eqV:V→V→Bool
 | .non,.non=>true
 | .bl a,.bl b=>a==b
 | .bl a,.int b=>(if a then 1 else 0)==b
 | .int a,.bl b=>a==(if b then 1 else 0)
 | .int a,.int b=>a==b
 | .str a,.str b=>a==b
 | _,_=>false
theorem call_len_seq:CallR X (.builtin "len") (fun xs H Q=>∃p ys,xs=[.ref p]∧(SqL X.K H p ys∨SqT X.K H p ys)∧Q (.int ys.length) H):=by
 intro pins s σ H xs us Q I r h
 obtain ⟨p,ys,rfl,hq,q⟩:=h
 obtain ⟨u,rfl,rx⟩:=vals1 r
 cases rx
 have hn:=line63
 rcases hq with hq | hq
 · obtain ⟨its,r',pl,hz⟩:=I.list hq
   have hlen:=r'.length
   exact Calls.call_len_list pl.isList (by simp only [List.size_toArray] <;> omega) ⟨.int ys.length,H,I.tok _,⟨s.toks+1,by rw [List.size_toArray,hlen]⟩,q⟩
 · obtain ⟨its,r',pl,hz⟩:=I.tuple hq
   have hlen:=r'.length
   exact len_tuple pl (by simp only [List.size_toArray] <;> omega) ⟨.int ys.length,H,I.tok _,⟨s.toks+1,by rw [List.size_toArray,hlen]⟩,q⟩
theorem call_len_str:CallR X (.builtin "len") (fun xs H Q=>∃z,xs=[.str z]∧z.length≤sizeLine∧Q (.int z.length) H):=by
 intro pins s σ H xs us Q I r h
 obtain ⟨z,rfl,hz,q⟩:=h
 obtain ⟨u,rfl,t,rfl⟩:=vals1 r
 have hn:=line63
 exact len_str (by omega) ⟨.int z.length,H,I.tok _,⟨_,rfl⟩,q⟩
theorem call_list_of:CallR X (.type "list") (fun xs H Q=>∃p ys,xs=[.ref p]∧(SqL X.K H p ys∨SqT X.K H p ys)∧∀l,H l=none→Q (.ref l) (upd H l (.lst ys))):=by
 intro pins s σ H xs us Q I r h
 obtain ⟨p,ys,rfl,hq,q⟩:=h
 obtain ⟨u,rfl,rx⟩:=vals1 r
 cases rx
 have fin:∀(its:List Value),Vals ys its→ys.length≤sizeLine→∀(h':Heap) (c':Nat),(∀b o',s.heap.get? b=some o'→h'.get? b=some o')→
  h'.get? s.heap.objs.size=some {cls:= .type "list",dict:=none,data:= .seq its.toArray c',slots:=#[]}→EP X pins σ Q (.ref s.heap.objs.size) {s with heap:=h'}:=fun its r' hz h' c' kp e=>
  ⟨.ref s.heap.objs.size,_,I.laid (t':=s.toks) kp (Nat.le_refl _) (show ObjOk X.prog X.w _ h' _ (.lst ys) from ⟨hz,its,c',r',e⟩),rfl,q _ (I.hok.fresh (Nat.le_refl _))⟩
 rcases hq with hq | hq
 · obtain ⟨its,r',pl,hz⟩:=I.list hq
   have hlen:=r'.length
   obtain ⟨o,ho,hc,n,hd⟩:=pl.isList
   exact call_list_seq p (.inl rfl) ho hc hd (fun h' c' kp e=>fin its r' hz h' c' kp e) (by simp only [List.size_toArray] <;> omega)
 · obtain ⟨its,r',pl,hz⟩:=I.tuple hq
   have hlen:=r'.length
   obtain ⟨o,ho,hc,n,hd⟩:=pl
   exact call_list_seq p (.inr rfl) ho hc hd (fun h' c' kp e=>fin its r' hz h' c' kp e) (by simp only [List.size_toArray] <;> omega)
noncomputable def tyV(K:PySem.W.Frag)(T:String)(x:V)(H:Hp):Prop:=match x with
 | .str _=>T="str"
 | .int _=>T="int"
 | .ref p=>(T="list"∧∃xs,SqL K H p xs)∨(T="tuple"∧∃o,K.lookup p=some o∧o.cls= .type "tuple"∧o.dict=none)∨
  (T="dict"∧((∃kvs,H p=some (.dK kvs))∨∃kvs,H p=some (.dT kvs)))∨(T="set"∧∃S n,H p=some (.set S n))
 | _=>False
theorem tyV_is{pins:List (Addr×Obj)}{σ:St}{H:Hp}{s:Shared}{T:String}{x:V}{v:Value}(I:Inv X pins σ H s)(r:RelV x v)(ty:tyV X.K T x H):
 s.TypeIs v T∧∀a,v= .ref a→∃ob,s.heap.get? a=some ob∧ob.dict=none:=by
 cases x with
 | str z=>
  obtain ⟨t,rfl⟩:=r
  cases (show T="str" from ty)
  exact ⟨typeIs_str s z t,fun _ e=>nomatch e⟩
 | int i=>
  obtain ⟨t,rfl⟩:=r
  cases (show T="int" from ty)
  exact ⟨typeIs_int s i t,fun _ e=>nomatch e⟩
 | ref p=>
  cases r
  rcases ty with ⟨rfl,xs,hq⟩ | ⟨rfl,o,hk,hc,hd⟩ | ⟨rfl,hk⟩ | ⟨rfl,S,n,hk⟩
  · obtain ⟨its,_,pl,_⟩:=I.list hq
    refine ⟨pl.isList.typeIs,fun a e=>?_⟩
    cases e
    obtain ⟨o,n,e,c,hd,_⟩:=pl
    exact ⟨o,e,hd⟩
  · refine ⟨⟨o,I.kIn p o hk,hc⟩,fun a e=>?_⟩
    cases e
    exact ⟨o,I.kIn _ o hk,hd⟩
  · have z:∃o,s.heap.get? p=some o∧o.ExactDict:=by
     rcases hk with ⟨kvs,hk⟩ | ⟨kvs,hk⟩
     · obtain ⟨_,_,_,_,o,_,_,e,ex,_⟩:=I.hok p _ hk
       exact ⟨o,e,ex⟩
     · obtain ⟨_,_,_,_,o,_,_,e,ex,_⟩:=I.hok p _ hk
       exact ⟨o,e,ex⟩
    obtain ⟨o,e,ex⟩:=z
    refine ⟨⟨o,e,ex.1⟩,fun a e2=>?_⟩
    cases e2
    exact ⟨o,e,ex.2.1⟩
  · obtain ⟨o,_,_,_,e,ex,_⟩:=I.hok p _ hk
    refine ⟨⟨o,e,ex.1⟩,fun a e2=>?_⟩
    cases e2
    exact ⟨o,e,ex.2.1⟩
 | _=>exact False.elim ty
noncomputable def tBM0(K:PySem.W.Frag)(T:String)(r:V→List V→Hp→VK→Prop)(to:TE):TE:=fun σ H Q=>to σ H fun x H1=>tyV K T x H1∧r x [] H1 Q
noncomputable def tBM(K:PySem.W.Frag)(T:String)(r:V→List V→Hp→VK→Prop)(to:TE)(t:TA):TE:=fun σ H Q=>to σ H fun x H1=>tyV K T x H1∧t σ H1 fun xs H2=>r x xs H2 Q
variable {o e:Expr} {es:List Expr} {to:TE} {t:TA} {name:Str} {apos cpos:Pos} {T id:String} {r:V→List V→Hp→VK→Prop}
theorem pe_bm0(pa:PlainAttrs T)(slot:Slot T name id)(hty:typeOf (.builtin id)=pure (.type "method_descriptor"))(hm:MtR X id r)(ho:PE X o to)
 (hbase:attributeBase o name X.env (eval o X.env)=eval o X.env:=by rfl) (hline:(apos.endLine==cpos.line)=true:=by rfl):PE X (.Call (.Attribute o name apos) [] [] cpos) (tBM0 X.K T r to):=by
 intro pins s σ H Q I h
 refine wpAny_Call_method0_late hbase hline (thn (ho pins s σ H _ I h) fun v s1 hq_=>?_)
 obtain ⟨x,H1,I1,r1,ty,q1⟩:=hq_
 obtain ⟨h1,h2⟩:=tyV_is I1 r1 ty
 exact ⟨T,id,pa,slot,hty,h1,h2,Calls.callWith_builtin rfl (PySem.evalArgs_none (hm pins s1 σ H1 x [] v [] Q I1 r1 .nil q1))⟩
theorem pe_bm(pa:PlainAttrs T)(slot:Slot T name id)(hty:typeOf (.builtin id)=pure (.type "method_descriptor"))(hm:MtR X id r)(ho:PE X o to)(ha:PA X (e::es) t)
 (hbase:attributeBase o name X.env (eval o X.env)=eval o X.env:=by rfl)
 (hfew:((backTo cpos (starEach (e::es) X.env)).all (fun x=>!x.1) && (backToKw cpos (keywordEach [] X.env)).all (fun x=>x.1.isSome)
  && decide ((e::es).length+([]:List Keyword).length+(if ([]:List Keyword).isEmpty then 0 else 1) < 30))=true:=by rfl)
 (hline:(apos.endLine==cpos.line)=true:=by rfl) (hs:starEach (e::es) X.env=(false,eval e X.env)::starEach es X.env:=by rfl) (hplain:(backTo cpos (starEach es X.env)).any (·.1)=false:=by rfl):
 PE X (.Call (.Attribute o name apos) (e::es) [] cpos) (tBM X.K T r to t):=by
 intro pins s σ H Q I h
 refine wpAny_Call_method_late hbase hfew hline rfl (thn (ho pins s σ H _ I h) fun v s1 hq_=>?_)
 obtain ⟨x,H1,I1,r1,ty,q1⟩:=hq_
 obtain ⟨h1,h2⟩:=tyV_is I1 r1 ty
 refine ⟨T,id,pa,slot,hty,h1,h2,?_⟩
 have hA:=ha cpos pins s1 σ H1 _ I1 q1
 rw [hs]at hA ⊢
 refine Calls.callWith_builtin (by show (false || (backTo cpos (starEach es X.env)).any (·.1))=false;rw [hplain] <;> rfl) (Calls.evalArgs_plain ?_)
 exact thn hA fun us s2 ⟨vs,H2,I2,r2,q2⟩=>hm pins s2 σ H2 x vs v us Q I2 r1 r2 q2
end
end L2
namespace L2
noncomputable def MtM(X:Cx)(id:String)(r:V→List V→Hp→VK→Prop):Prop:=
 ∀(pins:List (Addr×Obj)) (s:Shared) (σ:St) (H:Hp) (x:V) (xs:List V) (v:Value) (us:List Value) (Q:VK),Inv X pins σ H s→RelV x v→Vals xs us→r x xs H Q→
   wpAny (model X.prog X.w) X.A (call (.builtin id) (v::us)) (EP X pins σ Q) X.xe s
theorem Vals.one:∀{x:V} {us:List Value},Vals [x] us→∃u,us=[u]∧RelV x u
 | _,_,.cons r .nil=>⟨_,rfl,r⟩
theorem Vals.zero:∀{us:List Value},Vals [] us→us=[]
 | _,.nil=>rfl
section
variable {X:Cx} {pins:List (Addr×Obj)} {σ:St} {H:Hp} {s:Shared} {l b:Addr} {xs ys zs:List V}
theorem Inv.lset{its its':List Value}{n:Nat}{f:Array Value→Array Value}{t':Nat}(I:Inv X pins σ H s)(hH:H l=some (.lst xs))
 (e:s.heap.get? l=some {cls:= .type "list",data:= .seq its.toArray n}) (hf:f its.toArray=its'.toArray) (hv:Vals ys its') (hz:ys.length≤sizeLine):
 Inv X pins σ (upd H l (.lst ys)) {s with heap:=s.heap.update l (Obj.mapSeq f),toks:=t'}:=by
 have q:=PySem.IsL.update e f
 rw [hf]at q
 refine I.write (x:=l) (e:=l) (by rw [hH];exact trivial) (.inl rfl) (fun b' u hb hu=>(Heap.get?_update_other s.heap (Obj.mapSeq f) (Ne.symm hb)).trans hu) ⟨_,q⟩ ?_
 exact ⟨hz,its',_,hv,q⟩
theorem Inv.lnew{its:List Value}{t':Nat}(I:Inv X pins σ H s)(hv:Vals ys its)(hz:ys.length≤sizeLine):
 Inv X pins σ (upd H s.heap.objs.size (.lst ys)) {s with heap:=s.heap.push {cls:= .type "list",data:= .seq its.toArray},toks:=t'}:=
 I.laid (fun _ _ q=>Heap.get?_push_of_some _ q) (Nat.le_refl _) ⟨hz,its,0,hv,Heap.get?_push_size _ rfl⟩
theorem Inv.fresh(I:Inv X pins σ H s):H s.heap.objs.size=none:=I.hok.fresh (Nat.le_refl _)
theorem Inv.lstM(I:Inv X pins σ H s)(hH:H l=some (.lst xs)):xs.length≤sizeLine∧∃(its:List Value) (n:Nat),Vals xs its∧xs.length=its.length∧s.heap.get? l=some {cls:= .type "list",data:= .seq its.toArray n}:=by
 obtain ⟨z,its,n,r,e⟩:=I.hok l _ hH
 exact ⟨z,its,n,r,r.length,e⟩
end
section
variable {X:Cx}
noncomputable def rAppend:V→List V→Hp→VK→Prop:=fun x vs H Q=>∃l xs y,x= .ref l∧vs=[y]∧H l=some (.lst xs)∧xs.length < sizeLine∧Q .non (upd H l (.lst (xs++[y])))
theorem mt_append:MtM X "list.append" rAppend:=by
 intro pins s σ H x vs v us Q I rx rv h
 obtain ⟨l,xs,y,rfl,rfl,hH,hz,q⟩:=h
 cases rx
 obtain ⟨u,rfl,ru⟩:=rv.one
 obtain ⟨z,its,n,r,hl,e⟩:=I.lstM hH
 refine call_meets F.slot_list_append ⟨_,e,rfl⟩ F.entry_list_append (F.args_list_append_2 _ _) (PySem.list_append l its.toArray n u (by rw [List.size_toArray];omega)) ⟨e,?_⟩
 refine ⟨.non,_,I.lset (its':=its++[u]) hH e (by simp) (r.append (.cons ru .nil)) ?_,rfl,q⟩
 rw [List.length_append,List.length_singleton]
 omega
noncomputable def rPopAt:V→List V→Hp→VK→Prop:=fun x vs H Q=>∃l xs i k y,x= .ref l∧vs=[.int i]∧H l=some (.lst xs)∧-(2 ^ 63)≤i∧i < 2 ^ 63∧seqIndex? i xs.length=some k∧xs[k]?=some y∧Q y (upd H l (.lst (xs.eraseIdx k)))
noncomputable def rCat:R2:=fun x y H Q=>∃l b xs zs,x= .ref l∧y= .ref b∧H l=some (.lst xs)∧H b=some (.lst zs)∧xs.length+zs.length≤sizeLine∧∀p,H p=none→Q (.ref p) (upd H p (.lst (xs++zs)))
theorem op_cat:OpR X (binaryOp .Add) rCat:=by
 intro pins s σ H x y v u Q I rx ry h
 obtain ⟨l,b,xs,zs,rfl,rfl,hH,hB,hz,q⟩:=h
 cases rx
 cases ry
 obtain ⟨z,its,n,r,hl,e⟩:=I.lstM hH
 obtain ⟨z2,its2,n2,r2,hl2,e2⟩:=I.lstM hB
 refine PySem.P.add_list e e2 ?_ (by rw [List.size_toArray,List.size_toArray];omega)
 have ea:its.toArray++its2.toArray=(its++its2).toArray:=by simp
 rw [ea]
 exact ⟨.ref _,_,I.lnew (t':=s.toks) (r.append r2) (by rw [List.length_append];omega),rfl,q _ I.fresh⟩
end
end L2
namespace Att
open PySem PySem.W PySem.Calls PyProof.Rows
theorem ints_of_wellAll{P:Params}{h:Heap}:∀(ns:List Int) (vs:List Value),WellAll P h vs (ns.map WData.int)→IntsAre vs ns:=by
 intro ns
 induction ns with
 | nil=>
  intro vs w
  rw [List.map_nil]at w
  cases w
  exact .nil
 | cons n ns ih=>
  intro vs w
  rw [List.map_cons]at w
  cases w with
  | cons a b=>
   cases a
   exact .cons _ _ (ih _ b)
theorem script_of{l:OpenLaw}{n:Nat}(hn:l.most=some n){P:Params}{h:Heap}{args:List WData}{vals:List Value}
 (hpre:l.row.toRowW.claim.pre args=true) (hwl:WellAll P h vals args):
 ∃a vs ns,vals=[Value.ref a]∧args=[WData.list (ns.map WData.int)]∧h.get? a=some {cls:= .type "list",data:= .seq vs.toArray}∧IntsAre vs ns∧ns.length≤n:=by
 have hsh:WShape.hasAll [] args [.list .int]=true:=(pre_splitW hpre).1
 have hc:l.pre.holds [] {args:=args}=true:=(pre_splitW hpre).2
 obtain ⟨d,r,rfl,h1,h2⟩:=hasAllW_cons hsh
 obtain rfl:=hasAllW_nil h2
 obtain ⟨xs,rfl,h3⟩:=hasW_list h1
 obtain ⟨ns,rfl⟩:=items_int h3
 have hlen:ns.length≤n:=by
  unfold OpenLaw.pre at hc
  have h4:(WTm.not (.lt (.lit (.int (n:Int))) (.len (.arg 0)))).holds [] {args:=[.list (ns.map .int)]}=true:=by
   have h4:=(holds_andW hc).1
   rw [hn]at h4
   exact h4
  have h5:=condW_of h4 (w_not (w_lt w_lit (w_len_list (w_arg rfl))))
  rw [List.length_map]at h5
  refine Nat.le_of_not_lt fun q=>?_
  have q':(n:Int) < ((ns.length:Nat):Int):=by omega
  first
   | (rw [decide_eq_true q']at h5;exact absurd h5 (by decide))
   | (simp at h5;omega)
 cases hwl with
 | cons w1 w2=>
  cases w2
  cases w1 with
  | list ho hall=>exact ⟨_,_,ns,rfl,rfl,ho,ints_of_wellAll ns _ hall,hlen⟩
theorem post_true(l:OpenLaw)(args:List WData):l.row.toRowW.claim.post args (.bool true) args=true:=
 postW_of (r:=l.row.toRowW) (X:=(true==true))
  (show WShape.has [] (.bool true) .bool=true by first | rfl | decide | simp [WShape.has,WShape.arms,WShape.armsAll])
  (show (WTm.eq .res (.lit (.bool true))).value [] {args:=args,res:=some (.bool true),after:=args}=some (.bool (true==true)) from w_eq_bool (w_res rfl) w_lit) rfl
theorem attach_call{l:OpenLaw}{n:Nat}{q:Program}{loose:List Str}{XP:(Str→Option Value)→Heap→Prop}{YP:World→Heap→Prop}{d:DefRec}
 (hn:l.most=some n) (hdf:d.params.defaults=[])
 (call:∀(w:World) (s₀ s₁:Shared) (mg mb:Str→Option Value) (fa:Addr) (o:Obj) (pm cd doc:Value) (a:Addr) (vs:List Value) (ns:List Int),
  Ground q loose [] XP w s₀ mg mb s₁.heap→YP w s₁.heap→
  s₁.heap.get? fa=some o→o.data= .func (docDef d.name d.params d.body d.scope pm cd doc)→s₁.heap.CodeRec cd d.name→mg d.name=some (.ref fa)→
  s₁.heap.get? a=some {cls:= .type "list",data:= .seq vs.toArray}→IntsAre vs ns→ns.length≤n→s₁.gens=#[]→
  codeAny (model l.prog w) callerA (.call (.ref fa) ⟨[.ref a],[]⟩) (fun r s'=>r= .ok (.ret (.bool true))∧OldK s₁.heap s'.heap∧s'.os=s₁.os∧AllBare s'.gens) s₁):
 WalkO q loose XP YP l.row.toRowW d [] (fun f vs=>PySem.call f vs):=by
 intro w s₀ s₁ mg mb G Y fa o pm cd doc dV kV ho hd hcd hD hmg hg args vals as hpre hlay hrd hwl hlo
 obtain rfl:dV= .none:=Dflts.none hD hdf
 obtain rfl:kV= .none:=Dflts.noKw hD
 obtain ⟨a,vs,ns,rfl,rfl,hobj,hints,hlen⟩:=script_of hn hpre hwl
 refine enter_call (codeAny_mono (call w s₀ s₁ mg mb fa o pm cd doc a vs ns G Y ho (fd_plain hd) hcd hmg hobj hints hlen hg) fun r s' hq=>?_)
 obtain ⟨rfl,h2,h3,h4⟩:=hq
 exact ⟨.inl ⟨.bool true,.bool true,[],rfl,fun _=>rfl,.bool true,post_true l _,fun _=>⟨List.Pairwise.nil,fun _ hm=>(nomatch hm)⟩⟩,h2,h3,h4⟩
end Att
namespace L2
theorem vals_ints:∀{vs:List Value} {ns:List Int},IntsAre vs ns→Vals (ns.map V.int) vs
 | _,_,.nil=> .nil
 | _,_,.cons n t h=> .cons ⟨t,rfl⟩ (vals_ints h)
noncomputable def Only(H:Hp):Prop:=∀b,H b=none∨∃o xs,H b=some (.frz o (.lst xs))
theorem law_call{P:Program}{w:World}{K:PySem.W.Frag}{mg mb:Str→Option Value}{CX:CXT}{k:Nat}{fa a:Addr}{fd:FuncData}{x:Str}{sp:Sp}{s₁:Shared}{vs:List Value}{ns:List Int}
 (KX:K.In s₁.heap) (hns:s₁.heap.Ns mainGlobals mg) (hb:s₁.heap.Ns builtinsNs mb) (hbb:∀x:Str,x≠"__name__"→mb x=bootBuiltins x) (hlim:s₁.heap.NoLimit) (hg:s₁.gens=#[])
 (ha:s₁.heap.get? a=some {cls:= .type "list",data:= .seq vs.toArray}) (hi:IntsAre vs ns) (hl:ns.length≤sizeLine) (hr:Room k callerA)
 (F:∀base:Heap,K.In base→base.Ns mainGlobals mg→FnOk P w K mg base CX k fa fd [x] sp) (hbind:∀(s:Shared) (u:Value),BindsTo s fd ⟨[u],[]⟩ [(x,u)])
 (hsp:∀H:Hp,Only H→SqL K H a (ns.map V.int)→sp [.ref a] H (fun v _=>v= .bl true) fun _ _ _=>False)
 (hCX:∀H e s',CX [] H s₁ (fun _ _ _=>False) e s'→False):
 codeAny (model P w) callerA (.call (.ref fa) ⟨[.ref a],[]⟩) (fun r s'=>r= .ok (.ret (.bool true))∧OldK s₁.heap s'.heap∧s'.os=s₁.os∧AllBare s'.gens) s₁:=by
 have rv:=vals_ints hi
 have lenV:=hi.length
 have core:∀H:Hp,Only H→SqL K H a (ns.map V.int)→HOk P w H s₁.heap→(∀b,H b≠none→b=a)→(H a≠none→K.lookup a=none)→
  codeAny (model P w) callerA (.call (.ref fa) ⟨[.ref a],[]⟩) (fun r s'=>r= .ok (.ret (.bool true))∧OldK s₁.heap s'.heap∧s'.os=s₁.os∧AllBare s'.gens) s₁:=by
  intro H hO hS hok hA hK
  have base_of:∀{b:Addr} {o:Obj},s₁.heap.get? b=some o→H b=none→(hidT s₁.heap H).get? b=some o:=fun e n=>hidT_get e n
  have noA:∀{b:Addr} {o:Obj} {es:Array DictEntry} {ep:Nat},s₁.heap.get? b=some o→o.data= .dict es ep→H b=none:=fun {b o es ep} e d=>by
   cases q:H b with
   | none=>rfl
   | some u=>
    have e':b=a:=hA b (by rw [q];simp)
    subst e'
    rw [ha]at e;cases e
    have d':Data.seq vs.toArray _=Data.dict es ep:=d
    cases d'
  have nsK:∀{b:Addr} {m:Str→Option Value},s₁.heap.Ns b m→(hidT s₁.heap H).Ns b m:=fun {b m} ⟨o,es,ep,e,d,r⟩=>⟨o,es,ep,base_of e (noA e d),d,r⟩
  have hKb:K.In (hidT s₁.heap H):=fun b o e=>base_of (KX b o e) (by
   cases q:H b with
   | none=>rfl
   | some u=>
    have e':b=a:=hA b (by rw [q];simp)
    subst e'
    rw [hK (by rw [q];simp)]at e;cases e)
  have hM:Mod K mg (hidT s₁.heap H):=⟨hKb,nsK hns,⟨mb,nsK hb,hbb⟩,let ⟨mc,h1,h2⟩:=hlim;⟨mc,nsK h1,h2⟩⟩
  have e0:Env0 P w K mg (hidT s₁.heap H) callerA [] s₁ H:=⟨rfl,hM,fun b o e=>of_hidT e,Nat.le_of_eq (hidT_size _ _),trivial,fun b hb=>absurd (show b∈([]:List Addr) from hb) (by simp),hok,.of_eq hg⟩
  refine codeAny_mono ((F _ hKb (nsK hns)).run callerA [] s₁ H ⟨[.ref a],[]⟩ [.ref a] [.ref a] _ _ hr e0 (hbind s₁ (.ref a)) (.cons rfl .nil) (hsp H hO hS)) fun r s' h=>?_
  cases r with
  | error e=>exact (hCX H e s' h).elim
  | ok fl=>
   cases fl with
   | next=>exact False.elim h
   | brk=>exact False.elim h
   | cont=>exact False.elim h
   | ret u=>
    obtain ⟨v,H',os,bare,un,hok',r',q⟩:=h
    have q':v= .bl true:=q
    subst q'
    obtain rfl:u=Value.bool true:=r'
    refine ⟨rfl,OldK.of_keep fun b o e=>?_,os,bare⟩
    cases q:H b with
    | none=>exact un.keep b o e q (by intro z;exact absurd (show b∈([]:List Addr) from z) (by simp)) (by simp)
    | some u=>
     rcases hO b with z | ⟨ob,xs,z⟩
     · rw [q]at z;cases z
     · have z2:=un.frzs b ob _ z
       obtain ⟨e1,_⟩:=hok b _ z
       obtain ⟨e2,_⟩:=hok' b _ z2
       rw [e]at e1;cases e1
       exact e2
 cases hk:K.lookup a with
 | some o=>
  have e:=KX a o hk
  rw [ha]at e
  cases e
  refine core (fun _=>none) (fun _=> .inl rfl) (.inr ⟨_,vs.toArray,_,hk,rfl,rfl,rfl,by rw [List.size_toArray,lenV];exact hl,by simpa using rv⟩) (fun b u z=>by have z':(none:Option HO)=some u:=z;cases z') (fun b z=>absurd rfl z) fun z=>absurd rfl z
 | none=>
  refine core (fun b=>if b=a then some (.frz {cls:= .type "list",data:= .seq vs.toArray} (.lst (ns.map V.int))) else none) (fun b=>?_) (.inl (.inr ⟨{cls:= .type "list",data:= .seq vs.toArray},if_pos rfl⟩)) (fun b u z=>?_) (fun b z=>?_) fun _=>hk
  · by_cases hb:b=a
    · exact .inr ⟨_,_,if_pos hb⟩
    · exact .inl (if_neg hb)
  · by_cases hb:b=a
    · have z':=(if_pos hb).symm.trans z
      cases z'
      subst hb
      exact ⟨ha,by rw [List.length_map];exact hl,vs,_,rv,ha⟩
    · have z':=(if_neg hb).symm.trans z
      cases z'
  · by_cases hb:b=a
    · exact hb
    · exact absurd (if_neg hb) z
end L2
namespace L2
theorem walk_of{l:PySem.W.OpenLaw}{n k:Nat}{q:Program}{loose:List Str}{XP:(Str→Option Value)→Heap→Prop}{YP:World→Heap→Prop}{d:DefRec}{K:Params→PySem.W.Frag}{CX:World→CXT}{sp:World→Sp}{x:Str}
 (hn:l.most=some n) (hn2:n≤sizeLine) (hdf:d.params.defaults=[]) (hr:Room k callerA)
 (hY:∀(w:World) (h:Heap),YP w h→(K w.params).In h)
 (F:∀(w:World) (mg:Str→Option Value) (fa:Addr) (h:Heap),(K w.params).In h→h.Ns mainGlobals mg→mg d.name=some (.ref fa)→
  ∃fd:FuncData,(∀(s:Shared) (u:Value),BindsTo s fd ⟨[u],[]⟩ [(x,u)])∧
   ∀base:Heap,(K w.params).In base→base.Ns mainGlobals mg→FnOk l.prog w (K w.params) mg base (CX w) k fa fd [x] (sp w))
 (hsp:∀(w:World) (H:Hp) (a:Addr) (ns:List Int),ns.length≤n→Only H→SqL (K w.params) H a (ns.map V.int)→sp w [.ref a] H (fun v _=>v= .bl true) fun _ _ _=>False)
 (hCX:∀(w:World) (H:Hp) (s:Shared) (e:Value) (s':Shared),CX w [] H s (fun _ _ _=>False) e s'→False):
 PySem.W.WalkO q loose XP YP l.row.toRowW d [] (fun f vs=>PySem.call f vs):=by
 refine Att.attach_call hn hdf fun w s₀ s₁ mg mb fa o pm cd doc a vs ns G Y ho hd hcd hmg hobj hints hlen hg=>?_
 have KX:=hY w _ Y
 obtain ⟨fd,hb,hF⟩:=F w mg fa _ KX G.T.g hmg
 exact law_call KX G.T.g G.T.b G.T.builtins G.T.nolimit hg hobj hints (Nat.le_trans hlen hn2) hr hF hb (fun H hO hS=>hsp w H a ns hlen hO hS) fun H e s'=>hCX w H s₁ e s'
theorem walk_ofK{l:PySem.W.OpenLaw}{n k:Nat}{q:Program}{loose:List Str}{XP:(Str→Option Value)→Heap→Prop}{YP:World→Heap→Prop}{d:DefRec}{K:Params→PySem.W.Frag}{CX:CXT}{sp:PySem.W.Frag→Sp}{x:Str}
 (hn:l.most=some n) (hn2:n≤sizeLine) (hdf:d.params.defaults=[]) (hr:Room k callerA)
 (hY:∀(w:World) (h:Heap),YP w h→(K w.params).In h)
 (F:∀(w:World) (mg:Str→Option Value) (fa:Addr) (h:Heap),(K w.params).In h→h.Ns mainGlobals mg→mg d.name=some (.ref fa)→
  ∃fd:FuncData,(∀(s:Shared) (u:Value),BindsTo s fd ⟨[u],[]⟩ [(x,u)])∧
   ∀base:Heap,(K w.params).In base→base.Ns mainGlobals mg→FnOk l.prog w (K w.params) mg base CX k fa fd [x] (sp (K w.params)))
 (hsp:∀(K:PySem.W.Frag) (H:Hp) (a:Addr) (ns:List Int),ns.length≤n→Only H→SqL K H a (ns.map V.int)→sp K [.ref a] H (fun v _=>v= .bl true) fun _ _ _=>False)
 (hCX:∀(H:Hp) (s:Shared) (e:Value) (s':Shared),CX [] H s (fun _ _ _=>False) e s'→False):
 PySem.W.WalkO q loose XP YP l.row.toRowW d [] (fun f vs=>PySem.call f vs):=
 walk_of (K:=K) (CX:=fun _=>CX) (sp:=fun w=>sp (K w.params)) hn hn2 hdf hr hY F (fun w H a ns h1 h2 h3=>hsp (K w.params) H a ns h1 h2 h3) fun _ H s e s'=>hCX H s e s'
end L2
namespace L2
noncomputable def inClass(s:Stmt)(j:Nat):Stmt:=match s with
 | .ClassDef _ _ _ body _ _ _ _ _ _ _=>body.getD j (.Pass ⟨0,0,0,0⟩)
 | _=> .Pass ⟨0,0,0,0⟩
noncomputable def defArgs(s:Stmt):Arguments:=match s with
 | .FunctionDef _ a _ _ _ _ _ _ _ _=>a
 | _=>{posonlyargs:=[],args:=[],vararg:=none,kwonlyargs:=[],kw_defaults:=[],kwarg:=none,defaults:=[]}
noncomputable def defBody(s:Stmt):List Stmt:=match s with
 | .FunctionDef _ _ b _ _ _ _ _ _ _=>b
 | _=>[]
noncomputable def defScope(s:Stmt):Scope:=match s with
 | .FunctionDef _ _ _ _ _ _ sc _ _ _=>sc
 | _=>{kind:= .function,names:=[],isGenerator:=false,isCoroutine:=false}
noncomputable abbrev CX0:CXT:=fun _ _ _ _ _ _=>False
noncomputable abbrev E0:XK:=fun _ _ _=>False
theorem pass0{X:Cx}:Passes CX0 X E0:=fun _ _ _ _ _ _ _ h=>h.elim
structure Fun(K:PySem.W.Frag)(x qual:Str)(st:Stmt)(f:Addr)(fd:FuncData):Prop where
 ex:∃(oc:Value) (od:Option Addr) (kV doc pm:Value) (an:Option Addr) (cdv ct:Value) (osl:Array (Option Value)),
  fd=PySem.W.fnOf x qual (defArgs st) (defBody st) (defScope st) .none kV doc pm an cdv ct∧K.lookup f=some ⟨oc,od,.func fd,osl⟩∧PySem.W.codeIn K cdv qual=true
 kp:PySem.W.keepIn K (.ref f)=true
section
variable {P:Program} {w:World} {K:PySem.W.Frag} {mg:Str→Option Value} {base:Heap}
theorem Fun.ok{x qual:Str}{st:Stmt}{f:Addr}{fd:FuncData}{N ps:List Str}{k:Nat}{sp:Sp}(F:Fun K x qual st f fd)(S:FnScope N ps (defScope st))(len:∀vs H Q E,sp vs H Q E→vs.length=ps.length)
 (hbody:∀(cdv:Value) (A:Around) (outer:List Env) (s:Shared) (H:Hp) (vs:List V) (Q:VK) (E:XK),Room k (A.deeper (envOfC qual (defScope st) s.heap.objs.size f cdv))→sp vs H Q E→
  ∃t,PSs (cxOf CX0 P w K mg base N qual (defScope st) f cdv A outer s H E).nox (defBody st) t∧t {nx:=fun _ H'=>Q .non H',rt:=Q} (start N vs) H):FnOk P w K mg base CX0 (k+1) f fd ps sp:=by
 obtain ⟨oc,od,kV,doc,pm,an,cdv,ct,osl,rfl,lk,hcd⟩:=F.ex
 refine fn_of lk hcd S len fun A outer s H vs Q E hr hsp=>?_
 obtain ⟨t,h,q⟩:=hbody cdv A outer s H vs Q E hr hsp
 exact ⟨t,h.nox,q⟩
theorem Fun.binds{x qual:Str}{st:Stmt}{f:Addr}{fd:FuncData}{ps:List Str}(F:Fun K x qual st f fd)
 (h:∀(kV doc pm:Value) (an:Option Addr) (cdv ct:Value) (us:List Value),us.length=ps.length→bindArgs (PySem.W.fnOf x qual (defArgs st) (defBody st) (defScope st) .none kV doc pm an cdv ct) ⟨us,[]⟩=pure (ps.zip us)):Binds K fd ps []:=by
 obtain ⟨oc,od,kV,doc,pm,an,cdv,ct,osl,rfl,lk,hcd⟩:=F.ex
 exact .all (h kV doc pm an cdv ct)
theorem fun_mk{x qual:Str}{st:Stmt}{f:Addr}{oc:Value}{od an:Option Addr}{osl:Array (Option Value)}{kV doc pm cdv ct:Value}(l:K.lookup f=some ⟨oc,od,.func (PySem.W.fnOf x qual (defArgs st) (defBody st) (defScope st) .none kV doc pm an cdv ct),osl⟩)
 (c:PySem.W.codeIn K cdv qual=true) (k:PySem.W.keepIn K (.ref f)=true):Fun K x qual st f (PySem.W.fnOf x qual (defArgs st) (defBody st) (defScope st) .none kV doc pm an cdv ct):=⟨⟨oc,od,kV,doc,pm,an,cdv,ct,osl,rfl,l,c⟩,k⟩
end
theorem hu_of{A:Around}{k:Nat}(hr:Room k A):A.units+1 < cLine:=Nat.lt_of_le_of_lt (Nat.add_le_add_left (by decide:1≤64) _) hr.units
section
variable {X:Cx}
theorem pv(i:Nat){x:Str}{pos:Pos}(hN:X.N[i]?=some x:=by rfl)(hv:Vis X.env.scope x:=by first | exact Or.inl rfl | exact Or.inr (Or.inl rfl) | exact Or.inr (Or.inr rfl))(hd:(x==("__debug__":Str))=false:=by decide)
 (hcd:(x==("__classdict__":Str))=false:=by decide):PE X (.Name x pos) (tVar i):=pe_var hN hv hd hcd
end
noncomputable def Same(H H':Hp):Prop:=∀b o,H b=some o→H' b=some o
theorem Same.refl(H:Hp):Same H H:=fun _ _ h=>h
theorem Same.trans{H H1 H2:Hp}(a:Same H H1)(b:Same H1 H2):Same H H2:=fun c o h=>b c o (a c o h)
theorem Same.seq{K:PySem.W.Frag}{H H':Hp}{a:Addr}{xs:List V}(e:Same H H')(h:SqL K H a xs):SqL K H' a xs:=by
 rcases h with (h | ⟨o,h⟩) | h
 · exact .inl (.inl (e _ _ h))
 · exact .inl (.inr ⟨o,e _ _ h⟩)
 · exact .inr h
end L2
namespace L2
section
variable {κ:Type} [DecidableEq κ]
noncomputable def valV(kvs:List (κ×V))(k:κ):Option V:=(kvs.find? fun kv=>decide (kv.1=k)).map (·.2)
noncomputable def putK(kvs:List (κ×V))(k:κ)(v:V):List (κ×V):=
 if (kvs.any fun kv=>decide (kv.1=k))=true then kvs.map (fun kv=>if kv.1=k then (kv.1,v) else kv) else kvs++[(k,v)]
noncomputable def dropK(kvs:List (κ×V))(k:κ):List (κ×V):=kvs.filter fun kv=>decide (kv.1≠k)
theorem valV_pos{p:κ×V}{r:List (κ×V)}{k:κ}(e:p.1=k):valV (p::r) k=some p.2:=by simp [valV,List.find?_cons,e]
theorem valV_neg{p:κ×V}{r:List (κ×V)}{k:κ}(e:¬p.1=k):valV (p::r) k=valV r k:=by simp [valV,List.find?_cons,e]
theorem valV_any(k:κ):∀kvs:List (κ×V),(kvs.any fun kv=>decide (kv.1=k))=(valV kvs k).isSome
 | []=>rfl
 | p::r=>by
  rw [List.any_cons]
  by_cases e:p.1=k
  · simp only [valV_pos e,decide_eq_true e,Bool.true_or,Option.isSome_some]
  · rw [valV_neg e,decide_eq_false e,Bool.false_or];exact valV_any k r
theorem valV_map(k j:κ)(y:V):∀kvs:List (κ×V),valV (kvs.map fun kv=>if kv.1=k then (kv.1,y) else kv) j=(valV kvs j).map fun x=>if j=k then y else x
 | []=>rfl
 | p::r=>by
  have ih:=valV_map k j y r
  rw [List.map_cons]
  by_cases h:p.1=k
  · rw [if_pos h]
    by_cases e:p.1=j
    · rw [valV_pos (p:=(p.1,y)) e,valV_pos e,Option.map_some,if_pos (e.symm.trans h)]
    · rw [valV_neg (p:=(p.1,y)) e,valV_neg e,ih]
  · rw [if_neg h]
    by_cases e:p.1=j
    · rw [valV_pos (p:=p) e,valV_pos e,Option.map_some,if_neg (fun z=>h (e.trans z))]
    · rw [valV_neg (p:=p) e,valV_neg e,ih]
theorem valV_snoc(k j:κ)(y:V):∀kvs:List (κ×V),valV kvs k=none→valV (kvs++[(k,y)]) j=if j=k then some y else valV kvs j
 | [],_=>by
  by_cases e:k=j
  · rw [if_pos e.symm];exact valV_pos (p:=(k,y)) e
  · rw [if_neg (fun z=>e z.symm)];exact valV_neg (p:=(k,y)) e
 | p::r,hn=>by
  rw [List.cons_append]
  have hk:¬p.1=k:=fun z=>by rw [valV_pos z]at hn;cases hn
  rw [valV_neg hk]at hn
  have ih:=valV_snoc k j y r hn
  by_cases e:p.1=j
  · rw [valV_pos e,valV_pos e,if_neg (fun z=>hk (e.trans z))]
  · rw [valV_neg e,valV_neg e,ih]
theorem valV_put(kvs:List (κ×V))(k j:κ)(y:V):valV (putK kvs k y) j=if j=k then some y else valV kvs j:=by
 unfold putK
 by_cases a:(kvs.any fun kv=>decide (kv.1=k))=true
 · rw [if_pos a,valV_map]
   rw [valV_any]at a
   by_cases e:j=k
   · obtain ⟨x,hx⟩:=Option.isSome_iff_exists.mp a
     rw [if_pos e,e,hx,Option.map_some,if_pos rfl]
   · rw [if_neg e]
     cases valV kvs j with
     | none=>rfl
     | some x=>rw [Option.map_some,if_neg e]
 · rw [if_neg a]
   refine valV_snoc k j y kvs ?_
   rw [valV_any]at a
   cases q:valV kvs k with
   | none=>rfl
   | some x=>rw [q]at a;exact (a rfl).elim
theorem length_putK(kvs:List (κ×V))(k:κ)(v:V):(putK kvs k v).length≤kvs.length+1:=by
 unfold putK
 split
 · rw [List.length_map];omega
 · rw [List.length_append,List.length_cons,List.length_nil];omega
theorem putK_new{kvs:List (κ×V)}{k:κ}(v:V)(h:valV kvs k=none):putK kvs k v=kvs++[(k,v)]:=by
 unfold putK
 rw [valV_any,h]
 exact if_neg (by decide)
theorem RelO.isSome_eq{o:Option V}{u:Option Value}(r:RelO o u):o.isSome=u.isSome:=by
 cases o with
 | none=>cases u with
  | none=>rfl
  | some _=>exact (show False from r).elim
 | some _=>cases u with
  | none=>exact (show False from r).elim
  | some _=>rfl
theorem RelO.getD{o:Option V}{u:Option Value}{d:V}{d':Value}(r:RelO o u)(rd:RelV d d'):RelV (o.getD d) (u.getD d'):=by
 cases o with
 | none=>cases u with
  | none=>exact rd
  | some _=>exact (show False from r).elim
 | some _=>cases u with
  | none=>exact (show False from r).elim
  | some _=>exact r
theorem KV.val{kvs:List (κ×V)}{vs:List (κ×Value)}(r:KV kvs vs)(k:κ):RelO (valV kvs k) (valueAt vs k):=by
 unfold KV at r
 induction r with
 | nil=>exact True.intro
 | @cons p q ps qs h t ih=>
  obtain ⟨h1,h2⟩:=h
  by_cases e:p.1=k
  · have e':q.1=k:=h1.symm.trans e
    have b:valueAt (q::qs) k=some q.2:=by simp [valueAt,List.find?_cons,e']
    rw [valV_pos e,b];exact h2
  · have e':¬q.1=k:=fun z=>e (h1.trans z)
    have b:valueAt (q::qs) k=valueAt qs k:=by simp [valueAt,List.find?_cons,e']
    rw [valV_neg e,b];exact ih
theorem KV.any{kvs:List (κ×V)}{vs:List (κ×Value)}(r:KV kvs vs)(k:κ):(kvs.any fun kv=>decide (kv.1=k))=vs.any fun kv=>decide (kv.1=k):=by
 unfold KV at r
 induction r with
 | nil=>rfl
 | cons h t ih=>rw [List.any_cons,List.any_cons,ih,h.1]
theorem KV.repl{kvs:List (κ×V)}{vs:List (κ×Value)}(r:KV kvs vs)(k:κ){y:V}{u:Value}(ry:RelV y u):
 KV (kvs.map fun kv=>if kv.1=k then (kv.1,y) else kv) (vs.map fun kv=>if kv.1=k then (kv.1,u) else kv):=by
 unfold KV at r ⊢
 induction r with
 | nil=>exact .nil
 | @cons p q ps qs h t ih=>
  rw [List.map_cons,List.map_cons]
  refine .cons ?_ ih
  obtain ⟨h1,h2⟩:=h
  by_cases e:p.1=k
  · rw [if_pos e,if_pos (h1.symm.trans e)];exact ⟨h1,ry⟩
  · rw [if_neg e,if_neg (fun z=>e (h1.trans z))];exact ⟨h1,h2⟩
theorem KV.put{kvs:List (κ×V)}{vs:List (κ×Value)}(r:KV kvs vs)(k:κ){y:V}{u:Value}(ry:RelV y u):KV (putK kvs k y) (stored vs k u):=by
 unfold putK stored
 rw [r.any k]
 by_cases e:(vs.any fun kv=>decide (kv.1=k))=true
 · rw [if_pos e,if_pos e];exact r.repl k ry
 · rw [if_neg e,if_neg e];exact Paired.snoc r ⟨rfl,ry⟩
theorem KV.drop{kvs:List (κ×V)}{vs:List (κ×Value)}(r:KV kvs vs)(k:κ):KV (dropK kvs k) (without vs k):=by
 unfold KV at r ⊢
 unfold dropK without
 induction r with
 | nil=>exact .nil
 | @cons p q ps qs h t ih=>
  obtain ⟨h1,h2⟩:=h
  rw [List.filter_cons,List.filter_cons]
  by_cases e:p.1=k
  · have a:¬decide (p.1≠k)=true:=by simp [e]
    have b:¬decide (q.1≠k)=true:=by simp [h1.symm.trans e]
    rw [if_neg a,if_neg b];exact ih
  · have e':¬q.1=k:=fun z=>e (h1.trans z)
    have a:decide (p.1≠k)=true:=by simp [e]
    have b:decide (q.1≠k)=true:=by simp [e']
    rw [if_pos a,if_pos b];exact .cons ⟨h1,h2⟩ ih
theorem KV.length{kvs:List (κ×V)}{vs:List (κ×Value)}(r:KV kvs vs):kvs.length=vs.length:=Paired.length r
theorem dropK_le(kvs:List (κ×V))(k:κ):(dropK kvs k).length≤kvs.length:=List.length_filter_le _ _
end
theorem kV_is{P:Program}{w:World}{k:Key}{u:Value}(r:RelV (kV k) u):(mixKind P w).is k u=true:=by
 cases k with
 | inl i=>obtain ⟨t,e⟩:=(show ∃t,u=Value.int i t from r);subst e;exact mixKind_int P w i t
 | inr x=>obtain ⟨t,e⟩:=(show ∃t,u=Value.str x t from r);subst e;exact mixKind_str P w x t
theorem items_are{P:Program}{w:World}:∀{ks:List Key} {us:List Value},Vals (ks.map kV) us→ItemsAre (mixKind P w) ks us
 | [],_,r=>by rw [List.map_nil]at r;cases r;exact .nil
 | k::ks,_,r=>by
  rw [List.map_cons]at r
  cases r with
  | cons h t=>exact .cons (kV_is h) (items_are t)
noncomputable abbrev KT(H:Hp):List (List Key×V)→List (List Key×Addr×Value)→Prop:=Paired fun p q=>p.1=q.1∧H q.2.1=some (.tup (p.1.map kV))∧RelV p.2 q.2.2
theorem KT.val{H:Hp}{kvs:List (List Key×V)}{xs:List (List Key×Addr×Value)}(r:KT H kvs xs)(k:List Key):RelO (valV kvs k) ((atKey xs k).map (·.2)):=by
 induction r with
 | nil=>exact True.intro
 | @cons p q ps qs h t ih=>
  obtain ⟨h1,_,h2⟩:=h
  by_cases e:p.1=k
  · have e':q.1=k:=h1.symm.trans e
    have b:atKey (q::qs) k=some q.2:=by simp [atKey,List.find?_cons,e']
    rw [valV_pos e,b];exact h2
  · have e':¬q.1=k:=fun z=>e (h1.trans z)
    have b:atKey (q::qs) k=atKey qs k:=by simp [atKey,List.find?_cons,e']
    rw [valV_neg e,b];exact ih
theorem KT.repl{H:Hp}{kvs:List (List Key×V)}{xs:List (List Key×Addr×Value)}(r:KT H kvs xs)(k:List Key){y:V}{u:Value}(ry:RelV y u):
 KT H (kvs.map fun kv=>if kv.1=k then (kv.1,y) else kv) (xs.map (putAt k u)):=by
 induction r with
 | nil=>exact .nil
 | @cons p q ps qs h t ih=>
  rw [List.map_cons,List.map_cons]
  refine .cons ?_ ih
  obtain ⟨h1,h2,h3⟩:=h
  unfold putAt
  by_cases e:p.1=k
  · rw [if_pos e,if_pos (h1.symm.trans e)];exact ⟨h1,h2,ry⟩
  · rw [if_neg e,if_neg (fun z=>e (h1.trans z))];exact ⟨h1,h2,h3⟩
theorem KT.put{H:Hp}{kvs:List (List Key×V)}{xs:List (List Key×Addr×Value)}(r:KT H kvs xs)(k:List Key){b:Addr}{y:V}{u:Value}(hb:H b=some (.tup (k.map kV)))(ry:RelV y u):
 KT H (putK kvs k y) (storedH xs k b u):=by
 have e:(kvs.any fun kv=>decide (kv.1=k))=(atKey xs k).isSome:=by
  rw [valV_any,(r.val k).isSome_eq,Option.isSome_map]
 unfold putK storedH
 rw [e]
 by_cases q:(atKey xs k).isSome=true
 · rw [if_pos q,if_pos q];exact r.repl k ry
 · rw [if_neg q,if_neg q];exact Paired.snoc r ⟨rfl,hb,ry⟩
theorem KT.keeps{H H':Hp}{kvs:List (List Key×V)}{xs:List (List Key×Addr×Value)}(r:KT H kvs xs)(ht:∀b ys,H b=some (.tup ys)→H' b=some (.tup ys)):KT H' kvs xs:=
 Paired.mapP r fun _ _ z=>⟨z.1,ht _ _ z.2.1,z.2.2⟩
section
variable {P:Program} {w:World} {H:Hp} {h:Heap} {a:Addr}
theorem rd_of{u:HO}(ok:HOk P w H h)(e:Rd H a u):ObjOk P w H h a u:=e.ok ok
theorem dk_rd{kvs:List (Key×V)}(ok:HOk P w H h)(e:Rd H a (.dK kvs)):kvs.length≤sizeLine∧(a==sysModules)=false∧∃vs,KV kvs vs∧h.DictOf (mixKind P w) a vs:=
 show ObjOk P w H h a (.dK kvs) from rd_of ok e
theorem dk_of{kvs:List (Key×V)}(ok:HOk P w H h)(e:H a=some (.dK kvs)):kvs.length≤sizeLine∧(a==sysModules)=false∧∃vs,KV kvs vs∧h.DictOf (mixKind P w) a vs:=dk_rd ok (.inl e)
theorem key_of{ks:List Key}(ok:HOk P w H h)(e:H a=some (.tup (ks.map kV))):(tupleKind (mixKind P w)).is h ks a:=by
 obtain ⟨_,its,r,o,h1,h2,n,h3⟩:=(show ObjOk P w H h a (.tup (ks.map kV)) from ok a _ e)
 exact ⟨o,its.toArray,n,h1,h2,h3,by simpa using items_are r⟩
theorem dt_rd{kvs:List (List Key×V)}(ok:HOk P w H h)(e:Rd H a (.dT kvs)):kvs.length≤sizeLine∧(a==sysModules)=false∧
 ∃xs,KT H kvs xs∧h.DictOfH (tupleKind (mixKind P w)) a xs:=by
 obtain ⟨z,y,xs,r,o,es,ep,h1,h2,h3,h4,h5⟩:=(show ObjOk P w H h a (.dT kvs) from rd_of ok e)
 refine ⟨z,y,xs,r,o,es,ep,h1,h2,h3,h4,fun x hx=>?_,h5⟩
 have all:∀{l:List (List Key×V)} {m:List (List Key×Addr×Value)},KT H l m→∀x∈m,(tupleKind (mixKind P w)).is h x.1 x.2.1:=by
  intro l m q
  induction q with
  | nil=>intro x hx;exact nomatch hx
  | @cons p q ps qs hq t ih=>
   intro x hx
   rcases List.mem_cons.mp hx with e | hx
   · subst e
     exact key_of ok (by rw [← hq.1];exact hq.2.1)
   · exact ih x hx
 exact all r x hx
theorem dt_of{kvs:List (List Key×V)}(ok:HOk P w H h)(e:H a=some (.dT kvs)):kvs.length≤sizeLine∧(a==sysModules)=false∧
 ∃xs,KT H kvs xs∧h.DictOfH (tupleKind (mixKind P w)) a xs:=dt_rd ok (.inl e)
end
noncomputable def DGet(H:Hp)(a:Addr)(y:V)(r:Option V):Prop:=
 (∃kvs k,Rd H a (.dK kvs)∧y=kV k∧r=valV kvs k)∨∃kvs k b,Rd H a (.dT kvs)∧y= .ref b∧H b=some (.tup (k.map kV))∧r=valV kvs k
noncomputable def DPut(H:Hp)(a:Addr)(y v:V)(H':Hp):Prop:=
 (∃kvs k,H a=some (.dK kvs)∧y=kV k∧kvs.length < sizeLine∧H'=upd H a (.dK (putK kvs k v)))∨
 ∃kvs k b,H a=some (.dT kvs)∧y= .ref b∧H b=some (.tup (k.map kV))∧kvs.length < sizeLine∧H'=upd H a (.dT (putK kvs k v))
theorem DGet.k{H:Hp}{a:Addr}{kvs:List (Key×V)}{k:Key}(e:H a=some (.dK kvs)):DGet H a (kV k) (valV kvs k):= .inl ⟨kvs,k,.inl e,rfl,rfl⟩
theorem DPut.k{H:Hp}{a:Addr}{kvs:List (Key×V)}{k:Key}{v:V}(e:H a=some (.dK kvs))(hl:kvs.length < sizeLine):DPut H a (kV k) v (upd H a (.dK (putK kvs k v))):= .inl ⟨kvs,k,e,rfl,hl,rfl⟩
section
variable {X:Cx} {pins:List (Addr×Obj)} {σ:St} {H:Hp} {s:Shared} {a:Addr} {y v:V} {u r:Value} {o:Option V} {A:Around} {E:Value→Shared→Prop}
theorem Inv.big(I:Inv X pins σ H s):sysModules < s.heap.objs.size:=by
 have h:mainGlobals < s.heap.objs.size:=(I.mod.glob.keeps I.bk).lt
 exact Nat.lt_trans (by decide) h
theorem d_getItem{Q:Value→Shared→Prop}(hu:A.units+1 < cLine)(I:Inv X pins σ H s)(g:DGet H a y (some v))(ry:RelV y u)(h:∀w' s',Inv X pins σ H s'→RelV v w'→Q w' s'):
 wpAny (model X.prog X.w) A (getItem (.ref a) u) Q E s:=by
 rcases g with ⟨kvs,k,e,ey,l⟩ | ⟨kvs,k,b,e,ey,eb,l⟩
 · subst ey
   obtain ⟨z,hd,vs,rel,dd⟩:=dk_rd I.hok e
   obtain ⟨w',hw,rw'⟩:=RelO.some_of (v:=v) (o:=valueAt vs k) (by rw [l];exact rel.val k)
   exact wpAny_getItem_of (kV_is ry) dd.mapOf hw (h w' _ (I.tok _) rw')
 · subst ey
   cases (show u=Value.ref b from ry)
   obtain ⟨z,hd,xs,rel,dd⟩:=dt_rd I.hok e
   obtain ⟨w',hw,rw'⟩:=RelO.some_of (v:=v) (o:=(atKey xs k).map (·.2)) (by rw [l];exact rel.val k)
   obtain ⟨p,hp,hp2⟩:=Option.map_eq_some_iff.mp hw
   refine wpAny_getItem_heap (tupleKind_room_in1 hu) (key_of I.hok eb) dd hp ?_
   rw [hp2]
   exact h w' _ (I.tok _) rw'
theorem d_in{Q:Value→Shared→Prop}(hu:A.units+1 < cLine)(I:Inv X pins σ H s)(g:DGet H a y o)(ry:RelV y u)(h:∀s',Inv X pins σ H s'→Q (.bool o.isSome) s'):
 wpAny (model X.prog X.w) A (compareOp .In u (.ref a)) Q E s:=by
 rcases g with ⟨kvs,k,e,ey,l⟩ | ⟨kvs,k,b,e,ey,eb,l⟩
 · subst ey
   obtain ⟨z,hd,vs,rel,dd⟩:=dk_rd I.hok e
   refine wpAny_in_of (kV_is ry) hd dd.mapOf ?_
   rw [← (rel.val k).isSome_eq,← l]
   exact h _ (I.tok _)
 · subst ey
   cases (show u=Value.ref b from ry)
   obtain ⟨z,hd,xs,rel,dd⟩:=dt_rd I.hok e
   refine wpAny_in_heap (tupleKind_room_in1 hu) (key_of I.hok eb) hd dd ?_
   have q:=(rel.val k).isSome_eq
   rw [Option.isSome_map]at q
   rw [← q,← l]
   exact h _ (I.tok _)
theorem d_notIn{Q:Value→Shared→Prop}(hu:A.units+1 < cLine)(I:Inv X pins σ H s)(g:DGet H a y o)(ry:RelV y u)(h:∀s',Inv X pins σ H s'→Q (.bool (!o.isSome)) s'):
 wpAny (model X.prog X.w) A (compareOp .NotIn u (.ref a)) Q E s:=by
 rcases g with ⟨kvs,k,e,ey,l⟩ | ⟨kvs,k,b,e,ey,eb,l⟩
 · subst ey
   obtain ⟨z,hd,vs,rel,dd⟩:=dk_rd I.hok e
   refine wpAny_notIn_of (kV_is ry) hd dd.mapOf ?_
   rw [← (rel.val k).isSome_eq,← l]
   exact h _ (I.tok _)
 · subst ey
   cases (show u=Value.ref b from ry)
   obtain ⟨z,hd,xs,rel,dd⟩:=dt_rd I.hok e
   refine wpAny_notIn_heap (tupleKind_room_in1 hu) (key_of I.hok eb) hd dd ?_
   have q:=(rel.val k).isSome_eq
   rw [Option.isSome_map]at q
   rw [← q,← l]
   exact h _ (I.tok _)
theorem d_write{h':Heap}{t':Nat}{ob:HO}(I:Inv X pins σ H s)(mu:Mut (H a))(hs:Heap.SameBut a s.heap h')(he:∃q,h'.get? a=some q)(new:ObjOk X.prog X.w (upd H a ob) h' a ob):
 Inv X pins σ (upd H a ob) {s with heap:=h',toks:=t'}:=
 I.write (x:=a) (e:=a) mu (.inl rfl) (fun b q hb z=>(hs.2 b hb).trans z) he new
theorem dk_new{P:Program}{w:World}{H':Hp}{h':Heap}{kvs:List (Key×V)}{vs:List (Key×Value)}(z:kvs.length≤sizeLine)(hd:(a==sysModules)=false)(rel:KV kvs vs)(dd:h'.DictOf (mixKind P w) a vs):
 ObjOk P w H' h' a (.dK kvs):=⟨z,hd,vs,rel,dd⟩
theorem d_setItem{H':Hp}{Q:Unit→Shared→Prop}(hu:A.units+1 < cLine)(I:Inv X pins σ H s)(g:DPut H a y v H')(ry:RelV y u)(rv:RelV v r)(h:∀s',Inv X pins σ H' s'→Q () s'):
 wpAny (model X.prog X.w) A (setItem (.ref a) u r) Q E s:=by
 rcases g with ⟨kvs,k,e,ey,l,eH⟩ | ⟨kvs,k,b,e,ey,eb,l,eH⟩
 · subst ey eH
   obtain ⟨z,hd,vs,rel,dd⟩:=dk_of I.hok e
   have hz:vs.length≤sizeLine:=by rw [← rel.length];exact z
   have hl:(putK kvs k v).length≤sizeLine:=by have:=length_putK kvs k v;omega
   refine wpAny_setItem_pairs (hsz:=hz) (kV_is ry) dd fun h' dd' hs=>h _ ?_
   have he:∃q,h'.get? a=some q:=let ⟨q,_,_,hq,_⟩:=dd';⟨q,hq⟩
   exact d_write I (by rw [e];exact True.intro) hs he (dk_new hl hd (rel.put k rv) dd')
 · subst ey eH
   cases (show u=Value.ref b from ry)
   obtain ⟨z,hd,xs,rel,dd⟩:=dt_of I.hok e
   have hz:xs.length≤sizeLine:=by rw [← Paired.length rel];exact z
   have hl:(putK kvs k v).length≤sizeLine:=by have:=length_putK kvs k v;omega
   refine wpAny_setItem_heap (hsz:=hz) (tupleKind_room_in1 hu) (key_of I.hok eb) dd fun h' dd' hs=>h _ ?_
   obtain ⟨q,es,ep,hq,h2,h3,h4,_,h5⟩:=dd'
   refine d_write I (by rw [e];exact True.intro) hs ⟨q,hq⟩ ⟨hl,hd,_,(rel.put k eb rv).keeps fun c ys ec=>?_,q,es,ep,hq,h2,h3,h4,h5⟩
   rw [upd_ne (ne_of ec e (fun z=>nomatch z))]
   exact ec
end
section
variable {X:Cx} {pins:List (Addr×Obj)} {σ:St} {H:Hp} {s:Shared} {a:Addr} {kvs:List (Key×V)} {k:Key} {u:Value} {A:Around} {E:Value→Shared→Prop}
theorem d_pop{v:V}{more:List Value}{Q:Value→Shared→Prop}(I:Inv X pins σ H s)(e:H a=some (.dK kvs))(ry:RelV (kV k) u)(l:valV kvs k=some v)(hm:more=[]∨∃x,more=[x])
 (h:∀w' s',Inv X pins σ (upd H a (.dK (dropK kvs k))) s'→RelV v w'→Q w' s'):wpAny (model X.prog X.w) A (call (.builtin "dict.pop") (.ref a::u::more)) Q E s:=by
 obtain ⟨z,hd,vs,rel,dd⟩:=dk_of I.hok e
 obtain ⟨w',hw,rw'⟩:=RelO.some_of (v:=v) (o:=valueAt vs k) (by rw [← l];exact rel.val k)
 have hp:(keyPart u).isSome=true:=by
  cases k with
  | inl i=>obtain ⟨t,q⟩:=(show ∃t,u=Value.int i t from ry);subst q;rfl
  | inr x=>obtain ⟨t,q⟩:=(show ∃t,u=Value.str x t from ry);subst q;rfl
 have ha:argsOk "dict.pop" ⟨.ref a::u::more,[]⟩:=by
  rcases hm with q | ⟨x,q⟩
  · subst q;exact PySem.F.args_dict_pop_2 _ _
  · subst q;exact PySem.F.args_dict_pop_3 _ _ _
 refine call_meetsIn PySem.F.slot_dict_pop dd.typeIs PySem.F.entry_dict_pop ha (meets_dict_pop_there (mixKind X.prog X.w) a (kV_is ry) more hm hp)
  ⟨vs,w',dd,by rw [← rel.length];exact z,hw,fun h' dd' hs=>h w' _ ?_ rw'⟩
 have he:∃q,h'.get? a=some q:=let ⟨q,_,_,hq,_⟩:=dd';⟨q,hq⟩
 exact d_write I (by rw [e];exact True.intro) hs he (dk_new (Nat.le_trans (dropK_le kvs k) z) hd (rel.drop k) dd')
theorem d_len{Q:Value→Shared→Prop}(I:Inv X pins σ H s)(e:Rd H a (.dK kvs))(h:∀t s',Inv X pins σ H s'→Q (.int kvs.length t) s'):wpAny (model X.prog X.w) A (call (.builtin "len") [.ref a]) Q E s:=by
 obtain ⟨z,hd,vs,rel,dd⟩:=dk_rd I.hok e
 refine call_len_dict hd dd (by rw [← rel.length];rw [sizeLine_eq]at z;omega) ?_
 rw [← rel.length]
 exact h _ _ (I.tok _)
end
noncomputable def NoSl(i:Expr):Prop:=∀ov iv,subscripted i false ov iv=operate [ov,iv] (getItem ov iv)
theorem subD_of{prog:Program}{w:World}{A:Around}{E:Value→Shared→Prop}{s:Shared}{env:Env}{value slice:Expr}{pos:Pos}{T id:String}{Q:Value→Shared→Prop}
 (hl:typeLookup (.type T) "__getitem__"=pure (some (.builtin id))) (hs:NoSl slice)
 (h:wpAny (model prog w) A (eval value env) (fun o s₁=>wpAny (model prog w) A (eval slice env) (fun i s₂=>s₂.TypeIs o T∧wpAny (model prog w) A (getItem o i) Q E s₂) E s₁) E s):
 wpAny (model prog w) A (eval (.Subscript value slice pos) env) Q E s:=by
 refine Subscript_ (wpAny_mono h (fun o s₁ h₁=>wpAny_mono h₁ (fun i s₂ h₂=>?_) fun _ _ x=>x) fun _ _ x=>x)
 obtain ⟨hT,h₂⟩:=h₂
 unfold subscriptTail
 refine wpAny_bind ?_
 rw [getitemInPython_of_ne hT.not_modules]
 refine wpAny_bind (wpAny_specialOf hT hl ?_)
 have fin:wpAny (model prog w) A (subscripted slice false o i) (fun r s₃=>wpAny (model prog w) A (letTemporaryGo value o r >>=fun _=>pure r) Q E s₃) E s₂:=by
  rw [hs o i]
  exact wpAny_operating (wpAny_mono h₂ (fun r s₃ h₃=>wpAny_bind (wpAny_letTemporaryGo (wpAny_pure h₃))) fun _ _ x=>x)
 first
  | exact wpAny_pure (wpAny_bind fin)
  | exact wpAny_bind (wpAny_pure (wpAny_bind fin))
  | exact wpAny_bind fin
theorem dict_typeIs{X:Cx}{pins:List (Addr×Obj)}{σ:St}{H:Hp}{s:Shared}{a:Addr}{y:V}{o:Option V}(I:Inv X pins σ H s)(g:DGet H a y o):s.TypeIs (.ref a) "dict":=by
 rcases g with ⟨kvs,k,e,_,_⟩ | ⟨kvs,k,b,e,_,_,_⟩
 · obtain ⟨_,_,vs,_,dd⟩:=dk_rd I.hok e
   exact dd.typeIs
 · obtain ⟨_,_,xs,_,dd⟩:=dt_rd I.hok e
   exact dd.typeIs
noncomputable def tDGet(td ty:TE):TE:=fun σ H Q=>td σ H fun x H1=>ty σ H1 fun y H2=>∃a v,x= .ref a∧DGet H2 a y (some v)∧Q v H2
noncomputable def tDIn(ty td:TE):TE:=fun σ H Q=>ty σ H fun y H1=>td σ H1 fun x H2=>∃a o,x= .ref a∧DGet H2 a y o∧Q (.bl o.isSome) H2
noncomputable def tDNotIn(ty td:TE):TE:=fun σ H Q=>ty σ H fun y H1=>td σ H1 fun x H2=>∃a o,x= .ref a∧DGet H2 a y o∧Q (.bl (!o.isSome)) H2
noncomputable def sDPut(td ty tv:TE):TS:=fun D σ H=>tv σ H fun v H1=>td σ H1 fun x H2=>ty σ H2 fun y H3=>∃a H4,x= .ref a∧DPut H3 a y v H4∧D.nx σ H4
section
variable {X:Cx} {o i e value:Expr} {pos pos' tpos:Pos} {td ty tv:TE}
theorem pe_dget(hu:X.A.units+1 < cLine)(ho:PE X o td)(hi:PE X i ty)(hs:NoSl i):PE X (.Subscript o i pos) (tDGet td ty):=by
 intro pins s σ H Q I h
 refine subD_of PySem.F.slot_dict_getitem.lookup hs (thn (ho pins s σ H _ I h) fun u s1 ⟨x,H1,I1,rx,q1⟩=>thn (hi pins s1 σ H1 _ I1 q1) fun iv s2 hq_=>?_)
 obtain ⟨y,H2,I2,ry,a,v,ex,g,q2⟩:=hq_
 subst ex
 obtain rfl:u=Value.ref a:=rx
 exact ⟨dict_typeIs I2 g,d_getItem hu I2 g ry fun w' s3 I3 rw'=>⟨v,H2,I3,rw',q2⟩⟩
theorem pc_din(hu:X.A.units+1 < cLine)(hi:PE X i ty)(ho:PE X o td):PC X .In i o (tDIn ty td):=by
 intro pins s σ H Q I h
 refine thn (hi pins s σ H _ I h) fun iv s1 ⟨y,H1,I1,ry,q1⟩=>thn (ho pins s1 σ H1 _ I1 q1) fun u s2 hq_=>?_
 obtain ⟨x,H2,I2,rx,a,ov,ex,g,q2⟩:=hq_
 subst ex
 obtain rfl:u=Value.ref a:=rx
 exact d_in hu I2 g ry fun s3 I3=>⟨.bl ov.isSome,H2,I3,rfl,q2⟩
theorem pc_dnotin(hu:X.A.units+1 < cLine)(hi:PE X i ty)(ho:PE X o td):PC X .NotIn i o (tDNotIn ty td):=by
 intro pins s σ H Q I h
 refine thn (hi pins s σ H _ I h) fun iv s1 ⟨y,H1,I1,ry,q1⟩=>thn (ho pins s1 σ H1 _ I1 q1) fun u s2 hq_=>?_
 obtain ⟨x,H2,I2,rx,a,ov,ex,g,q2⟩:=hq_
 subst ex
 obtain rfl:u=Value.ref a:=rx
 exact d_notIn hu I2 g ry fun s3 I3=>⟨.bl (!ov.isSome),H2,I3,rfl,q2⟩
theorem ps_dput(hu:X.A.units+1 < cLine)(ho:PE X o td)(hi:PE X i ty)(hv:PE X value tv)(hs:swapsWith value (some (.Subscript o i pos')) pos.line X.env=pure false):
 PS X (.Assign [.Subscript o i pos'] value pos) (sDPut td ty tv):=by
 intro pins s σ H D I h
 refine wpAny_Assign_Subscript (thn (hv pins s σ H _ I h) fun r s1 ⟨v,H1,I1,rv,q1⟩=>thn (ho pins s1 σ H1 _ I1 q1) fun u s2 ⟨x,H2,I2,rx,q2⟩=>thn (hi pins s2 σ H2 _ I2 q2) fun iv s3 hq_=>?_) hs
 obtain ⟨y,H3,I3,ry,a,H4,ex,g,q3⟩:=hq_
 subst ex
 obtain rfl:u=Value.ref a:=rx
 exact d_setItem hu I3 g ry rv fun s4 I4=>⟨σ,H4,I4,q3⟩
end
theorem dk_empty{P:Program}{w:World}{H:Hp}(h:Heap)(hb:sysModules < h.objs.size):ObjOk P w H (h.push {cls:= .type "dict",data:= .dict #[]}) h.objs.size (.dK []):=
 ⟨Nat.zero_le _,beq_eq_false_iff_ne.mpr (Ne.symm (Nat.ne_of_lt hb)),[],.nil,Heap.DictOf.new h⟩
noncomputable def tDNewK:TE:=fun _ H Q=>∀p,H p=none→Q (.ref p) (upd H p (.dK []))
section
variable {X:Cx} {pos:Pos}
theorem pe_dnewK:PE X (.Dict [] [] pos) tDNewK:=fun pins s σ H Q I h=>
 wpAny_Dict_empty ⟨.ref s.heap.objs.size,_,I.laid (a:=s.heap.objs.size) (o:= .dK []) (t':=s.toks) (fun _ _ q=>Heap.get?_push_of_some _ q) (Nat.le_refl _) (dk_empty s.heap I.big),rfl,h _ (I.hok.fresh (Nat.le_refl _))⟩
end
noncomputable def tPairs:List (TE×TE)→St→Hp→(List (V×V)→Hp→Prop)→Prop
 | [],_,H,Q=>Q [] H
 | (tk,tv)::r,σ,H,Q=>tk σ H fun x H1=>tv σ H1 fun y H2=>tPairs r σ H2 fun ps H3=>Q ((x,y)::ps) H3
noncomputable def mergeK(kvs more:List (Key×V)):List (Key×V):=more.foldl (fun acc kv=>putK acc kv.1 kv.2) kvs
noncomputable def tDisp(trs:List (TE×TE)):TE:=fun σ H Q=>∀p,H p=none→tPairs trs σ (upd H p (.dK [])) fun ps H2=>H2 p=some (.dK [])∧∃kvs:List (Key×V),ps=kvs.map (fun kv=>(kV kv.1,kv.2))∧kvs.length≤15∧Q (.ref p) (upd H2 p (.dK (mergeK [] kvs)))
structure M1(X:Cx)(o:Expr)(m:Str)(apos:Pos)(e:Expr)(cpos:Pos):Prop where
 base:attributeBase o m X.env (eval o X.env)=eval o X.env
 few:((backTo cpos (starEach [e] X.env)).all (fun x=>!x.1) && (backToKw cpos (keywordEach [] X.env)).all (fun x=>x.1.isSome)
  && decide (([e]:List Expr).length+([]:List Keyword).length+(if ([]:List Keyword).isEmpty then 0 else 1) < 30))=true
 line:(apos.endLine==cpos.line)=true
 trees:backTo cpos (starEach [e] X.env)=[(false,eval e X.env)]
noncomputable def IsD(H:Hp)(a:Addr):Prop:=(∃kvs,Rd H a (.dK kvs))∨∃kvs,Rd H a (.dT kvs)
theorem isD_at{X:Cx}{pins:List (Addr×Obj)}{σ:St}{H:Hp}{s:Shared}{a:Addr}(I:Inv X pins σ H s)(d:IsD H a):
 s.TypeIs (.ref a) "dict"∧(∀b,Value.ref a= .ref b→∃ob,s.heap.get? b=some ob∧ob.dict=none)∧(a==sysModules)=false:=by
 rcases d with ⟨kvs,e⟩ | ⟨kvs,e⟩
 · obtain ⟨_,hd,vs,_,dd⟩:=dk_rd I.hok e
   refine ⟨dd.typeIs,fun b q=>?_,hd⟩
   cases q
   obtain ⟨ob,_,_,h1,h2,_⟩:=dd
   exact ⟨ob,h1,h2.2.1⟩
 · obtain ⟨_,hd,xs,_,dd⟩:=dt_rd I.hok e
   refine ⟨dd.typeIs,fun b q=>?_,hd⟩
   cases q
   obtain ⟨ob,_,_,h1,h2,_⟩:=dd
   exact ⟨ob,h1,h2.2.1⟩
section
variable {X:Cx} {pins:List (Addr×Obj)} {σ:St} {H:Hp} {s:Shared} {a:Addr} {y d:V} {u r:Value} {o:Option V} {A:Around} {E:Value→Shared→Prop}
theorem d_get1{Q:Value→Shared→Prop}(hu:A.units+1 < cLine)(I:Inv X pins σ H s)(g:DGet H a y o)(ry:RelV y u)(h:∀w' s',Inv X pins σ H s'→RelV (o.getD .non) w'→Q w' s'):
 wpAny (model X.prog X.w) A (call (.builtin "dict.get") [.ref a,u]) Q E s:=by
 rcases g with ⟨kvs,k,e,ey,l⟩ | ⟨kvs,k,b,e,ey,eb,l⟩
 · subst ey
   obtain ⟨z,hd,vs,rel,dd⟩:=dk_rd I.hok e
   refine call_meetsIn PySem.F.slot_dict_get dd.typeIs PySem.F.entry_dict_get (PySem.F.args_dict_get_2 _ _) (meets_dict_get (mixKind X.prog X.w) a (kV_is ry) hd) ⟨_,dd.mapOf,h _ _ (I.tok _) ?_⟩
   rw [l]
   exact (rel.val k).getD rfl
 · subst ey
   cases (show u=Value.ref b from ry)
   obtain ⟨z,hd,xs,rel,dd⟩:=dt_rd I.hok e
   refine call_meetsIn PySem.F.slot_dict_get dd.typeIs PySem.F.entry_dict_get (PySem.F.args_dict_get_2 _ _) (meetsH_dict_get (tupleKind (mixKind X.prog X.w)) a b hd) ⟨tupleKind_room_in1 hu,k,xs,key_of I.hok eb,dd,h _ _ (I.tok _) ?_⟩
   rw [l]
   exact (rel.val k).getD rfl
end
noncomputable def tDGet1(td ty:TE):TE:=fun σ H Q=>td σ H fun x H1=>∃a,x= .ref a∧IsD H1 a∧ty σ H1 fun y H2=>∃o,DGet H2 a y o∧Q (o.getD .non) H2
noncomputable def tDGet2(td ty tx:TE):TE:=fun σ H Q=>td σ H fun x H1=>∃a,x= .ref a∧IsD H1 a∧ty σ H1 fun y H2=>tx σ H2 fun z H3=>∃o,DGet H3 a y o∧Q (o.getD z) H3
noncomputable def tDPop1(td ty:TE):TE:=fun σ H Q=>td σ H fun x H1=>∃a,x= .ref a∧IsD H1 a∧ty σ H1 fun y H2=>∃kvs k v,H2 a=some (.dK kvs)∧y=kV k∧valV kvs k=some v∧Q v (upd H2 a (.dK (dropK kvs k)))
section
variable {X:Cx} {o e f:Expr} {apos cpos:Pos} {td ty tx:TE}
theorem pe_dget1(hu:X.A.units+1 < cLine)(ho:PE X o td)(he:PE X e ty)(m:M1 X o "get" apos e cpos):PE X (.Call (.Attribute o "get" apos) [e] [] cpos) (tDGet1 td ty):=by
 intro pins s σ H Q I h
 refine wpAny_Call_method m.base m.few m.line PySem.F.plainAttrs_dict PySem.F.slot_dict_get PySem.F.type_dict_get (thn (ho pins s σ H _ I h) fun u s1 hq_=>?_)
 obtain ⟨x,H1,I1,rx,a,ex,d,q1⟩:=hq_
 subst ex
 obtain rfl:u=Value.ref a:=rx
 obtain ⟨t1,t2,_⟩:=isD_at I1 d
 refine ⟨t1,t2,?_⟩
 rw [m.trees]
 refine Calls.callWith_builtin rfl (Calls.evalArgs_plain (Calls.spliced_cons (thn (he pins s1 σ H1 _ I1 q1) fun iv s2 ⟨y,H2,I2,ry,ov,g,q2⟩=>Calls.spliced_nil ?_)))
 exact d_get1 hu I2 g ry fun w' s3 I3 rw'=>⟨_,H2,I3,rw',q2⟩
theorem pe_dpop1(ho:PE X o td)(he:PE X e ty)(m:M1 X o "pop" apos e cpos):PE X (.Call (.Attribute o "pop" apos) [e] [] cpos) (tDPop1 td ty):=by
 intro pins s σ H Q I h
 refine wpAny_Call_method m.base m.few m.line PySem.F.plainAttrs_dict PySem.F.slot_dict_pop PySem.F.type_dict_pop (thn (ho pins s σ H _ I h) fun u s1 hq_=>?_)
 obtain ⟨x,H1,I1,rx,a,ex,d,q1⟩:=hq_
 subst ex
 obtain rfl:u=Value.ref a:=rx
 obtain ⟨t1,t2,_⟩:=isD_at I1 d
 refine ⟨t1,t2,?_⟩
 rw [m.trees]
 refine Calls.callWith_builtin rfl (Calls.evalArgs_plain (Calls.spliced_cons (thn (he pins s1 σ H1 _ I1 q1) fun iv s2 ⟨y,H2,I2,ry,kvs,k,v,ea,ey,l,q2⟩=>Calls.spliced_nil ?_)))
 subst ey
 exact d_pop I2 ea ry l (.inl rfl) fun w' s3 I3 rw'=>⟨v,_,I3,rw',q2⟩
end
end L2
namespace L2
section
variable {X:Cx}
theorem call_lenD:CallR X (.builtin "len") (fun xs H Q=>∃a kvs,xs=[V.ref a]∧H a=some (.dK kvs)∧Q (.int kvs.length) H):=by
 intro pins s σ H xs us Q I r h
 obtain ⟨a,kvs,rfl,ha,q⟩:=h
 obtain ⟨u,rfl,ru⟩:=vals1 r
 cases ru
 exact d_len I (.inl ha) fun t s' I'=>⟨.int kvs.length,H,I',⟨t,rfl⟩,q⟩
end
section
variable {κ:Type} [DecidableEq κ]
theorem valV_not{kvs:List (κ×V)}{k:κ}(h:valV kvs k=none):¬k∈kvs.map (·.1):=by
 intro m
 obtain ⟨p,hp,e⟩:=List.mem_map.mp m
 have q:(kvs.any fun kv=>decide (kv.1=k))=true:=List.any_eq_true.mpr ⟨p,hp,decide_eq_true e⟩
 rw [valV_any,h]at q
 exact absurd q (by simp)
theorem valV_in{kvs:List (κ×V)}{k:κ}{v:V}(h:valV kvs k=some v):k∈kvs.map (·.1):=by
 have q:(kvs.any fun kv=>decide (kv.1=k))=true:=by
  rw [valV_any,h]
  all_goals rfl
 obtain ⟨p,hp,e⟩:=List.any_eq_true.mp q
 exact List.mem_map.mpr ⟨p,hp,of_decide_eq_true e⟩
end
end L2
namespace L2
structure Def(P:Program)(w:World)(K:PySem.W.Frag)(mg:Str→Option Value)(base:Heap)(CX:CXT)(k:Nat)(x:Str)(ps:List Str)(sp:Sp):Prop where
 ex:∃(f:Addr) (fd:FuncData),FnOk P w K mg base CX k f fd ps sp∧mg x=some (.ref f)∧PySem.W.keepIn K (.ref f)=true∧Binds K fd ps []
noncomputable def tCallD(sp:Sp)(E:XK)(t:TA):TE:=fun σ H Q=>t σ H fun vs H1=>sp vs H1 Q E
section
variable {X:Cx} {CX:CXT} {k j:Nat} {ps:List Str} {sp:Sp} {E:XK} {x:Str} {p pos:Pos} {e:Expr} {es:List Expr} {t:TA}
theorem pe_callD(D:Def X.prog X.w X.K X.mg X.base CX j x ps sp)(hr:Room k X.A)(hg:Gl X x)(hx:Passes CX X E)(ha:PA X (e::es) t)(hj:j≤k:=by decide)
 (hdb:(x==("__debug__":Str))=false:=by decide) (he:starEach (e::es) X.env=(false,eval e X.env)::starEach es X.env:=by rfl) (hpl:(backTo pos (starEach es X.env)).any (·.1)=false:=by rfl):
 PE X (.Call (.Name x p) (e::es) [] pos) (tCallD sp E t):=by
 obtain ⟨f,fd,F,hm,hk,hb⟩:=D.ex
 intro pins s σ H Q I h
 refine pe_call (F.mono hj) hr hg hm hk hb .nil hx ha hdb he hpl pins s σ H Q I ?_
 show t σ H fun vs H1=>sp (vs++[]) H1 Q E
 have z:(fun (vs:List V) (H1:Hp)=>sp (vs++[]) H1 Q E)=fun vs H1=>sp vs H1 Q E:=by funext vs H1;rw [List.append_nil]
 rw [z]
 exact h
end
noncomputable def Isi(K:PySem.W.Frag)(H:Hp)(x:V)(n:String)(b:Bool):Prop:=∃t,TyOf K H x t∧PySem.W.kitOne K t (.type n)=some b
section
variable {X:Cx}
theorem call_isinst:CallR X (.builtin "isinstance") (fun xs H Q=>∃x n b,xs=[x,.ty n]∧Isi X.K H x n b∧Q (.bl b) H):=by
 intro pins s σ H xs us Q I r h
 obtain ⟨x,n,b,rfl,⟨t,ty,e⟩,q⟩:=h
 obtain ⟨u,c,rfl,r1,r2⟩:=vals2 r
 cases r2
 exact isinst_ok I r1 ty e fun tk=>⟨.bl b,H,I.tok _,rfl,q⟩
end
section
variable {K:PySem.W.Frag} {H:Hp}
theorem isi_ii{i:Int}:Isi K H (.int i) "int" true:=⟨_,.int i,rfl⟩
theorem isi_ib{i:Int}:Isi K H (.int i) "bool" false:=⟨_,.int i,by with_unfolding_all rfl⟩
theorem isi_is{i:Int}:Isi K H (.int i) "str" false:=⟨_,.int i,by with_unfolding_all rfl⟩
theorem isi_bb{i:Bool}:Isi K H (.bl i) "bool" true:=⟨_,.bl i,rfl⟩
theorem isi_bi{i:Bool}:Isi K H (.bl i) "int" true:=⟨_,.bl i,by with_unfolding_all rfl⟩
theorem isi_bs{i:Bool}:Isi K H (.bl i) "str" false:=⟨_,.bl i,by with_unfolding_all rfl⟩
theorem isi_ss{i:Str}:Isi K H (.str i) "str" true:=⟨_,.str i,rfl⟩
theorem isi_si{i:Str}:Isi K H (.str i) "int" false:=⟨_,.str i,by with_unfolding_all rfl⟩
theorem isi_sb{i:Str}:Isi K H (.str i) "bool" false:=⟨_,.str i,by with_unfolding_all rfl⟩
theorem isi_ni:Isi K H .non "int" false:=⟨_,.non,by with_unfolding_all rfl⟩
theorem isi_ns:Isi K H .non "str" false:=⟨_,.non,by with_unfolding_all rfl⟩
theorem isi_lstl{a:Addr}{xs:List V}(e:H a=some (.lst xs)):Isi K H (.ref a) "list" true:=⟨_,.lst e,rfl⟩
theorem isi_lsts{a:Addr}{xs:List V}(e:H a=some (.lst xs)):Isi K H (.ref a) "str" false:=⟨_,.lst e,by with_unfolding_all rfl⟩
theorem isi_lsti{a:Addr}{xs:List V}(e:H a=some (.lst xs)):Isi K H (.ref a) "int" false:=⟨_,.lst e,by with_unfolding_all rfl⟩
theorem isi_lstt{a:Addr}{xs:List V}(e:H a=some (.lst xs)):Isi K H (.ref a) "tuple" false:=⟨_,.lst e,by with_unfolding_all rfl⟩
theorem isi_tupt{a:Addr}{xs:List V}(e:H a=some (.tup xs)):Isi K H (.ref a) "tuple" true:=⟨_,.tup e,rfl⟩
theorem isi_tups{a:Addr}{xs:List V}(e:H a=some (.tup xs)):Isi K H (.ref a) "str" false:=⟨_,.tup e,by with_unfolding_all rfl⟩
theorem isi_tupi{a:Addr}{xs:List V}(e:H a=some (.tup xs)):Isi K H (.ref a) "int" false:=⟨_,.tup e,by with_unfolding_all rfl⟩
theorem isi_tupl{a:Addr}{xs:List V}(e:H a=some (.tup xs)):Isi K H (.ref a) "list" false:=⟨_,.tup e,by with_unfolding_all rfl⟩
theorem isi_go{x:V}{n:String}{b:Bool}{R:Bool→Prop}(h:Isi K H x n b)(q:R b):∃b,Isi K H x n b∧R b:=⟨b,h,q⟩
theorem len_goL{p:Addr}{xs:List V}{R:List V→Prop}(h:SqL K H p xs)(q:R xs):∃ys,(SqL K H p ys∨SqT K H p ys)∧R ys:=⟨xs,.inl h,q⟩
theorem len_goT{p:Addr}{xs:List V}{R:List V→Prop}(h:SqT K H p xs)(q:R xs):∃ys,(SqL K H p ys∨SqT K H p ys)∧R ys:=⟨xs,.inr h,q⟩
theorem ixT_of{p:Addr}{xs:List V}{i:Int}{v:V}{Q:VK}(h:SqT K H p xs)(e:atI xs i=some v)(q:Q v H):rIxT K (.ref p) (.int i) H Q:=⟨p,xs,i,v,rfl,rfl,h,e,q⟩
theorem ixL_of{p:Addr}{xs:List V}{i:Int}{v:V}{Q:VK}(h:SqL K H p xs)(e:atI xs i=some v)(q:Q v H):rIxL K (.ref p) (.int i) H Q:=⟨p,xs,i,v,rfl,rfl,h,e,q⟩
end
theorem while_d{c:TT}{tb:TS}{D:Ends}{σ:St}{H:Hp}{m0:Nat}(Pv:Nat→St→Hp→Prop)(h0:Pv m0 σ H)
 (hs:∀m σ H,Pv m σ H→c σ H fun b H1=>if b=true then ∃N:St→Hp→Prop,(∀σ' H',N σ' H'→∃m',m' < m∧Pv m' σ' H')∧tb {D with nx:=N,ct:=N,bk:=D.nx} σ H1 else D.nx σ H1):tWhile c tb D σ H:=⟨Pv,⟨m0,h0⟩,hs⟩
theorem atI_of{α:Type}{xs:List α}{i:Int}{v:α}(h0:0≤i)(h:xs[i.toNat]?=some v):atI xs i=some v:=by
 unfold atI ixN
 have hl:i.toNat < xs.length:=(List.getElem?_eq_some_iff.mp h).1
 rw [if_pos h0,if_pos (show i < xs.length by omega)]
 exact h
theorem cxOf_K{CX:CXT}{P:Program}{w:World}{K:PySem.W.Frag}{mg:Str→Option Value}{base:Heap}{N:List Str}{qual:Str}{scope:Scope}{f:Addr}{cd:Value}{A:Around}{outer:List Env}{s:Shared}{H:Hp}{E:XK}:
 (cxOf CX P w K mg base N qual scope f cd A outer s H E).K=K:=rfl
theorem getMap{ns:List Int}{k:Nat}(h:k < ns.length):(ns.map V.int)[k]?=some (V.int (ns.getD k 0)):=by
 rw [List.getElem?_map,List.getD_eq_getElem?_getD,List.getElem?_eq_getElem h];rfl
theorem Same.tup{K:PySem.W.Frag}{H H':Hp}{a:Addr}{xs:List V}(e:Same H H')(h:SqT K H a xs):SqT K H' a xs:=by
 rcases h with (h | ⟨o,h⟩) | h
 · exact .inl (.inl (e _ _ h))
 · exact .inl (.inr ⟨o,e _ _ h⟩)
 · exact .inr h
theorem Same.new{H:Hp}{p:Addr}{o:HO}(h:H p=none):Same H (upd H p o):=fun b u e=>by
 rw [upd_ne (ne_of_none e h)];exact e
section
variable {σ:St} {H:Hp} {Q:VK} {QT:Bool→Hp→Prop} {QA:List V→Hp→Prop} {D:Ends} {K:PySem.W.Frag}
theorem rd_asg{te:TE}{g:TG}:tAsg te g D σ H=te σ H fun x H1=>g x σ H1 D.nx:=rfl
theorem rd_var{i:Nat}:tVar i σ H Q=∃v,σ[i]?=some (some v)∧Q v H:=rfl
theorem rd_c{v:V}:tC v σ H Q=Q v H:=rfl
theorem rd_op{r:R2}{ta tb:TE}:tOp r ta tb σ H Q=ta σ H fun x H1=>tb σ H1 fun y H2=>r x y H2 Q:=rfl
theorem rd_I0{g:Int→Int→V}{x y:V}:rI0 g x y H Q=∃i j,x= .int i∧y= .int j∧Q (g i j) H:=rfl
theorem rd_I{C:Int→Int→Prop}{g:Int→Int→V}{x y:V}:rI C g x y H Q=∃i j,x= .int i∧y= .int j∧C i j∧Q (g i j) H:=rfl
theorem rd_U{g:Int→V}{x:V}:rU g x H Q=∃i,x= .int i∧Q (g i) H:=rfl
theorem rd_name{i:Nat}{v:V}{N:St→Hp→Prop}:gName i v σ H N=N (σ.set i (some v)) H:=rfl
theorem rd_ifS{c:TT}{t u:TS}:tIfS c t u D σ H=c σ H fun b H1=>if b=true then t D σ H1 else u D σ H1:=rfl
theorem rd_test{t:TE}:tTest t σ H QT=t σ H fun x H'=>∃k,x= .bl k∧QT k H':=rfl
theorem rd_b{t:TE}:tB t σ H QT=t σ H fun x H1=>∃c,x= .bl c∧QT c H1:=rfl
theorem rd_ret{te:TE}:tRet te D σ H=te σ H D.rt:=rfl
theorem rd_retN:tRetN D σ H=D.rt .non H:=rfl
theorem rd_next:tNext D σ H=D.nx σ H:=rfl
theorem rd_break:tBreak D σ H=D.bk σ H:=rfl
theorem rd_cont:tCont D σ H=D.ct σ H:=rfl
theorem rd_cb{r:List V→Hp→VK→Prop}{t:TA}:tCB r t σ H Q=t σ H fun vs H1=>r vs H1 Q:=rfl
theorem rd_cons{ta:TE}{tr:TA}:tCons ta tr σ H QA=ta σ H fun x H1=>tr σ H1 fun xs H2=>QA (x::xs) H2:=rfl
theorem rd_nil:tNil σ H QA=QA [] H:=rfl
theorem rd_call{sp:Sp}{E:XK}{t:TA}:tCallD sp E t σ H Q=t σ H fun vs H1=>sp vs H1 Q E:=rfl
theorem rd_not{t:TT}:tNot t σ H QT=t σ H fun c H1=>QT (!c) H1:=rfl
theorem rd_or{t u:TT}:tOr t u σ H QT=t σ H fun c H1=>if c=true then QT true H1 else u σ H1 QT:=rfl
theorem rd_and{t u:TT}:tAnd t u σ H QT=t σ H fun c H1=>if c=true then u σ H1 QT else QT false H1:=rfl
theorem rd_andV{ta tb:TE}:tAndV ta tb σ H Q=ta σ H fun x H1=>∃c,x= .bl c∧if c=true then tb σ H1 Q else Q (.bl false) H1:=rfl
theorem rd_orV{ta tb:TE}:tOrV ta tb σ H Q=ta σ H fun x H1=>∃c,x= .bl c∧if c=true then Q (.bl true) H1 else tb σ H1 Q:=rfl
theorem rd_notV{ta:TE}:tNotV ta σ H Q=ta σ H fun x H1=>∃c,x= .bl c∧Q (.bl (!c)) H1:=rfl
theorem rd_if{t:TT}{ta tb:TE}:tIf t ta tb σ H Q=t σ H fun c H1=>if c=true then ta σ H1 Q else tb σ H1 Q:=rfl
theorem rd_un{r:V→Hp→VK→Prop}{ta:TE}:tUn r ta σ H Q=ta σ H fun x H1=>r x H1 Q:=rfl
theorem rd_eq{x y:V}:rEq x y H Q=(scal x y=true∧Q (.bl (decide (x=y))) H):=rfl
theorem rd_ne{x y:V}:rNe x y H Q=(scal x y=true∧Q (.bl (!decide (x=y))) H):=rfl
theorem rd_par{i j:Nat}{ta:TA}:tPar i j ta D σ H=ta σ H fun vs H1=>∃v w,vs=[v,w]∧D.nx ((σ.set i (some v)).set j (some w)) H1:=rfl
theorem rd_tup{t:TA}:tTup t σ H Q=t σ H fun xs H1=>xs.length≤sizeLine∧∀p,H1 p=none→Q (.ref p) (upd H1 p (.tup xs)):=rfl
theorem rd_lst{t:TA}:tLst t σ H Q=t σ H fun xs H1=>xs.length≤sizeLine∧∀p,H1 p=none→Q (.ref p) (upd H1 p (.lst xs)):=rfl
theorem rd_never:tNever D σ H=False:=rfl
theorem rd_drop{te:TE}:tDrop te D σ H=te σ H fun _ H1=>D.nx σ H1:=rfl
theorem rd_gcons{t:TG}{u:TGs}{vs:List V}{N:St→Hp→Prop}:gCons t u vs σ H N=∃v r,vs=v::r∧t v σ H fun σ' H'=>u r σ' H' N:=rfl
theorem rd_gnil{vs:List V}{N:St→Hp→Prop}:gNil vs σ H N=(vs=[]∧N σ H):=rfl
theorem rd_gsub{to ti:TE}{t:TSet}{v:V}{N:St→Hp→Prop}:gSub to ti t v σ H N=to σ H fun o H1=>ti σ H1 fun i H2=>t o i v H2 fun H3=>N σ H3:=rfl
theorem rd_chain{r r':R2}{ta tb tc:TE}:tChain r r' ta tb tc σ H Q=ta σ H fun x H1=>tb σ H1 fun y H2=>r x y H2 fun z H3=>∃k,z= .bl k∧
 (if k=true then tc σ H3 fun w' H4=>r' y w' H4 Q else Q (.bl false) H3):=rfl
theorem rd_rng1{ta:TA}{R:It→Hp→Prop}:iRng1 ta σ H R=ta σ H fun vs H1=>∃j:Int,vs=[.int j]∧-(2 ^ 62)≤j∧j < 2 ^ 62∧R (Itr 0 j.toNat) H1:=rfl
theorem rd_rng2{ta:TA}{R:It→Hp→Prop}:iRng2 ta σ H R=ta σ H fun vs H1=>∃i j:Int,vs=[.int i,.int j]∧(-(2 ^ 62)≤i∧i < 2 ^ 62∧-(2 ^ 62)≤j∧j < 2 ^ 62)∧R (Itr i (j - i).toNat) H1:=rfl
theorem rd_ilist{tl:TE}{R:It→Hp→Prop}:iList K tl σ H R=tl σ H fun x H1=>∃a,x= .ref a∧(∃xs,SqL K H1 a xs)∧R (Itl K a) H1:=rfl
theorem rd_itup{tl:TE}{R:It→Hp→Prop}:iTup K tl σ H R=tl σ H fun x H1=>∃a,x= .ref a∧(∃xs,SqT K H1 a xs)∧R (Itt K a) H1:=rfl
noncomputable def ForTail(g:TG)(tb:TS)(D:Ends)(σ:St):It→Hp→Prop:=fun J H1=>∃W:Nat→Nat→St→Hp→Prop,(∃m,W 0 m σ H1)∧∀i m σ H,W i m σ H→
 (J.stop i H∧D.nx σ H)∨(J.go i H∧∃N:St→Hp→Prop,(∀σ' H',N σ' H'→∃m',m' < m∧W (i+1) m' σ' H')∧∀x H',J.yld i H x H'→g x σ H' fun σ2 H2=>tb {D with nx:=N,ct:=N,bk:=D.nx} σ2 H2)
theorem rd_for'{wi:TI}{g:TG}{tb:TS}:tFor wi g tb D σ H=wi σ H (ForTail g tb D σ):=rfl
theorem forR_by{lo:Int}{n:Nat}{g:TG}{tb:TS}(Pv:Nat→St→Hp→Prop)(h0:Pv 0 σ H)
 (hs:∀i σ H,i < n→Pv i σ H→g (.int (lo+i)) σ H fun σ2 H2=>tb {D with nx:=Pv (i+1),ct:=Pv (i+1),bk:=D.nx} σ2 H2) (hd:∀σ H,Pv n σ H→D.nx σ H):ForTail g tb D σ (Itr lo n) H:=for_range Pv h0 hs hd
theorem forL_by{a:Addr}{xs:List V}{g:TG}{tb:TS}(Pv:Nat→St→Hp→Prop)(h0:Pv 0 σ H)(hl:∀i σ H,i≤xs.length→Pv i σ H→SqL K H a xs)
 (hs:∀i x σ H,xs[i]?=some x→Pv i σ H→g x σ H fun σ2 H2=>tb {D with nx:=Pv (i+1),ct:=Pv (i+1),bk:=D.nx} σ2 H2) (hd:∀σ H,Pv xs.length σ H→D.nx σ H):ForTail g tb D σ (Itl K a) H:=for_list Pv h0 hl hs hd
theorem seq_go{t u:TS}(h:∀rest:St→Hp→Prop,rest=u D→t {D with nx:=rest} σ H):tSeq t u D σ H:=h _ rfl
theorem leaf_go{rest r:St→Hp→Prop}(h:rest=r)(q:r σ H):rest σ H:=by rw [h];exact q
theorem cell_go{a:Addr}{ns:List Int}{k:Int}{R:List Int→Prop}(h:SqL K H a (ns.map V.int))(h0:0≤k)(hl:ns.length≤63)(q:R ns):∃x:List Int,SqL K H a (x.map V.int)∧0≤k∧x.length≤63∧R x:=⟨ns,h,h0,hl,q⟩
theorem cdiv_of{i j:Int}(h1:0 < j)(h2:j < 1073741824):CDiv i j:=⟨h1,h2⟩
theorem cpow_of{i j:Int}(h1:0≤j)(h2:j≤1000000)(h3:i.natAbs < 2 ^ 64):CPow i j:=⟨h1,h2,h3⟩
theorem cmul_l{i j:Int}(h1:-(2 ^ 64) < i)(h2:i < 2 ^ 64):CMul i j:= .inl ⟨h1,h2⟩
theorem cmul_r{i j:Int}(h1:-(2 ^ 64) < j)(h2:j < 2 ^ 64):CMul i j:= .inr ⟨h1,h2⟩
end
end L2
namespace L2
noncomputable def PassesS(CX:CXT)(X:Cx)(EE:St→XK):Prop:=∀(pins:List (Addr×Obj)) (σ:St) (H:Hp) (s:Shared) (e:Value) (s':Shared),Inv X pins σ H s→CX X.stack H s (EE σ) e s'→X.xe e s'
noncomputable abbrev TH:=Value→Addr→TS
end L2
namespace L2
theorem compLoop_any{prog:Program}{w:World}{A:Around}{R:Result→Shared→Prop}{s:Shared}{elt target iter:Expr}{ifs:List Expr}{scope:Scope}{pos:Pos}{it acc:Value}{env:Env}(I:Nat→Shared→Prop)
 (turn:∀n s,I n s→wpAny (model prog w) A (pyNext it) (fun r s₁=>match r with
  | none=>R (.ok .next) s₁
  | some v=>wpAny (model prog w) A (letOwnedTupleGo target it v) (fun _ s₁=>wpAny (model prog w) A (assign target env v) (fun _ s₂=>
   wpAny (model prog w) A (forIn ifs true fun c r=>if r=true then do let ok ← isTrue c env (eval c env);pure (ForInStep.yield ok) else pure (ForInStep.yield r)) (fun ok s₃=>
    if ok=true then wpAny (model prog w) A (eval elt env) (fun x s₄=>
     wpAny (model prog w) A (call (.builtin "list.append") [acc,x]) (fun _ s₅=>∃m,m < n∧I m s₅) (notedBy (model prog w) A env fun e s'=>R (.error e) s') s₄) (notedBy (model prog w) A env fun e s'=>R (.error e) s') s₃
    else ∃m,m < n∧I m s₃) (notedBy (model prog w) A env fun e s'=>R (.error e) s') s₂) (notedBy (model prog w) A env fun e s'=>R (.error e) s') s₁) (notedBy (model prog w) A env fun e s'=>R (.error e) s') s₁) (notedBy (model prog w) A env fun e s'=>R (.error e) s') s)
 (n:Nat) (h:I n s):
 codeAny (model prog w) A (.compLoop (.ListComp elt [⟨target,iter,ifs,0⟩] scope pos) 0 it acc env) R s:=by
 refine codeAny_loop rfl I (fun n s hI=>?_) n h
 show wpAny _ A ((compTurn (.ListComp elt [⟨target,iter,ifs,0⟩] scope pos) 0 it acc env).onRaise (fun x=>do noteFrame x env;theTreesLotGoes x)) _ _ s
 refine wpAny_noted ?_
 rw [compTurn_list]
 refine wpAny_bind (wpAny_standAt (wpAny_bind (wpAny_mono (turn n s hI) (fun r s₁ h₁=>?_) fun _ _ h'=>h')))
 cases r with
 | none=>exact wpAny_pure h₁
 | some v=>
  refine wpAny_bind (wpAny_mono h₁ (fun _ s₁ h₁=>?_) fun _ _ h'=>h')
  refine wpAny_bind (wpAny_mono h₁ (fun _ s₂ h₂=>wpAny_bind (wpAny_mono h₂ (fun ok s₃ h₃=>?_) fun _ _ h'=>h')) fun _ _ h'=>h')
  cases ok with
  | false=>exact wpAny_pure ⟨rfl,h₃⟩
  | true=>
   exact wpAny_bind (wpAny_bind (wpAny_mono h₃ (fun x s₄ h₄=>wpAny_bind (wpAny_mono h₄ (fun _ s₅ h₅=>wpAny_pure (wpAny_pure ⟨rfl,h₅⟩)) fun _ _ h'=>h')) fun _ _ h'=>h'))
noncomputable def clo(env:Env):List (Str×NameKind)→List (Str×Addr)→List (Str×Addr)
 | [],cs=>cs
 | (n,k)::r,cs=>clo env r (if (k== .free)=true then (match env.cells.lookup n with | some c=>(n,c)::cs | none=>cs) else cs)
theorem clo_loop{env:Env}:∀(names:List (Str×NameKind)) (cs:List (Str×Addr)),(∀y∈names,y.2= .free→∃c,env.cells.lookup y.1=some c)→
 (forIn (m:=Sem) names cs fun (x:Str×NameKind) (r:List (Str×Addr))=>match x with | (name,kind)=>if (kind== .free)=true then do let c ← cellOf env name;pure (ForInStep.yield ((name,c)::r)) else pure (ForInStep.yield r))=pure (clo env names cs)
 | [],cs,_=>rfl
 | (n,k)::r,cs,h=>by
  rw [List.forIn_cons]
  have ih:=fun cs=>clo_loop r cs fun y hy=>h y (List.mem_cons_of_mem _ hy)
  by_cases hk:(k==NameKind.free)=true
  · obtain ⟨c,hc⟩:=h (n,k) List.mem_cons_self (by simpa using hk)
    have e:cellOf env n=pure c:=by unfold cellOf;rw [show env.cells.lookup n=some c from hc]
    simp only [hk,if_true,e,clo]
    rw [show env.cells.lookup n=some c from hc]
    exact ih _
  · simp only [hk,clo]
    exact ih _
theorem clo_closure{scope:Scope}{env:Env}(h:∀y∈scope.names,y.2= .free→∃c,env.cells.lookup y.1=some c):closureFor scope env=pure (clo env scope.names []):=by
 unfold closureFor
 show (forIn (m:=Sem) scope.names ([]:List (Str×Addr)) _ >>=fun r=>pure r)=_
 rw [clo_loop scope.names [] h]
 rfl
theorem clo_cells{env:Env}{x:Str}{c:Addr}:∀(names:List (Str×NameKind)) (cs:List (Str×Addr)),(clo env names cs).lookup x=some c→env.cells.lookup x=some c∨cs.lookup x=some c
 | [],cs,h=> .inr h
 | (n,k)::r,cs,h=>by
  unfold clo at h
  rcases clo_cells r _ h with q | q
  · exact .inl q
  · split at q
    · split at q
      · rename_i c' hc
        rw [List.lookup_cons]at q
        cases hx:x==n with
        | true=>
         rw [hx]at q
         have e:x=n:=by simpa using hx
         subst e
         simp only [Option.some.injEq]at q
         subst q
         exact .inl hc
        | false=>rw [hx]at q;exact .inr q
      · exact .inr q
    · exact .inr q
theorem clo_has{env:Env}{x:Str}{c:Addr}(hc:env.cells.lookup x=some c):∀(names:List (Str×NameKind)) (cs:List (Str×Addr)),(cs.lookup x=some c∨(cs.lookup x=none∧(x,NameKind.free)∈names))→(clo env names cs).lookup x=some c
 | [],cs,h=>by
  rcases h with h | ⟨_,h⟩
  · exact h
  · cases h
 | (n,k)::r,cs,h=>by
  unfold clo
  refine clo_has hc r _ ?_
  by_cases hx:x=n
  · subst hx
    by_cases hk:(k==NameKind.free)=true
    · rw [if_pos hk,hc]
      exact .inl (by simp [List.lookup_cons])
    · rw [if_neg hk]
      rcases h with h | ⟨h1,h2⟩
      · exact .inl h
      · refine .inr ⟨h1,?_⟩
        rcases List.mem_cons.mp h2 with e | e
        · cases e;exact absurd rfl hk
        · exact e
  · have hb:(x==n)=false:=by simpa using hx
    have key:∀cs':List (Str×Addr),cs'.lookup x=cs.lookup x→(cs'.lookup x=some c∨(cs'.lookup x=none∧(x,NameKind.free)∈r)):=fun cs' e=>by
     rw [e]
     rcases h with h | ⟨h1,h2⟩
     · exact .inl h
     · refine .inr ⟨h1,?_⟩
       rcases List.mem_cons.mp h2 with e | e
       · cases e;exact absurd rfl hx
       · exact e
    refine key _ ?_
    split
    · split
      · simp [List.lookup_cons,hb]
      · rfl
    · rfl
theorem relabel_kind{env:Env}{k':NameKind}:∀{names:List (Str×NameKind)} {x:Str},(∀y∈names,y.2≠ .cell)→
 (names.map fun (n,k)=>if (k==NameKind.free && env.scope.kind== .function && env.kindOf n==some .cell) then (n,NameKind.cell) else (n,k)).lookup x=some k'→(k'= .cell∨k'= .free)→(x,NameKind.free)∈names
 | [],_,_,h,_=>by simp at h
 | (n,k)::r,x,hc,h,hk=>by
  have ih:=@relabel_kind env k' r x (fun y hy=>hc y (List.mem_cons_of_mem _ hy))
  have h':List.lookup x ((if (k==NameKind.free && env.scope.kind== .function && env.kindOf n==some .cell)=true then (n,NameKind.cell) else (n,k))::(r.map fun (n,k)=>if (k==NameKind.free && env.scope.kind== .function && env.kindOf n==some .cell) then (n,NameKind.cell) else (n,k)))=some k':=h
  by_cases hx:x=n
  · subst hx
    by_cases q:(k==NameKind.free && env.scope.kind== .function && env.kindOf x==some .cell)=true
    · have:k= .free:=by simp only [Bool.and_eq_true,beq_iff_eq]at q;exact q.1.1
      subst this
      exact List.mem_cons_self
    · rw [if_neg q,List.lookup_cons]at h'
      simp only [beq_self_eq_true]at h'
      have e:k=k':=Option.some.inj h'
      rcases hk with z | z
      · exact absurd (e.trans z) (hc (x,k) List.mem_cons_self)
      · rw [e.trans z];exact List.mem_cons_self
  · have hb:(x==n)=false:=by simpa using hx
    refine List.mem_cons_of_mem _ (ih ?_ hk)
    split at h'
    · rw [List.lookup_cons,hb]at h';exact h'
    · rw [List.lookup_cons,hb]at h';exact h'
theorem lookup_relabel_free{env:Env}:∀{names:List (Str×NameKind)} {x:Str},names.lookup x=some .free→
 (names.map fun (n,k)=>if (k==NameKind.free && env.scope.kind== .function && env.kindOf n==some .cell) then (n,NameKind.cell) else (n,k)).lookup x=some .cell∨
 (names.map fun (n,k)=>if (k==NameKind.free && env.scope.kind== .function && env.kindOf n==some .cell) then (n,NameKind.cell) else (n,k)).lookup x=some .free
 | [],_,h=>by simp at h
 | (n,k)::r,x,h=>by
  have ih:=@lookup_relabel_free env r x
  show List.lookup x ((if (k==NameKind.free && env.scope.kind== .function && env.kindOf n==some .cell)=true then (n,NameKind.cell) else (n,k))::_)=_∨List.lookup x ((if (k==NameKind.free && env.scope.kind== .function && env.kindOf n==some .cell)=true then (n,NameKind.cell) else (n,k))::_)=_
  cases hx:x==n with
  | true=>
   simp only [List.lookup_cons,hx]at h
   cases h
   split
   · left;simp [List.lookup_cons,hx]
   · right;simp [List.lookup_cons,hx]
  | false=>
   simp only [List.lookup_cons,hx]at h
   split
   · simp only [List.lookup_cons,hx];exact ih h
   · simp only [List.lookup_cons,hx];exact ih h
structure Blk where
 s:Shared
 H:Hp
 C:Addr
 fp:List Addr
noncomputable abbrev Cx.blk(X:Cx)(scope:Scope)(N':List Str)(b:Blk):Cx:=
 {X with N:=N',s₀:=b.s,H₀:=b.H,env:=compEnvC scope (clo X.env scope.names []) b.C X.env,outer:=X.stack,ex:=b.fp,fn:=fun _=>false,pn:=[],xe:=fun _ _=>False}
noncomputable def around(N:List Str)(fs:List Nat):List Str:=fs.map fun j=>N.getD j ""
noncomputable def compOkB(N:List Str)(esc scope:Scope)(xs:List Str)(fs:List Nat):Bool:=
 decide (xs++around N fs).Nodup && (match scope.kind with | .function=>true | _=>false) && xs.all (fun x=>decide (scope.names.lookup x=some .local)) &&
 scope.names.all (fun y=>decide (y.2≠ .cell) && (!decide (y.2= .local) || decide (scope.names.lookup y.1=some .local)) && (!decide (y.2= .free) || decide (esc.names.lookup y.1=some .cell) || decide (esc.names.lookup y.1=some .free))) &&
 fs.all fun j=>decide (j < N.length) && decide (scope.names.lookup (N.getD j "")=some .free)
structure CompOk(N:List Str)(esc scope:Scope)(xs:List Str)(fs:List Nat):Prop where
 nd:(xs++around N fs).Nodup
 kind:scope.kind= .function
 own:∀x∈xs,scope.names.lookup x=some .local
 cell:∀y∈scope.names,y.2≠ .cell
 names:∀y∈scope.names,y.2= .local→scope.names.lookup y.1=some .local
 free:∀y∈scope.names,y.2= .free→esc.names.lookup y.1=some .cell∨esc.names.lookup y.1=some .free
 fs:∀j∈fs,j < N.length∧scope.names.lookup (N.getD j "")=some .free
theorem compOk_of{N:List Str}{esc scope:Scope}{xs:List Str}{fs:List Nat}(h:compOkB N esc scope xs fs=true):CompOk N esc scope xs fs:=by
 unfold compOkB at h
 simp only [Bool.and_eq_true,decide_eq_true_eq,List.all_eq_true]at h
 obtain ⟨⟨⟨⟨h1,h2⟩,h3⟩,h4⟩,h5⟩:=h
 refine ⟨h1,?_,h3,fun y hy=>(h4 y hy).1.1,fun y hy e=>?_,fun y hy e=>?_,h5⟩
 · split at h2
   · assumption
   · cases h2
 · have:=(h4 y hy).1.2
   simpa [e] using this
 · have:=(h4 y hy).2
   simpa [e] using this
section
variable {X:Cx} {pins:List (Addr×Obj)} {σ:St} {H:Hp} {s:Shared} {scope:Scope} {xs:List Str} {fs:List Nat} {fp:List Addr} {C:Addr}
theorem blk_ok(I:Inv X pins σ H s)(O:CompOk X.N X.env.scope scope xs fs)(hf:∀b∈fp,FpOk X pins H b)(hC:s.heap.objs.size≤C)(hfp:∀b∈fp,b < s.heap.objs.size):(X.blk scope (xs++around X.N fs) ⟨s,H,C,fp⟩).Ok:=by
 have hcl:∀x c,(clo X.env scope.names []).lookup x=some c→X.env.cells.lookup x=some c:=fun x c e=>by
  rcases clo_cells _ _ e with q | q
  · exact q
  · cases q
 have hsz:∀b o,X.base.get? b=some o→b < X.s₀.heap.objs.size:=fun b o e=>Nat.lt_of_lt_of_le (Heap.lt_size e) I.ok.bsz
 refine ⟨I.ok.mod,O.kind,I.ok.glob,I.ok.blt,hC,fun x y c h1 h2=>I.ok.inj x y c (hcl x c h1) (hcl y c h2),fun x hx=>?_,fun x c z=>(by cases z),I.ok.hd,I.ok.frames,.inl rfl,fun b hb=>⟨Nat.ne_of_lt (Nat.lt_of_lt_of_le (hfp b hb) hC),fun x c e=>(hf b hb).2.2.2.2.1 x c (hcl x c e)⟩,I.bs,Nat.le_trans I.ok.bsz I.sz,fun b o e hb=>?_,fun b hb hs=>?_,I.stack,I.stkFree⟩
 · have hm:(x,NameKind.free)∈scope.names:=by
    rcases hx with hx | hx
    · exact relabel_kind (env:=X.env) O.cell (show (scope.names.map _).lookup x=some NameKind.cell from hx) (.inl rfl)
    · exact relabel_kind (env:=X.env) O.cell (show (scope.names.map _).lookup x=some NameKind.free from hx) (.inr rfl)
   obtain ⟨c,hc⟩:=I.ok.has x (O.free _ hm rfl)
   exact ⟨c,clo_has hc _ _ (.inr ⟨rfl,hm⟩)⟩
 · obtain ⟨_,_,_,h4,_⟩:=hf b hb
   rcases h4 with h4 | h4
   · exact I.ok.noex b o e h4
   · exact absurd (Nat.lt_of_lt_of_le (hsz b o e) h4) (Nat.lt_irrefl _)
 · obtain ⟨_,h2,h3,_⟩:=hf b hb
   exact (List.mem_cons.mp (I.stkSub b hs)).elim h2 h3
theorem blk_in{h1:Heap}{t:Nat}{D:Addr}{m:Str→Option Value}(I:Inv X pins σ H s)(O:CompOk X.N X.env.scope scope xs fs)(hf:∀b∈fp,FpOk X pins H b)(hD:s.heap.objs.size≤D)(hC:s.heap.objs.size≤C)(hfp:∀b∈fp,b < s.heap.objs.size)(hDC:D≠C)
 (k:∀b u,s.heap.get? b=some u→h1.get? b=some u) (hDo:h1.get? D=some {cls:= .type "list",data:= .seq #[] 0}) (hn:h1.Ns C m):
 Inv (X.blk scope (xs++around X.N fs) ⟨s,H,C,fp⟩) [] (xs.map (fun _=>none)++fs.map fun j=>σ.getD j none) (upd H D (.lst [])) {s with heap:=h1,toks:=t}:=by
 have hcl:∀x c,(clo X.env scope.names []).lookup x=some c→X.env.cells.lookup x=some c:=fun x c e=>by
  rcases clo_cells _ _ e with q | q
  · exact q
  · cases q
 have ok:=blk_ok (C:=C) I O hf hC hfp
 have hnD:H D=none:=I.hok.fresh hD
 refine ⟨ok,rfl,I.bare,Un.laid k hD hnD,⟨m,hn,fun i x v e1 e2 e3=>?_⟩,fun x c e=>?_,?_,fun x c e=>?_,fun p hp=>absurd (show p∈([]:List (Addr×Obj)) from hp) (by simp),I.hok.laid k hD ⟨Nat.zero_le _,[],0,.nil,hDo⟩,by simp [around]⟩
 · by_cases hi:i < xs.length
   · rw [List.getElem?_append_left (by simpa using hi),List.getElem?_map]at e2
     cases q:xs[i]? with
     | none=>rw [q]at e2;cases e2
     | some a=>rw [q]at e2;cases e2
   · have hi:xs.length≤i:=Nat.le_of_not_lt hi
     rw [List.getElem?_append_right (by simpa using hi)]at e1 e2
     unfold around at e1
     rw [List.length_map]at e2
     rw [List.getElem?_map]at e1 e2
     cases q:fs[i - xs.length]? with
     | none=>rw [q]at e2;cases e2
     | some j=>
      rw [q]at e1 e2
      simp only [Option.map_some,Option.some.injEq]at e1 e2
      obtain ⟨hj,hl⟩:=O.fs j (List.mem_of_getElem? q)
      obtain ⟨m0,_,hl0⟩:=I.loc
      have e1':X.N[j]?=some x:=by rw [← e1,List.getD_eq_getElem?_getD,List.getElem?_eq_getElem hj];rfl
      have e2':σ[j]?=some (some v):=by
       rw [List.getD_eq_getElem?_getD]at e2
       cases z:σ[j]? with
       | none=>rw [z]at e2;cases e2
       | some y=>rw [z]at e2;simp only [Option.getD_some]at e2;rw [e2]
      rw [e1]at hl
      have hm:(x,NameKind.free)∈scope.names:=PySem.mem_of_lookup hl
      have hk:=O.free _ hm rfl
      obtain ⟨u,r,l⟩:=hl0 j x v e1' e2' (hk.elim (fun z=> .inr (.inl z)) fun z=> .inr (.inr z))
      refine ⟨u,r,?_⟩
      rcases l with ⟨z,_⟩ | ⟨_,c,hc,cell⟩
      · have z':X.env.scope.names.lookup x=some .local:=z
        rcases hk with hk | hk <;> (rw [z']at hk;cases hk)
      · refine .inr ⟨?_,c,clo_has hc _ _ (.inr ⟨rfl,hm⟩),?_⟩
        · exact lookup_relabel_free (env:=X.env) hl
        · obtain ⟨o,ho,hd⟩:=cell
          exact ⟨o,k _ _ ho,hd⟩
 · obtain ⟨v,o,ho,hd⟩:=I.cell x c (hcl x c e)
   exact ⟨v,o,k _ _ ho,hd⟩
 · show upd H D (.lst []) C=none
   rw [upd_ne (Ne.symm hDC)];exact I.hok.fresh hC
 · obtain ⟨v,q⟩:=I.cell x c (hcl x c e)
   rw [upd_ne (Nat.ne_of_lt (Nat.lt_of_lt_of_le q.lt hD))]
   exact I.freeC x c (hcl x c e)
theorem blk_out{N':List Str}{σ':St}{H':Hp}{s':Shared}{h2:Heap}{pl:List (Addr×Obj)}(I:Inv X pins σ H s)(hf:∀b∈fp,FpOk X pins H b)(hC:s.heap.objs.size≤C)(J:Inv (X.blk scope N' ⟨s,H,C,fp⟩) pl σ' H' s')(sb:Heap.SameBut C s'.heap h2):
 Inv X pins σ H' {s' with heap:=h2}:=by
 have u:=J.base
 have ne:∀b o,s.heap.get? b=some o→b≠C:=fun b o e=>Nat.ne_of_lt (Nat.lt_of_lt_of_le (Heap.lt_size e) hC)
 refine I.call' (ch:=fp) J.os ⟨fun b o e n h1 h2=>(sb.2 b (ne b o e)).trans (u.keep b o e n h1 h2),fun b o e n h1 h2=>?_,u.free,fun b o e hx=>?_,u.tups,u.frzs,u.tbls⟩ (fun a o e=>?_) J.bare fun b hb=>?_
 · obtain ⟨sl,q⟩:=u.slot b o e n h1 h2
   exact ⟨sl,(sb.2 b (ne b o e)).trans q⟩
 · obtain ⟨o',q⟩:=u.there b o e hx
   exact ⟨o',(sb.2 b (ne b o e)).trans q⟩
 · have fr:H' C=none:=J.free
   refine (J.hok a o e).stay (fun b v hc q=>(sb.2 b ?_).trans q) (fun _ q=>q) fun _ _ q=>q
   rcases hc with rfl | hc
   · exact ne_of_none e fr
   · exact ne_of_none hc fr
 · obtain ⟨_,h2,h3,h4,h5,h6⟩:=hf b hb
   exact ⟨h4,h2,h5,h6⟩
end
end L2
namespace L2
noncomputable def Kept(σ σ':St):Prop:=∀(i:Nat) (v:V),σ[i]?=some (some v)→σ'[i]?=some (some v)
noncomputable def PTs(X:Cx)(ifs:List Expr)(t:TT):Prop:=
 ∀(pins:List (Addr×Obj)) (s:Shared) (σ:St) (H:Hp) (Q:Bool→Hp→Prop),Inv X pins σ H s→t σ H Q→
   wpAny (model X.prog X.w) X.A (forIn ifs true fun c r=>if r=true then do let ok ← isTrue c X.env (eval c X.env);pure (ForInStep.yield ok) else pure (ForInStep.yield r)) (TP X pins σ Q) X.xe s
noncomputable def tYes:TT:=fun _ H Q=>Q true H
theorem pts_nil{X:Cx}:PTs X [] tYes:=fun _ _ _ H _ I h=>wpAny_tests_nil ⟨H,I,h⟩
theorem pts_one{X:Cx}{c:Expr}{t:TT}(hc:PT X c t):PTs X [c] t:=fun pins s σ H Q I h=>wpAny_tests_one (hc pins s σ H Q I h)
noncomputable def CompTail(σ0:St)(g:Blk→TG)(tt:Blk→TT)(te:Blk→TE)(Q:VK)(J:It)(H1:Hp):Prop:=∀(b:Blk) (D:Addr),H1 D=none→∃W:Nat→Nat→List V→Hp→Prop,(∃m,W 0 m [] (upd H1 D (.lst [])))∧∀i m ys H2,W i m ys H2→H2 D=some (.lst ys)∧
 ((J.stop i H2∧Q (.ref D) H2)∨(J.go i H2∧∀x H3,J.yld i H2 x H3→g b x σ0 H3 fun σ6 H6=>Kept σ0 σ6∧tt b σ6 H6 fun ok H7=>
   if ok=true then te b σ6 H7 fun y H8=>H8 D=some (.lst ys)∧ys.length < sizeLine∧∃m',m' < m∧W (i+1) m' (ys++[y]) (upd H8 D (.lst (ys++[y])))
   else ∃m',m' < m∧W (i+1) m' ys H7))
noncomputable def tComp(wi:TI)(n:Nat)(fs:List Nat)(g:Blk→TG)(tt:Blk→TT)(te:Blk→TE):TE:=fun σ H Q=>wi σ H (CompTail (List.replicate n none++fs.map fun j=>σ.getD j none) g tt te Q)
section
variable {X:Cx} {pins:List (Addr×Obj)} {σ:St} {scope:Scope} {xs:List Str} {fs:List Nat} {elt tg iter:Expr} {ifs:List Expr} {pos:Pos} {wi:TI} {g:Blk→TG} {tt:Blk→TT} {te:Blk→TE}
theorem turned_of{H:Hp}{s:Shared}{C:Addr}{h2:Heap}(I:Inv X pins σ H s)(F:FpOk X pins H C)(sb:Heap.SameBut C s.heap h2):Inv X pins σ H {s with heap:=h2}:=
 I.turned (t':=s.toks) (fun b o hb e=>(sb.2 b hb).trans e) F.1 F.2.1 F.2.2.2.1 F.2.2.2.2.1 F.2.2.2.2.2
theorem comp_run{Q:VK}{itv:Value}{s2:Shared}{E:Value→Shared→Prop}{RR:Value→Addr→Result→Shared→Prop}(hc:X.calm=true)(O:CompOk X.N X.env.scope scope xs fs)
 (hg:∀b,PG (X.blk scope (xs++around X.N fs) b) tg (g b)) (ht:∀b,PTs (X.blk scope (xs++around X.N fs) b) ifs (tt b)) (he:∀b,PE (X.blk scope (xs++around X.N fs) b) elt (te b))
 (h:PIE X pins σ tg (CompTail (List.replicate xs.length none++fs.map fun j=>σ.getD j none) g tt te Q) itv s2)
 (hR:∀D C s' m H',s'.heap.Ns C m→Inv X pins σ H' s'→Q (.ref D) H'→FpOk X pins H' C→RR (.ref D) C (.ok .next) s'):
 wpAny (model X.prog X.w) X.A (newList []) (fun acc s₃=>wpAny (model X.prog X.w) X.A (newFunctionEnv scope X.env.globals (clo X.env scope.names []) [] X.env.qual none .none (some X.env)) (fun cenv s₄=>
  codeAny (model X.prog X.w) X.A (.compStart (.ListComp elt [⟨tg,iter,ifs,0⟩] scope pos) 0 itv acc {cenv with scope:=relabel scope X.env}) (RR acc cenv.locals) s₄) E s₃) E s2:=by
 obtain ⟨it,fp,tn,J,H2,rfl,I2,T,st2,f2,rd⟩:=h
 have hfp:∀b∈fp,b < s2.heap.objs.size:=fun b hb=>by
  obtain ⟨o,e,_⟩:=T.obj _ _ st2 b hb
  exact Heap.lt_size e
 refine wpAny_newObj_type (wpAny_newFunctionEnv O.cell (by intro y hy;simp at hy) (fun h₁ hns₁ hsb₁=>?_) O.kind)
 dsimp only at hns₁ hsb₁ ⊢
 generalize hH2:s2.heap.push {cls:= .type "list",dict:=none,data:= .seq ([]:List Value).toArray}=HH at hns₁ hsb₁ ⊢
 have hC:HH.objs.size=s2.heap.objs.size+1:=by rw [← hH2,Heap.size_push]
 have hDC:s2.heap.objs.size≠HH.objs.size:=by rw [hC];exact Nat.ne_of_lt (Nat.lt_succ_self _)
 have hCle:s2.heap.objs.size≤HH.objs.size:=by rw [hC];exact Nat.le_succ _
 have old:∀b o,s2.heap.get? b=some o→h₁.get? b=some o:=fun b o e=>hsb₁.extBut b o (by rw [hC];exact Nat.ne_of_lt (Nat.lt_succ_of_lt (Heap.lt_size e))) (Heap.get?_push_of_some _ (hH2▸Heap.get?_push_of_some _ e))
 have hacc:h₁.get? s2.heap.objs.size=some {cls:= .type "list",data:= .seq #[] 0}:=hsb₁.extBut _ _ hDC (Heap.get?_push_of_some _ (hH2▸Heap.get?_push_size _ rfl))
 obtain ⟨W,⟨m0,w0⟩,turn⟩:=rd ⟨s2,H2,HH.objs.size,fp⟩ s2.heap.objs.size I2.fresh
 have I3:=blk_in (t:=s2.toks+([]:List (Str×Value)).length) I2 O f2 (Nat.le_refl _) hCle hfp hDC old hacc hns₁
 rw [show xs.map (fun _=>(none:Option V))=List.replicate xs.length none from List.map_const' ..]at I3
 generalize hX:X.blk scope (xs++around X.N fs) ⟨s2,H2,HH.objs.size,fp⟩=X' at I3
 have stat:∀{H':Hp},(∀b∈fp,H' b=none)→∀b∈fp,FpOk X' [] H' b:=fun hn b hb=>by
  subst hX
  refine ⟨hn b hb,?_,?_,.inl hb,fun x c e=>?_,fun p hp=>absurd hp (by simp)⟩
  · exact (I3.ok.exf b hb).1
  · exact I3.ok.exfs b hb
  · exact (I3.ok.exf b hb).2 x c e
 have fr3:∀b∈fp,upd H2 s2.heap.objs.size (.lst []) b=none:=fun b hb=>by
  rw [upd_ne (Nat.ne_of_lt (hfp b hb))];exact (f2 b hb).1
 have ccell:∀y c,X.env.cells.lookup y=some c→c≠HH.objs.size:=fun y c e=>by
  obtain ⟨v,q⟩:=I2.cell y c e
  exact Nat.ne_of_lt (Nat.lt_of_lt_of_le q.lt hCle)
 have cloc:HH.objs.size≠X.env.locals:=(Nat.ne_of_lt (Nat.lt_of_lt_of_le I2.lt hCle)).symm
 have eP:X'.prog=X.prog:=by rw [← hX]
 have ew:X'.w=X.w:=by rw [← hX]
 have eK:X'.K=X.K:=by rw [← hX]
 have eA:X'.A=X.A:=by rw [← hX]
 have ec:X'.calm=true:=by rw [← hX];exact hc
 have ex:X'.xe=fun _ _=>False:=by rw [← hX]
 have een:X'.env=compEnvC scope (clo X.env scope.names []) HH.objs.size X.env:=by rw [← hX]
 have hg':=hg ⟨s2,H2,HH.objs.size,fp⟩
 have ht':=ht ⟨s2,H2,HH.objs.size,fp⟩
 have he':=he ⟨s2,H2,HH.objs.size,fp⟩
 rw [hX]at hg' ht' he'
 have st1:tn 0 h₁:=T.keep _ _ _ st2 fun b hb o e=>old b o e
 have loop:∀s₃:Shared,s₃={s2 with heap:=h₁,toks:=s2.toks+([]:List (Str×Value)).length}→
  codeAny (model X.prog X.w) X.A (.compLoop (.ListComp elt [⟨tg,iter,ifs,0⟩] scope pos) 0 (.ref it) (.ref s2.heap.objs.size) (compEnvC scope (clo X.env scope.names []) HH.objs.size X.env))
   (RR (.ref s2.heap.objs.size) HH.objs.size) s₃:=by
  rintro s₃ rfl
  refine compLoop_any (fun n s'=>∃i ys H',Inv X' [] (List.replicate xs.length none++fs.map fun j=>σ.getD j none) H' s'∧tn i s'.heap∧(∀b∈fp,H' b=none)∧W i n ys H') ?_ m0 ⟨0,[],_,I3,st1,fr3,w0⟩
  rintro n s4 ⟨i,ys,H4,I4,st4,fr4,w4⟩
  obtain ⟨hD4,tn4⟩:=turn i n ys H4 w4
  rcases tn4 with ⟨stop,qn⟩ | ⟨go,step⟩
  · have td:=T.done X' eP ew eK ec i [] s4 _ H4 (notedBy (model X.prog X.w) X.A (compEnvC scope (clo X.env scope.names []) HH.objs.size X.env) fun e s'=>RR (.ref s2.heap.objs.size) HH.objs.size (.error e) s') I4 (stat fr4) st4 stop
    rw [eA]at td
    refine thn td fun r s5 ⟨hr,I5⟩=>?_
    subst hr
    obtain ⟨m5,hn5,_⟩:=I5.loc
    rw [een]at hn5
    have fr5:H4 HH.objs.size=none:=by have:=I5.free;rw [een]at this;exact this
    rw [← hX]at I5
    exact hR _ _ _ m5 H4 hn5 (blk_out I2 f2 hCle I5 (Heap.SameBut.refl ..)) qn (I2.fpOk hCle fr5)
  · have ti:=T.item X' eP ew eK ec i [] s4 _ H4 (notedBy (model X.prog X.w) X.A (compEnvC scope (clo X.env scope.names []) HH.objs.size X.env) fun e s'=>RR (.ref s2.heap.objs.size) HH.objs.size (.error e) s') I4 (stat fr4) st4 go
    rw [eA]at ti
    refine thn ti fun r s5 ⟨u,hr,h5⟩=>?_
    subst hr
    refine thn h5 fun _ s6 hq_=>?_
    obtain ⟨x,H6,I6,r6,y6,st6,fr6⟩:=hq_
    have I6':=I6.pinned (stat fr6) (T.obj _ _ st6)
    have g1:=hg' _ s6 _ H6 x u _ I6' r6 (step x H6 y6)
    rw [eP,ew,eA,een,ex]at g1
    refine wpAny_mono g1 (fun _ s7 hq_=>?_) fun _ _ z=>z.elim
    obtain ⟨σ7,H7,I7,kp7,q7⟩:=hq_
    have t1:=ht' _ s7 σ7 H7 _ I7 q7
    rw [eP,ew,eA,een,ex]at t1
    have back:∀{H9:Hp} {s9:Shared},Inv X' ([]++pinsAt fp s6.heap) σ7 H9 s9→Inv X' [] (List.replicate xs.length none++fs.map fun j=>σ.getD j none) H9 s9∧tn (i+1) s9.heap∧∀b∈fp,H9 b=none:=fun {H9 s9} I9=>by
     refine ⟨I9.unpinned.weak ?_ kp7,T.keep _ _ _ st6 fun b hb o e=>(I9.pin (b,o) (List.mem_append_right _ (List.mem_append_right _ (mem_pinsAt hb e)))).1,fun b hb=>?_⟩
     · rw [I9.len,I4.len]
     · obtain ⟨o,e,d⟩:=T.obj _ _ st6 b hb
       exact (I9.pin (b,o) (List.mem_append_right _ (List.mem_append_right _ (mem_pinsAt hb e)))).2.1
    refine wpAny_mono t1 (fun ok s8 ⟨H8,I8,q8⟩=>?_) fun _ _ z=>z.elim
    cases ok with
    | false=>
     rw [if_neg Bool.false_ne_true]at q8 ⊢
     obtain ⟨m',hm,w8⟩:=q8
     obtain ⟨b1,b2,b3⟩:=back I8
     exact ⟨m',hm,i+1,ys,H8,b1,b2,b3,w8⟩
    | true=>
     rw [if_pos rfl]at q8 ⊢
     have e1:=he' _ s8 σ7 H8 _ I8 q8
     rw [eP,ew,eA,een,ex]at e1
     refine wpAny_mono e1 (fun uy s9 hq_=>?_) fun _ _ z=>z.elim
     obtain ⟨y,H9,I9,r9,hD9,hz,m',hm,w9⟩:=hq_
     have a1:=mt_append (X:=X') (pins:=[]++pinsAt fp s6.heap) (s:=s9) (σ:=σ7) (H:=H9) (x:= .ref s2.heap.objs.size) (xs:=[y]) (v:= .ref s2.heap.objs.size) (us:=[uy]) (Q:=fun _ H'=>H'=upd H9 s2.heap.objs.size (.lst (ys++[y]))) I9 rfl (.cons r9 .nil) ⟨_,ys,y,rfl,rfl,hD9,hz,rfl⟩
     rw [eP,ew,eA,ex]at a1
     refine wpAny_mono a1 (fun _ s10 hq_=>?_) fun _ _ z=>z.elim
     obtain ⟨_,H10,I10,_,e10⟩:=hq_
     subst e10
     obtain ⟨b1,b2,b3⟩:=back I10
     exact ⟨m',hm,i+1,_,_,b1,b2,b3,w9⟩
 exact codeAny_compStart_list (loop _ rfl) (T.self _ 0 _ _ _ st1 (loop _ rfl))
theorem pe_compG(hc:X.calm=true)(hok:compOkB X.N X.env.scope scope xs fs=true)(hi:PI X tg iter wi)
 (hg:∀b,PG (X.blk scope (xs++around X.N fs) b) tg (g b)) (ht:∀b,PTs (X.blk scope (xs++around X.N fs) b) ifs (tt b)) (he:∀b,PE (X.blk scope (xs++around X.N fs) b) elt (te b))
 (hs:∀x,foldedSetIterable iter X.env x=pure x:=by intro _;rfl):
 PE X (.ListComp elt [⟨tg,iter,ifs,0⟩] scope pos) (tComp wi xs.length fs g tt te):=by
 intro pins s σ H Q I h
 have O:=compOk_of hok
 rw [eval_ListComp]
 refine wpAny_comprehension_free (use:=none) rfl hs (clo_closure fun y hy hf=>I.ok.has _ (O.free y hy hf)) O.kind O.names (thn (hi pins s σ H _ I h) fun v s1 h1=>thn h1 fun itv s2 h2=>?_)
 exact comp_run (RR:=fun acc C=>compPost (model X.prog X.w) X.A X.xe none (EP X pins σ Q) acc C) hc O hg ht he h2 fun D C s' m H' hn I' q F=>⟨m,hn,fun h2 sb=>⟨.ref D,H',turned_of I' F sb,rfl,q⟩⟩
theorem ps_comp{y:Str}{py:Pos}{i:Nat}(hN:X.N.Nodup)(hy:X.N[i]?=some y)(hyl:X.env.kindOf y=some .local)(hc:X.calm=true)(hok:compOkB X.N X.env.scope scope xs fs=true)(hi:PI X tg iter wi)
 (hg:∀b,PG (X.blk scope (xs++around X.N fs) b) tg (g b)) (ht:∀b,PTs (X.blk scope (xs++around X.N fs) b) ifs (tt b)) (he:∀b,PE (X.blk scope (xs++around X.N fs) b) elt (te b)) {spos:Pos}
 (hsw:swapsWith (.ListComp elt [⟨tg,iter,ifs,0⟩] scope pos) (some (.Name y py)) spos.line X.env=pure true:=by rfl)
 (hs:∀x,foldedSetIterable iter X.env x=pure x:=by intro _;rfl):
 PS X (.Assign [.Name y py] (.ListComp elt [⟨tg,iter,ifs,0⟩] scope pos) spos) (tAsg (tComp wi xs.length fs g tt te) (gName i)):=by
 intro pins s σ H D I h
 have O:=compOk_of hok
 rw [exec_Assign_Name_used _ _ _ _ hsw]
 refine wpAny_bind (wpAny_standAt (wpAny_bind ?_))
 show wpAny _ X.A (do let _ ← comprehension (.ListComp elt [⟨tg,iter,ifs,0⟩] scope pos) scope X.env _ (newList []) false (eval iter X.env) (some (assign (.Name y py) X.env))) _ _ s
 refine wpAny_bind (wpAny_mono (wpAny_comprehension_free (use:=some (assign (.Name y py) X.env)) (Q:=fun _ s'=>SP X pins D .next s') rfl hs (clo_closure fun y hy hf=>I.ok.has _ (O.free y hy hf)) O.kind O.names
  (thn (hi pins s σ H _ I h) fun v s1 h1=>thn h1 fun itv s2 h2=>?_)) (fun _ s' hq=>wpAny_pure (wpAny_pure hq)) fun _ _ e=>e)
 refine comp_run (RR:=fun acc C=>compPost (model X.prog X.w) X.A X.xe (some (assign (.Name y py) X.env)) (fun _ s'=>SP X pins D .next s') acc C) hc O hg ht he h2 fun D' C s' m H' hn I0 q0 F=>?_
 show wpAny _ X.A (assign (.Name y py) X.env (.ref D')) _ _ _
 refine wpAny_assign_Name (store_ok2 I0 hN hy (.inl hyl) (v:= .ref D') rfl (fun s3 I3 hsb=>?_) (.inr hyl))
 obtain ⟨a,sb3,ha⟩:=hsb
 have haC:C≠a:=by
  rcases ha with rfl | ha
  · exact F.2.1
  · exact (F.2.2.2.2.1 y a ha).symm
 exact ⟨m,hn.sameBut sb3 haC,fun h4 sb4=>⟨_,H',turned_of I3 F sb4,q0⟩⟩
end
end L2
namespace L2
noncomputable def Its(z:Str):It:=⟨fun i _=>i < z.cps.size,fun i H x H'=>H'=H∧∃c,z.cps[i]?=some c∧x= .str ⟨#[c]⟩,fun i _=>z.cps.size≤i⟩
noncomputable def iStr(tl:TE):TI:=fun σ H R=>tl σ H fun x H1=>∃z,x= .str z∧R (Its z) H1
section
variable {P:Program} {w:World} {K:PySem.W.Frag} {tg:Expr}
theorem turn_str(ty:String)(hty:ty="str_ascii_iterator"∨ty="str_iterator")(z:Str)(t:Tok)(it:Addr):Turn P w K tg (Its z) [it] it (fun i h=>i≤z.cps.size∧h.IsStrIter it ty z t i) where
 mem:=by simp
 obj:=fun i h st b hb=>by
  have e:b=it:=by simpa using hb
  subst e
  obtain ⟨o,e,c,d⟩:=st.2
  exact ⟨o,e,fun v z=>by rw [d]at z;cases z⟩
 keep:=fun i h h' st k=>⟨st.1,by obtain ⟨o,e,r⟩:=st.2;exact ⟨o,k it (by simp) o e,r⟩⟩
 item:=by
  intro X hP hw hK hc i pins s σ H E I hf st hg
  subst hP hw hK
  obtain ⟨f0,f1,f2,f3,f4,f5⟩:=hf it (by simp)
  have W:Walks X.prog X.w X.A it [it] [it] z.cps.size (SignAt z) (fun i h=>h.IsStrIter it ty z t i):=by
   rcases hty with rfl | rfl
   · exact Walks.strAscii (I.ok.hd hc) it z t
   · exact Walks.strWide (I.ok.hd hc) it z t
  refine W.item i s _ _ hg st.2 fun v h' tk hv st' kk=>?_
  obtain ⟨c,u,hcc,rfl⟩:=hv
  have I1:Inv X pins σ H {s with heap:=h',toks:=tk}:=I.turned (fun b o hb e=>kk b o (by simpa using hb) e) f0 f1 f3 f4 f5
  obtain ⟨o,e,cc,d⟩:=id st'
  refine ⟨_,rfl,go_of (s:={s with heap:=h',toks:=tk}) (n:=ty) e cc d (by rcases hty with rfl | rfl <;> decide) ⟨.str ⟨#[c]⟩,H,I1,⟨u,rfl⟩,⟨rfl,c,hcc,rfl⟩,⟨hg,st'⟩,fun b hb=>(hf b hb).1⟩⟩
 done:=by
   intro X hP hw hK hc i pins s σ H E I hf st hg
   subst hP hw hK
   obtain ⟨f0,f1,f2,f3,f4,f5⟩:=hf it (by simp)
   have W:Walks X.prog X.w X.A it [it] [it] z.cps.size (SignAt z) (fun i h=>h.IsStrIter it ty z t i):=by
    rcases hty with rfl | rfl
    · exact Walks.strAscii (I.ok.hd hc) it z t
    · exact Walks.strWide (I.ok.hd hc) it z t
   have hi:i=z.cps.size:=Nat.le_antisymm st.1 hg
   subst hi
   exact W.done s _ _ st.2 fun h' tk kk=>⟨rfl,I.turned (fun b o hb e=>kk b o (by simpa using hb) e) f0 f1 f3 f4 f5⟩
 self:=fun _ _ _ _ _ st h=>by
  rcases hty with rfl | rfl
  · exact wpAny_pyIter_striter_ascii st.2 h
  · exact wpAny_pyIter_striter_wide st.2 h
end
section
variable {X:Cx} {tg:Expr}
theorem pi_str{l:Expr}{tl:TE}(hl:PE X l tl):PI X tg l (iStr tl):=by
 intro pins s σ H R I h
 refine thn (hl pins s σ H _ I h) fun v s1 hq_=>?_
 obtain ⟨x,H1,I1,r1,q1⟩:=hq_
 obtain ⟨z,e,q⟩:=q1
 subst e
 obtain ⟨t,rfl⟩:=r1
 have fin:∀ty,(ty="str_ascii_iterator"∨ty="str_iterator")→PIE X pins σ tg R (.ref s1.heap.objs.size) {s1 with heap:=s1.heap.push {cls:= .type ty,data:= .fields #[.str z t,.int 0 0]}}:=fun ty hty=>by
  refine ⟨s1.heap.objs.size,[s1.heap.objs.size],_,_,H1,rfl,I1.kept (t':=s1.toks) fun b o e=>Heap.get?_push_of_some _ e,turn_str ty hty z t _,⟨Nat.zero_le _,_,Heap.get?_push_size _ rfl,rfl,rfl⟩,fun b hb=>?_,q⟩
  have e:b=s1.heap.objs.size:=by simpa using hb
  subst e
  exact I1.fpOk (Nat.le_refl _) I1.fresh
 cases ha:z.cps.all (· < 128)
 · exact wpAny_pyIter_wide ha (fin _ (.inr rfl))
 · exact wpAny_pyIter_ascii ha (fin _ (.inl rfl))
noncomputable def rSlS:V→Option Int→Option Int→Hp→VK→Prop:=fun x lo hi H Q=>∃z,x= .str z∧z.length≤sizeLine∧Q (.str (Txt.slice z lo hi)) H
theorem sl_str:SlR X rSlS:=by
 intro pins s σ H x v vl vu lo hi sl Q I rx hs pl pu h
 obtain ⟨z,rfl,hz,q⟩:=h
 obtain ⟨t,rfl⟩:=rx
 obtain ⟨o,ho,hc,hd⟩:=hs
 refine ⟨"str",_,F.slot_str_getitem.lookup,typeIs_str _ _ _,?_⟩
 have fin:∀(l u:Option (Int×Tok)),s.heap.IsSlice sl l u none→l.map (·.1)=lo→u.map (·.1)=hi→wpAny (model X.prog X.w) X.A (getItem (.str z t) (.ref sl)) (EP X pins σ Q) X.xe s:=fun l u hsl hl hu=>by
  subst hl hu
  exact wpAny_getItem_str_slice (l:=l) (u:=u) (st:=none) hsl rfl (post_val_or_str ⟨Nat.le_trans (Txt.slice_le z _ _) hz,fun t' k=>⟨.str _,H,I.tok k,⟨t',rfl⟩,q⟩⟩)
 cases pl <;> cases pu
 · exact fin none none ⟨o,ho,hc,hd⟩ rfl rfl
 · exact fin none (some (_,_)) ⟨o,ho,hc,hd⟩ rfl rfl
 · exact fin (some (_,_)) none ⟨o,ho,hc,hd⟩ rfl rfl
 · exact fin (some (_,_)) (some (_,_)) ⟨o,ho,hc,hd⟩ rfl rfl
theorem strsAre_of:∀{ys:List Str} {us:List Value},Vals (ys.map V.str) us→StrsAre us ys
 | [],_,r=>by rw [List.map_nil]at r;cases r;exact .nil
 | y::ys,us,r=>by
  rw [List.map_cons]at r
  cases r with
  | cons r1 r2=>
   obtain ⟨t,e⟩:=r1
   subst e
   exact .cons y t (strsAre_of r2)
noncomputable def rJoin(K:PySem.W.Frag):V→List V→Hp→VK→Prop:=fun x vs H Q=>∃z p ys,x= .str z∧vs=[.ref p]∧SqL K H p (ys.map V.str)∧(ys.map (·.length)).sum+ys.length * z.length≤16777216∧Q (.str (Txt.join z ys)) H
theorem mt_join:MtR X "str.join" (rJoin X.K):=by
 intro pins s σ H x vs v us Q I rx rv h
 obtain ⟨z,p,ys,rfl,rfl,hp,hw,q⟩:=h
 obtain ⟨t,rfl⟩:=rx
 obtain ⟨u,rfl,ru⟩:=rv.one
 cases ru
 obtain ⟨its,r,pl,hz⟩:=I.list hp
 exact join_list pl.isList (by simpa using strsAre_of r) hw fun t' k=>⟨.str _,H,I.tok k,⟨t',rfl⟩,q⟩
noncomputable def rFind:V→List V→Hp→VK→Prop:=fun x vs H Q=>∃z y,x= .str z∧vs=[.str y]∧Q (.int (Txt.find z y)) H
noncomputable def rSplit:V→List V→Hp→VK→Prop:=fun x vs H Q=>∃z y,x= .str z∧vs=[.str y]∧(y.length==0)=false∧z.length+2≤sizeLine∧∀p,H p=none→Q (.ref p) (upd H p (.lst ((Txt.split z y).map V.str)))
noncomputable def rMulS:R2:=fun x y H Q=>∃z n,x= .str z∧y= .int n∧MulOk z n∧Q (.str (Txt.mul z n)) H
noncomputable def rAll(K:PySem.W.Frag):List V→Hp→VK→Prop:=fun xs H Q=>∃(p:Addr) (bs:List Bool),xs=[.ref p]∧SqL K H p (bs.map V.bl)∧Q (.bl (bs.all id)) H
theorem call_all(hc:X.calm=true):CallR X (.builtin "all") (rAll X.K):=by
 intro pins s σ H xs us Q I r h
 obtain ⟨p,bs,rfl,hp,q⟩:=h
 obtain ⟨u,rfl,ru⟩:=vals1 r
 cases ru
 obtain ⟨its,r,pl,hz⟩:=I.list hp
 have hlt:p < s.heap.objs.size:=by obtain ⟨o,n,e,_⟩:=pl;exact Heap.lt_size e
 refine call_all_walk (wpAny_pyIter_list pl.isList ⟨s.heap.objs.size,_,_,_,_,_,fun i=>bs.getD i true,rfl,Walks.list (show X.A.in1.handled=none from I.ok.hd hc) s.heap.objs.size p (Nat.ne_of_lt hlt) its.toArray,⟨⟨_,Heap.get?_push_size _ rfl,rfl,rfl⟩,pl.isList.push _⟩,?_,fun h' tk kk=>?_⟩)
 · intro i v s' Q' E' hP hQ'
   have hP:its.toArray[i]?=some v:=hP
   have hlen:=r.length
   rw [List.length_map]at hlen
   have hi:i < bs.length:=by
    have:=(Array.getElem?_eq_some_iff.mp hP).1
    rw [List.size_toArray]at this
    omega
   obtain ⟨u,hu,ru⟩:=r.get (i:=i) (x:=V.bl (bs[i])) (by simp [hi])
   have e:u=v:=by
    have:its[i]?=some v:=by simpa using hP
    rw [hu]at this;exact Option.some.inj this
   subst e
   cases ru
   dsimp only at hQ'
   rw [List.getD_eq_getElem?_getD,List.getElem?_eq_getElem hi]at hQ'
   exact wpAny_pure hQ'
 · refine ⟨.bl _,H,I.kept (t':=tk) fun b o e=>kk b o ?_ (Heap.get?_push_of_some _ e),rfl,?_⟩
   · simpa using Nat.ne_of_lt (Heap.lt_size e)
   · have hlen:=r.length
     rw [List.length_map]at hlen
     have:((List.range its.toArray.size).all fun i=>bs.getD i true)=bs.all id:=by
      rw [List.size_toArray,← hlen]
      rw [Bool.eq_iff_iff,List.all_eq_true,List.all_eq_true]
      constructor
      · intro h x hx
        obtain ⟨i,hi,rfl⟩:=List.mem_iff_getElem.mp hx
        have:=h i (by simpa using hi)
        simpa [List.getD_eq_getElem?_getD,List.getElem?_eq_getElem hi] using this
      · intro h i hi
        have hi:i < bs.length:=by simpa using hi
        rw [List.getD_eq_getElem?_getD,List.getElem?_eq_getElem hi]
        exact h _ (List.getElem_mem hi)
     rw [this];exact q
end
noncomputable abbrev TJ:=Str→St→Hp→(Str→Hp→Prop)→Prop
noncomputable def jNil:TJ:=fun acc _ H Q=>Q acc H
noncomputable def jCons(te:TE)(tr:TJ):TJ:=fun acc σ H Q=>te σ H fun x H1=>∃y,x= .str y∧(acc++y).length≤sizeLine∧tr (acc++y) σ H1 Q
noncomputable def tFstr(t:TJ):TE:=fun σ H Q=>t Str.empty σ H fun out H1=>out.length≤sizeLine∧Q (.str out) H1
noncomputable def tFmt(te:TE):TE:=fun σ H Q=>te σ H fun x H1=>(∃z,x= .str z∧z.length≤sizeLine∧Q (.str z) H1)∨∃i,x= .int i∧i.natAbs.log2 < 1920∧Q (.str (toString i)) H1
noncomputable def tFmtR(te:TE):TE:=fun σ H Q=>te σ H fun x H1=>∃z,x= .str z∧(PySem.reprText z).length≤sizeLine∧Q (.str (PySem.reprText z)) H1
end L2
namespace L2
noncomputable abbrev tComp1(wi:TI)(fs:List Nat)(te:Blk→TE):TE:=tComp wi 1 fs (fun _=>gName 0) (fun _=>tYes) te
section
variable {X:Cx} {scope:Scope} {x:Str} {px:Pos} {fs:List Nat} {elt iter:Expr} {pos:Pos} {wi:TI} {te:Blk→TE}
theorem pg_own(hok:compOkB X.N X.env.scope scope [x] fs=true)(b:Blk):PG (X.blk scope ([x]++around X.N fs) b) (.Name x px) (gName 0):=
 pg_name (compOk_of hok).nd rfl (.inl (lookup_relabel_local ((compOk_of hok).own x (by simp)))) (.inr (lookup_relabel_local ((compOk_of hok).own x (by simp))))
theorem pe_comp1(x:Str)(fs:List Nat)(hc:X.calm=true)(hok:compOkB X.N X.env.scope scope [x] fs=true)(hi:PI X (.Name x px) iter wi)(he:∀b,PE (X.blk scope ([x]++around X.N fs) b) elt (te b))
 (hs:∀x,foldedSetIterable iter X.env x=pure x:=by intro _;rfl):PE X (.ListComp elt [⟨.Name x px,iter,[],0⟩] scope pos) (tComp1 wi fs te):=
 pe_compG (xs:=[x]) (g:=fun _=>gName 0) (tt:=fun _=>tYes) hc hok hi (pg_own hok) (fun _=>pts_nil) he hs
theorem ps_comp1{y:Str}{py:Pos}{i:Nat}{spos:Pos}(x:Str)(fs:List Nat)(hN:X.N.Nodup)(hy:X.N[i]?=some y)(hyl:X.env.kindOf y=some .local)(hc:X.calm=true)(hok:compOkB X.N X.env.scope scope [x] fs=true)(hi:PI X (.Name x px) iter wi)(he:∀b,PE (X.blk scope ([x]++around X.N fs) b) elt (te b))
 (hsw:swapsWith (.ListComp elt [⟨.Name x px,iter,[],0⟩] scope pos) (some (.Name y py)) spos.line X.env=pure true:=by rfl)
 (hs:∀x,foldedSetIterable iter X.env x=pure x:=by intro _;rfl):PS X (.Assign [.Name y py] (.ListComp elt [⟨.Name x px,iter,[],0⟩] scope pos) spos) (tAsg (tComp1 wi fs te) (gName i)):=
 ps_comp (xs:=[x]) (g:=fun _=>gName 0) (tt:=fun _=>tYes) hN hy hyl hc hok hi (pg_own hok) (fun _=>pts_nil) he hsw hs
end
theorem kept0{x:Option V}{r:St}:Kept (none::r) (x::r):=fun i v e=>by
 cases i with
 | zero=>cases e
 | succ i=>exact e
section
variable {K:PySem.W.Frag} {tail:St} {te:Blk→TE} {Q:VK} {H1:Hp}
noncomputable def CompNext(D:Addr)(n i:Nat)(ys:List V)(Pv:Nat→List V→Hp→Prop):VK:=fun y H4=>H4 D=some (.lst ys)∧ys.length < sizeLine∧∃m',m' < n - i∧(m'=n - (i+1)∧i+1≤n∧Pv (i+1) (ys++[y]) (upd H4 D (.lst (ys++[y]))))
theorem compNext{D:Addr}{n i:Nat}{ys:List V}{Pv:Nat→List V→Hp→Prop}{y:V}{H4:Hp}(h1:H4 D=some (.lst ys))(h2:ys.length < sizeLine)(h3:i < n)(h4:Pv (i+1) (ys++[y]) (upd H4 D (.lst (ys++[y])))):CompNext D n i ys Pv y H4:=
 ⟨h1,h2,n - (i+1),by omega,rfl,h3,h4⟩
theorem comp_by{J:It}(n:Nat)
 (h:∀(b:Blk) (D:Addr),H1 D=none→∃Pv:Nat→List V→Hp→Prop,Pv 0 [] (upd H1 D (.lst []))∧(∀i ys H,Pv i ys H→H D=some (.lst ys))∧(∀ys H,Pv n ys H→J.stop n H∧Q (.ref D) H)∧
  ∀i ys H,i < n→Pv i ys H→J.go i H∧∀x H3,J.yld i H x H3→te b (some x::tail) H3 (CompNext D n i ys Pv)):CompTail (none::tail) (fun _=>gName 0) (fun _=>tYes) te Q J H1:=by
 intro b D hD
 obtain ⟨Pv,p0,p1,p2,p3⟩:=h b D hD
 refine ⟨fun i m ys H=>m=n - i∧i≤n∧Pv i ys H,⟨n,rfl,Nat.zero_le _,p0⟩,?_⟩
 rintro i m ys H ⟨rfl,hi,p⟩
 refine ⟨p1 i ys H p,?_⟩
 by_cases hlt:i < n
 · obtain ⟨go,st⟩:=p3 i ys H hlt p
   refine .inr ⟨go,fun x H3 y=>⟨kept0,?_⟩⟩
   exact st x H3 y
 · have e:i=n:=by omega
   subst e
   exact .inl (p2 ys H p)
theorem same_new{D:Addr}{o:HO}(h:H1 D=none):Same H1 (upd H1 D o):=fun b u e=>by rw [upd_ne (ne_of_none e h)];exact e
theorem compS_pure{z:Str}(f:Nat→V)(hz:z.cps.size≤sizeLine)(he:∀b c H Q',c∈z.cps.toList→Same H1 H→Q' (f c) H→te b (some (.str ⟨#[c]⟩)::tail) H Q')
 (q:∀D,H1 D=none→Q (.ref D) (upd H1 D (.lst (z.cps.toList.map f)))):CompTail (none::tail) (fun _=>gName 0) (fun _=>tYes) te Q (Its z) H1:=by
 refine comp_by z.cps.size (fun b D hD=>⟨fun i ys H=>i≤z.cps.size∧ys=(z.cps.toList.take i).map f∧H=upd H1 D (.lst ys),⟨Nat.zero_le _,rfl,rfl⟩,?_,?_,?_⟩)
 · rintro i ys H ⟨hi,rfl,rfl⟩
   exact upd_same
 · rintro ys H ⟨_,rfl,rfl⟩
   refine ⟨Nat.le_refl _,?_⟩
   have e:z.cps.toList.take z.cps.size=z.cps.toList:=List.take_of_length_le (by simp)
   rw [e];exact q D hD
 · rintro i ys H hi ⟨_,rfl,rfl⟩
   refine ⟨hi,fun x H3 ⟨e3,c,hc,ex⟩=>?_⟩
   subst e3 ex
   have hc':z.cps.toList[i]?=some c:=by simpa using hc
   refine he b c _ _ (List.mem_of_getElem? hc') (same_new hD) (compNext upd_same (by rw [List.length_map,List.length_take,Array.length_toList];omega) hi ⟨hi,?_,?_⟩)
   · rw [List.take_add_one,hc'];simp
   · funext a;by_cases ha:a=D <;> simp [upd,ha]
theorem compL_pure{a:Addr}{xs:List V}(f:V→V)(hS:SqL K H1 a xs)(hz:xs.length≤sizeLine)(he:∀b x H Q',x∈xs→Same H1 H→Q' (f x) H→te b (some x::tail) H Q')
 (q:∀D,H1 D=none→Q (.ref D) (upd H1 D (.lst (xs.map f)))):CompTail (none::tail) (fun _=>gName 0) (fun _=>tYes) te Q (Itl K a) H1:=by
 refine comp_by xs.length (fun b D hD=>⟨fun i ys H=>i≤xs.length∧ys=(xs.take i).map f∧H=upd H1 D (.lst ys),⟨Nat.zero_le _,rfl,rfl⟩,?_,?_,?_⟩)
 · rintro i ys H ⟨hi,rfl,rfl⟩
   exact upd_same
 · rintro ys H ⟨_,rfl,rfl⟩
   refine ⟨⟨xs,(same_new hD).seq hS,Nat.le_refl _⟩,?_⟩
   rw [List.take_length];exact q D hD
 · rintro i ys H hi ⟨_,rfl,rfl⟩
   refine ⟨⟨xs,xs[i],(same_new hD).seq hS,by simp [hi]⟩,fun x H3 ⟨e3,ex⟩=>?_⟩
   subst e3
   have hc':=ex xs ((same_new hD).seq hS)
   refine he b x _ _ (List.mem_of_getElem? hc') (same_new hD) (compNext upd_same (by rw [List.length_map,List.length_take];omega) hi ⟨hi,?_,?_⟩)
   · rw [List.take_add_one,hc'];simp
   · funext a;by_cases ha:a=D <;> simp [upd,ha]
theorem compR_pure{lo:Int}{n:Nat}(f:Int→V)(hz:n≤sizeLine)(he:∀b (i:Nat) H Q',i < n→Same H1 H→Q' (f (lo+i)) H→te b (some (.int (lo+i))::tail) H Q')
 (q:∀D,H1 D=none→Q (.ref D) (upd H1 D (.lst ((List.range n).map fun (i:Nat)=>f (lo+(i:Int)))))):CompTail (none::tail) (fun _=>gName 0) (fun _=>tYes) te Q (Itr lo n) H1:=by
 refine comp_by n (fun b D hD=>⟨fun i ys H=>i≤n∧ys=(List.range i).map (fun (i:Nat)=>f (lo+(i:Int)))∧H=upd H1 D (.lst ys),⟨Nat.zero_le _,rfl,rfl⟩,?_,?_,?_⟩)
 · rintro i ys H ⟨hi,rfl,rfl⟩
   exact upd_same
 · rintro ys H ⟨_,rfl,rfl⟩
   exact ⟨Nat.le_refl _,q D hD⟩
 · rintro i ys H hi ⟨_,rfl,rfl⟩
   refine ⟨hi,fun x H3 ⟨e3,ex⟩=>?_⟩
   subst e3 ex
   refine he b i _ _ hi (same_new hD) (compNext upd_same (by rw [List.length_map,List.length_range];omega) hi ⟨hi,?_,?_⟩)
   · rw [List.range_succ];simp
   · funext a;by_cases ha:a=D <;> simp [upd,ha]
end
section
variable {σ:St} {H:Hp} {Q:VK} {D:Ends} {K:PySem.W.Frag}
theorem rd_comp{wi:TI}{fs:List Nat}{te:Blk→TE}:tComp1 wi fs te σ H Q=wi σ H (CompTail (none::fs.map fun j=>σ.getD j none) (fun _=>gName 0) (fun _=>tYes) te Q):=rfl
theorem rd_istr{tl:TE}{R:It→Hp→Prop}:iStr tl σ H R=tl σ H fun x H1=>∃z,x= .str z∧R (Its z) H1:=rfl
theorem rd_sl{r:V→Option Int→Option Int→Hp→VK→Prop}{te:TE}{tl th:TO}:tSl r te tl th σ H Q=te σ H fun x H1=>tl σ H1 fun l H2=>th σ H2 fun u H3=>r x l u H3 Q:=rfl
theorem rd_noPart{QO:Option Int→Hp→Prop}:tNoPart σ H QO=QO none H:=rfl
theorem rd_part{t:TE}{QO:Option Int→Hp→Prop}:tPart t σ H QO=t σ H fun x H1=>∃i,x= .int i∧QO (some i) H1:=rfl
theorem rd_slS{x:V}{lo hi:Option Int}:rSlS x lo hi H Q=∃z,x= .str z∧z.length≤sizeLine∧Q (.str (Txt.slice z lo hi)) H:=rfl
theorem rd_slL{x:V}{lo hi:Option Int}:rSlL K x lo hi H Q=∃a xs,x= .ref a∧SqL K H a xs∧∀p,H p=none→Q (.ref p) (upd H p (.lst (cutV xs lo hi))):=rfl
theorem rd_bm{T:String}{r:V→List V→Hp→VK→Prop}{to:TE}{t:TA}:tBM K T r to t σ H Q=to σ H fun x H1=>tyV K T x H1∧t σ H1 fun xs H2=>r x xs H2 Q:=rfl
theorem rd_bm0{T:String}{r:V→List V→Hp→VK→Prop}{to:TE}:tBM0 K T r to σ H Q=to σ H fun x H1=>tyV K T x H1∧r x [] H1 Q:=rfl
theorem tyV_str{z:Str}:tyV K "str" (.str z) H=True:=eq_true rfl
theorem rd_join{x:V}{vs:List V}:rJoin K x vs H Q=∃z p ys,x= .str z∧vs=[.ref p]∧SqL K H p (ys.map V.str)∧(ys.map (·.length)).sum+ys.length * z.length≤16777216∧Q (.str (Txt.join z ys)) H:=rfl
theorem rd_find{x:V}{vs:List V}:rFind x vs H Q=∃z y,x= .str z∧vs=[.str y]∧Q (.int (Txt.find z y)) H:=rfl
theorem rd_split{x:V}{vs:List V}:rSplit x vs H Q=∃z y,x= .str z∧vs=[.str y]∧(y.length==0)=false∧z.length+2≤sizeLine∧∀p,H p=none→Q (.ref p) (upd H p (.lst ((Txt.split z y).map V.str))):=rfl
theorem rd_all{xs:List V}:rAll K xs H Q=∃(p:Addr) (bs:List Bool),xs=[.ref p]∧SqL K H p (bs.map V.bl)∧Q (.bl (bs.all id)) H:=rfl
theorem rd_mulS{x y:V}:rMulS x y H Q=∃z n,x= .str z∧y= .int n∧MulOk z n∧Q (.str (Txt.mul z n)) H:=rfl
theorem rd_jnil{acc:Str}{QS:Str→Hp→Prop}:jNil acc σ H QS=QS acc H:=rfl
theorem rd_jcons{te:TE}{tr:TJ}{acc:Str}{QS:Str→Hp→Prop}:jCons te tr acc σ H QS=te σ H fun x H1=>∃y,x= .str y∧(acc++y).length≤sizeLine∧tr (acc++y) σ H1 QS:=rfl
theorem rd_fstr{t:TJ}:tFstr t σ H Q=t Str.empty σ H fun out H1=>out.length≤sizeLine∧Q (.str out) H1:=rfl
theorem rd_fmtR{te:TE}:tFmtR te σ H Q=te σ H fun x H1=>∃z,x= .str z∧(PySem.reprText z).length≤sizeLine∧Q (.str (PySem.reprText z)) H1:=rfl
theorem rd_fmt{te:TE}:tFmt te σ H Q=te σ H fun x H1=>(∃z,x= .str z∧z.length≤sizeLine∧Q (.str z) H1)∨∃i,x= .int i∧i.natAbs.log2 < 1920∧Q (.str (toString i)) H1:=rfl
theorem rd_dnewK:tDNewK σ H Q=∀p,H p=none→Q (.ref p) (upd H p (.dK [])):=rfl
theorem ixS_of{z:Str}{i:Int}{c:Nat}(hz:z.length≤sizeLine)(e:atI z.cps.toList i=some c)(q:Q (.str ⟨#[c]⟩) H):rIxS (.str z) (.int i) H Q:=⟨z,i,c,rfl,rfl,hz,e,q⟩
theorem blk_K{X:Cx}{scope:Scope}{N':List Str}{b:Blk}:(X.blk scope N' b).K=X.K:=rfl
end
section
variable {X:Cx} {x:Str} {pos:Pos}
theorem pe_gint{i:Int}(hg:Gl X x)(hm:∃t,X.mg x=some (.int i t))(hd:(x==("__debug__":Str))=false:=by decide):PE X (.Name x pos) (tC (.int i)):=by
 obtain ⟨t,hm⟩:=hm
 exact pe_glob hg hm ⟨t,rfl⟩ hd
theorem pe_gstr{z:Str}(hg:Gl X x)(hm:∃t,X.mg x=some (.str z t))(hd:(x==("__debug__":Str))=false:=by decide):PE X (.Name x pos) (tC (.str z)):=by
 obtain ⟨t,hm⟩:=hm
 exact pe_glob hg hm ⟨t,rfl⟩ hd
end
theorem line_val:sizeLine=16777216:=by decide
theorem len_app{a b:Str}:(a++b).length=a.length+b.length:=strLen_append a b
theorem len_one{c:Nat}:(⟨#[c]⟩:Str).length=1:=rfl
theorem str_len{z:Str}:z.cps.toList.length=z.length:=by simp [Str.length]
theorem app_list{a b:Str}:(a++b).cps.toList=a.cps.toList++b.cps.toList:=by
 show (a.cps++b.cps).toList=_
 simp
theorem atI_in{α:Type}{xs:List α}{i:Int}(h0:0≤i)(h1:i < xs.length):∃v,atI xs i=some v∧v∈xs:=by
 refine ⟨xs[i.toNat],?_,List.getElem_mem (by omega)⟩
 exact atI_of h0 (by rw [List.getElem?_eq_getElem (by omega)])
theorem script_go{K:PySem.W.Frag}{H:Hp}{a:Addr}{ns:List Int}{R:List Int→Prop}(h:SqL K H a (ns.map V.int))(hl:ns.length≤63)(q:R ns):∃x:List Int,SqL K H a (x.map V.int)∧x.length≤63∧R x:=⟨ns,h,hl,q⟩
noncomputable def hasS(z y:Str):Bool:=!(Builtin.Str.occurrences z y 0 z.length 1).isEmpty
theorem hasS_one{z:Str}{c:Nat}:hasS z ⟨#[c]⟩=decide (c∈z.cps.toList):=StrLaws.found_one z c
noncomputable def rInS:R2:=fun x y H Q=>∃i j,x= .str i∧y= .str j∧Q (.bl (hasS j i)) H
noncomputable def rNotInS:R2:=fun x y H Q=>∃i j,x= .str i∧y= .str j∧Q (.bl (!hasS j i)) H
theorem op_inS{X:Cx}:OpR X (compareOp .In) rInS:=op_in_str
theorem rd_inS{x y:V}{H:Hp}{Q:VK}:rInS x y H Q=∃i j,x= .str i∧y= .str j∧Q (.bl (hasS j i)) H:=rfl
theorem rd_notinS{x y:V}{H:Hp}{Q:VK}:rNotInS x y H Q=∃i j,x= .str i∧y= .str j∧Q (.bl (!hasS j i)) H:=rfl
theorem at_0{α:Type}{c:α}{r:List α}:atI (c::r) 0=some c:=atI_of (by decide) rfl
end L2
namespace L2
noncomputable def flatEq(xs ys:List V):Bool:=match xs,ys with
 | [],[]=>true
 | x::xs,y::ys=>eqV x y && flatEq xs ys
 | _,_=>false
noncomputable def EqQ(K:PySem.W.Frag)(H:Hp)(x y:V)(r:Bool):Prop:=∃a b xs ys,x= .ref a∧y= .ref b∧((SqL K H a xs∧SqL K H b ys)∨(SqT K H a xs∧SqT K H b ys))∧xs.all flatV=true∧ys.all flatV=true∧r=flatEq xs ys
section
variable {X:Cx} {pins:List (Addr×Obj)} {σ:St} {H:Hp} {s:Shared}
noncomputable def rEqQ(K:PySem.W.Frag):R2:=fun x y H Q=>∃r,EqQ K H x y r∧Q (.bl r) H
noncomputable def rNeQ(K:PySem.W.Frag):R2:=fun x y H Q=>∃r,EqQ K H x y r∧Q (.bl (!r)) H
end
section
variable {K:PySem.W.Frag} {H:Hp} {Q:VK} {x y:V}
theorem rd_eqQ:rEqQ K x y H Q=∃r,EqQ K H x y r∧Q (.bl r) H:=rfl
theorem rd_neQ:rNeQ K x y H Q=∃r,EqQ K H x y r∧Q (.bl (!r)) H:=rfl
end
end L2
namespace L2
structure DefM(P:Program)(w:World)(K:PySem.W.Frag)(mg:Str→Option Value)(base:Heap)(CX:CXT)(k:Nat)(C:Addr)(m:Str)(ps:List Str)(sp:Sp):Prop where
 ex:∃(f:Addr) (fd:FuncData),FnOk P w K mg base CX k f fd ps sp∧Meth K C m f∧Binds K fd ps []
structure DefI(P:Program)(w:World)(K:PySem.W.Frag)(mg:Str→Option Value)(base:Heap)(CX:CXT)(k:Nat)(x:Str)(C:Addr)(ps:List Str)(sp:Sp):Prop where
 ex:∃(f:Addr) (fd:FuncData),FnOk P w K mg base CX k f fd ps sp∧Mk K C f∧mg x=some (.ref C)∧Binds K fd ps []
noncomputable def tMethE(C:Addr)(m:Str)(sp:Sp)(EE:St→XK)(ta:TE)(t:TA):TE:=fun σ H Q=>ta σ H fun x H1=>∃a dx fs,x= .ref a∧H1 a=some (.ins C dx fs)∧fs.lookup m=none∧t σ H1 fun vs H2=>sp (x::vs) H2 Q (EE σ)
noncomputable def tMakeE(C:Addr)(sp:Sp)(EE:St→XK)(t:TA):TE:=fun σ H Q=>t σ H fun vs H1=>∀x dx,H1 x=none→H1 dx=none→dx≠x→sp (.ref x::vs) (upd (upd H1 dx (.own x)) x (.ins C dx [])) (fun v H2=>v= .non∧Q (.ref x) H2) (EE σ)
section
variable {X:Cx} {CX:CXT} {k j:Nat} {f C:Addr} {fd:FuncData} {ps:List Str} {sp:Sp} {EE:St→XK} {E:XK} {x m:Str} {p pos apos:Pos} {e o:Expr} {es:List Expr} {ta:TE} {t:TA}
theorem passS(h:Passes CX X E):PassesS CX X fun _=>E:=fun pins σ H s e s' I hc=>h pins σ H s e s' I hc
theorem run_fnS{pins:List (Addr×Obj)}{σ:St}{H:Hp}{s:Shared}{Q:VK}{us:List Value}{vs:List V}(F:FnOk X.prog X.w X.K X.mg X.base CX k f fd ps sp)(hr:Room k X.A)(hb:Binds X.K fd ps [])(hx:PassesS CX X EE)
 (I:Inv X pins σ H s) (r:Vals vs us) (h:sp vs H Q (EE σ)):wpAny (model X.prog X.w) X.A (call (.ref f) us) (EP X pins σ Q) X.xe s:=by
 have hl:us.length=ps.length:=by rw [← r.length];exact F.len _ _ _ _ h
 have hb':=hb s us I.kIn (by simpa using hl)
 rw [List.append_nil]at hb'
 refine wpAny_call (codeAny_mono (F.run X.A X.stack s H ⟨us,[]⟩ us vs Q (EE σ) hr I.env0 hb' r h) fun r s' hq=>?_)
 cases r with
 | error e=>exact hx pins σ H s e s' I hq
 | ok fl=>
  cases fl with
  | ret u=>exact I.after hq
  | next=>exact False.elim hq
  | brk=>exact False.elim hq
  | cont=>exact False.elim hq
theorem pe_methS{pl:Sem Bool}(D:DefM X.prog X.w X.K X.mg X.base CX j C m ps sp)(c:Cls X.K C)(hr:Room k X.A)(hx:PassesS CX X EE)(he:PE X o ta)(ha:PA X (e::es) t)(hj:j≤k:=by decide)
 (hst:starEach (e::es) X.env=(false,eval e X.env)::starEach es X.env:=by rfl) (hpl:(backTo pos (starEach es X.env)).any (·.1)=false:=by rfl)
 (ht:eval (.Call (.Attribute o m apos) (e::es) [] pos) X.env=(do
  let ov ← eval o X.env
  standAt apos.atName
  let (f,first) ← holding [ov] (getMethod ov m pl)
  callWith pos f first (backTo pos (starEach (e::es) X.env)) (backToKw pos (keywordEach [] X.env))):=by rfl):
 PE X (.Call (.Attribute o m apos) (e::es) [] pos) (tMethE C m sp EE ta t):=by
 obtain ⟨f,fd,F,hm,hb⟩:=D.ex
 intro pins s σ H Q I h
 refine PySem.W.methodCall_KW (pl:=pl) (thn (he pins s σ H _ I h) fun u s1 hq_=>?_) ht
 obtain ⟨x,H1,I1,rx,a,dx,fs,ex,ea,l,q⟩:=hq_
 subst ex
 obtain rfl:u=Value.ref a:=rx
 refine getmeth_ok I1 ea c hm l ?_
 refine PySem.W.callWith_K (first:=[.ref a]) (h₀:=X.base) I.ok.mod.kin hm.kp (thn (ha pos pins s1 σ H1 _ I1 q) fun us s2 ⟨vs,H2,I2,r,q2⟩=>⟨I2.kIn,?_⟩) hst hpl
 exact run_fnS (us:= .ref a::us) (vs:= .ref a::vs) (F.mono hj) hr hb hx I2 (.cons rfl r) q2
theorem pe_methS0{pl:Sem Bool}(D:DefM X.prog X.w X.K X.mg X.base CX j C m ps sp)(c:Cls X.K C)(hr:Room k X.A)(hx:PassesS CX X EE)(he:PE X o ta)(hj:j≤k:=by decide)
 (ht:eval (.Call (.Attribute o m apos) [] [] pos) X.env=(do
  let ov ← eval o X.env
  standAt apos.atName
  let (f,first) ← holding [ov] (getMethod ov m pl)
  callWith pos f first (backTo pos (starEach [] X.env)) (backToKw pos (keywordEach [] X.env))):=by rfl):
 PE X (.Call (.Attribute o m apos) [] [] pos) (tMethE C m sp EE ta tNil):=by
 obtain ⟨f,fd,F,hm,hb⟩:=D.ex
 intro pins s σ H Q I h
 refine PySem.W.methodCall_KW (pl:=pl) (thn (he pins s σ H _ I h) fun u s1 hq_=>?_) ht
 obtain ⟨x,H1,I1,rx,a,dx,fs,ex,ea,l,q⟩:=hq_
 subst ex
 obtain rfl:u=Value.ref a:=rx
 refine getmeth_ok I1 ea c hm l ?_
 exact PySem.W.callWith_K0 (first:=[.ref a]) I1.kIn hm.kp (run_fnS (us:=[.ref a]) (vs:=[.ref a]) (F.mono hj) hr hb hx I1 (.cons rfl .nil) q)
theorem pe_makeS(D:DefI X.prog X.w X.K X.mg X.base CX j x C ps sp)(hr:Room k X.A)(hg:Gl X x)(hx:PassesS CX X EE)(ha:PA X (e::es) t)(hj:j+1≤k:=by decide)(hdb:(x==("__debug__":Str))=false:=by decide)
 (he:starEach (e::es) X.env=(false,eval e X.env)::starEach es X.env:=by rfl) (hpl:(backTo pos (starEach es X.env)).any (·.1)=false:=by rfl):
 PE X (.Call (.Name x p) (e::es) [] pos) (tMakeE C sp EE t):=by
 obtain ⟨f,fd,F,M,hm,hb⟩:=D.ex
 intro pins s0 σ H0 Q I0 h
 refine wpAny_Call_Name_kw (ld_glob I0 hg hm ?_ hdb)
 refine PySem.W.callWith_K (h₀:=X.base) I0.ok.mod.kin M.kp (thn (ha pos pins s0 σ H0 _ I0 h) fun us s ⟨vs,H,I,r,q⟩=>⟨I.kIn,?_⟩) he hpl
 have hq:=q (s.heap.objs.size+1) s.heap.objs.size (I.hok.fresh (Nat.le_succ _)) (I.hok.fresh (Nat.le_refl _)) (Nat.ne_of_lt (Nat.lt_succ_self _))
 have I2:=Inv.made (C:=C) I
 have r2:Vals (V.ref (s.heap.objs.size+1)::vs) (Value.ref (s.heap.objs.size+1)::us):= .cons rfl r
 have hl:(Value.ref (s.heap.objs.size+1)::us).length=ps.length:=by
  rw [← r2.length];exact F.len _ _ _ _ hq
 have hb':=fun s' (h':X.K.In s'.heap)=>hb s' (Value.ref (s.heap.objs.size+1)::us) h' (by simpa using hl)
 have hr':Room (j+1) X.A:=hr.mono hj
 refine wpAny_call (make_map (f:=f) I.kIn M.makes M.init (beq_iff_eq.mp M.fn) (codeAny_mono (F.run _ X.stack _ _ ⟨Value.ref (s.heap.objs.size+1)::us,[]⟩ (Value.ref (s.heap.objs.size+1)::us) _ _ (EE σ) (hr'.make C us [])
  (I2.env0.make C us []) (by have:=hb' _ I2.kIn;rw [List.append_nil]at this;exact this) r2 hq) fun r s' hq'=>?_))
 cases r with
 | error e=>exact hx pins σ _ _ e s' I2 hq'
 | ok fl=>
  cases fl with
  | ret u=>
   obtain ⟨v,H',I3,rv,ev,q3⟩:=I2.after hq'
   subst ev
   exact ⟨rv,⟨V.ref (s.heap.objs.size+1),H',I3,rfl,q3⟩⟩
  | next=>exact False.elim hq'
  | brk=>exact False.elim hq'
  | cont=>exact False.elim hq'
end
section
variable {σ:St} {H:Hp} {Q:VK} {D:Ends} {K:PySem.W.Frag}
theorem rd_methE{C:Addr}{m:Str}{sp:Sp}{EE:St→XK}{ta:TE}{t:TA}:tMethE C m sp EE ta t σ H Q=ta σ H fun x H1=>∃a dx fs,x= .ref a∧H1 a=some (.ins C dx fs)∧fs.lookup m=none∧t σ H1 fun vs H2=>sp (x::vs) H2 Q (EE σ):=rfl
theorem rd_makeE{C:Addr}{sp:Sp}{EE:St→XK}{t:TA}:tMakeE C sp EE t σ H Q=t σ H fun vs H1=>∀x dx,H1 x=none→H1 dx=none→dx≠x→sp (.ref x::vs) (upd (upd H1 dx (.own x)) x (.ins C dx [])) (fun v H2=>v= .non∧Q (.ref x) H2) (EE σ):=rfl
theorem rd_fld{ta:TE}{f:Str}:tFld K ta f σ H Q=ta σ H fun x H1=>∃a C dx fs v,x= .ref a∧H1 a=some (.ins C dx fs)∧Cls K C∧NoAttr K C f∧fs.lookup f=some v∧Q v H1:=rfl
theorem rd_sfld{ta tv:TE}{f:Str}:sFld K ta tv f D σ H=tv σ H fun y H1=>ta σ H1 fun x H2=>∃a C dx fs,x= .ref a∧H2 a=some (.ins C dx fs)∧Cls K C∧NoAttr K C f∧fs.length < 1000∧D.nx σ (upd H2 a (.ins C dx (putF f y fs))):=rfl
theorem rd_din{ty td:TE}:tDIn ty td σ H Q=ty σ H fun y H1=>td σ H1 fun x H2=>∃a o,x= .ref a∧DGet H2 a y o∧Q (.bl o.isSome) H2:=rfl
theorem rd_dnotin{ty td:TE}:tDNotIn ty td σ H Q=ty σ H fun y H1=>td σ H1 fun x H2=>∃a o,x= .ref a∧DGet H2 a y o∧Q (.bl (!o.isSome)) H2:=rfl
theorem rd_dget{td ty:TE}:tDGet td ty σ H Q=td σ H fun x H1=>ty σ H1 fun y H2=>∃a v,x= .ref a∧DGet H2 a y (some v)∧Q v H2:=rfl
theorem rd_dput{td ty tv:TE}:sDPut td ty tv D σ H=tv σ H fun v H1=>td σ H1 fun x H2=>ty σ H2 fun y H3=>∃a H4,x= .ref a∧DPut H3 a y v H4∧D.nx σ H4:=rfl
theorem rd_gtup{n:Nat}{t:TGs}{v:V}{N:St→Hp→Prop}:gTup K n t v σ H N=∃a xs,v= .ref a∧SqT K H a xs∧xs.length=n∧t xs σ H N:=rfl
end
theorem le_app{a b:Str}{n:Nat}(h1:a.length≤n / 2)(h2:b.length≤n / 2):(a++b).length≤n:=by
 rw [len_app];omega
end L2
namespace L2
open Sem (wp)
section
variable {Pg:Program} {w:World} {A:Around} {E:Value→Shared→Prop} {h:Heap} {g:Array GenState} {d:Drawn} {t:Nat} {os:OsState}
variable {nm q:Str} {C N:Addr} {bs bm bmB:List Value} {hd:Bool} {sn:List Str} {su:List Value} {ab:Bool} {co:Option Bool} {dd:Option Addr} {k0 k1 k2 k3 k5:Option Value} {B nw ni:String}
noncomputable abbrev bareExc(h:Heap)(C:Addr):Obj:={cls:= .ref C,data:= .fields #[.ref h.objs.size,.none,.none,.none,.bool false,.none]}
noncomputable abbrev twoMore(h:Heap)(C:Addr)(rest:List Value):Heap:=(h.push {cls:= .type "tuple",data:= .seq rest.toArray}).push (bareExc h C)
theorem keep2{rest:List Value}:∀b o,h.get? b=some o→(twoMore h C rest).get? b=some o:=fun _ _ e=>Heap.get?_push_of_some _ (Heap.get?_push_of_some _ e)
end
end L2
namespace L2
theorem kV_of{P:Program}{w:World}{k:Key}{u:Value}(h:(mixKind P w).is k u=true):RelV (kV k) u:=by
 cases k with
 | inl i=>
  cases u <;> first | (exact absurd h (by intro z;cases z)) | skip
  rename_i j t
  have e:j=i:=by simpa [mixKind,keyIs,Value.isInt] using h
  exact ⟨t,by rw [e]⟩
 | inr x=>
  cases u <;> first | (exact absurd h (by intro z;cases z)) | skip
  rename_i j t
  have e:j=x:=by simpa [mixKind,keyIs,Value.isStrOf] using h
  exact ⟨t,by rw [e]⟩
theorem vals_at:∀{xs:List V} {us:List Value},xs.length=us.length→(∀(j:Nat) (u:Value),us[j]?=some u→∃x,xs[j]?=some x∧RelV x u)→Vals xs us
 | [],[],_,_=> .nil
 | x::xs,u::us,hl,h=>by
  obtain ⟨y,e,r⟩:=h 0 u rfl
  cases e
  exact .cons r (vals_at (by simpa using hl) fun j v e=>h (j+1) v e)
theorem paired_get{α β:Type}{F:α→β→Prop}:∀{l:List α} {m:List β},Paired F l m→∀{i:Nat} {b:β},m[i]?=some b→∃a,l[i]?=some a∧F a b
 | _,_,.cons r t,0,b,e=>by cases e;exact ⟨_,rfl,r⟩
 | _,_,.cons r t,i+1,b,e=>paired_get t (i:=i) e
noncomputable def viewO(v d:Addr):HO:= .ext fun h=>h.IsValuesView v d
theorem preSum_eq:∀(is:List Int),preSum (fun i=>is.getD i 0) is.length=is.sum:=by
 intro is
 have key:∀n,n≤is.length→preSum (fun i=>is.getD i 0) n=(is.take n).sum:=by
  intro n
  induction n with
  | zero=>intro _;rfl
  | succ n ih=>
   intro h
   have e:is.take (n+1)=is.take n++[is.getD n 0]:=by
    rw [List.take_add_one,List.getD_eq_getElem?_getD,List.getElem?_eq_getElem (by omega)]
    rfl
   rw [preSum,ih (by omega),e,List.sum_append]
   simp
 have:=key is.length (Nat.le_refl _)
 rwa [List.take_length]at this
noncomputable def rListD:List V→Hp→VK→Prop:=fun xs H Q=>∃a kvs,xs=[.ref a]∧H a=some (.dK kvs)∧∀l,H l=none→Q (.ref l) (upd H l (.lst (kvs.map fun p=>kV p.1)))
noncomputable def rValues:V→List V→Hp→VK→Prop:=fun x vs H Q=>∃a kvs,x= .ref a∧vs=[]∧H a=some (.dK kvs)∧∀v,H v=none→Q (.ref v) (upd H v (viewO v a))
noncomputable def rSumV:List V→Hp→VK→Prop:=fun xs H Q=>∃(v d:Addr) (kvs:List (Key×V)) (is:List Int),xs=[.ref v]∧H v=some (viewO v d)∧H d=some (.dK kvs)∧kvs.map (·.2)=is.map V.int∧Q (.int is.sum) H
noncomputable def rRemove:V→List V→Hp→VK→Prop:=fun x vs H Q=>∃(l:Addr) (ys:List Str) (z:Str),x= .ref l∧vs=[.str z]∧H l=some (.lst (ys.map V.str))∧z∈ys∧Q .non (upd H l (.lst ((ys.erase z).map V.str)))
section
variable {X:Cx}
theorem call_listD(hc:X.calm=true):CallR X (.type "list") rListD:=by
 intro pins s σ H xs us Q I r h
 obtain ⟨a,kvs,rfl,ha,q⟩:=h
 obtain ⟨u,rfl,rx⟩:=vals1 r
 cases rx
 obtain ⟨z,lo,ws,rel,ob,es,ep,e1,e2⟩:=I.hok a _ ha
 have dat:s.heap.DictAt (mixKind X.prog X.w) a ws ep:=⟨ob,es,e1,e2⟩
 refine PySem.W.kdl_call (PySem.W.kdl_dict (knd:=mixKind X.prog X.w) (kvs:=ws) (ep:=ep) lo) (I.ok.hd hc) dat (by rw [← rel.length];exact z) fun h' tk acc c' kp e hi=>?_
 have hv:Vals (kvs.map fun p=>kV p.1) acc.toList:=by
  have h1:=hi.1
  have h2:=rel.length
  refine vals_at (by rw [List.length_map];exact h2.trans (h1.symm.trans (Array.length_toList (xs:=acc)).symm)) fun j u ej=>?_
  obtain ⟨k,x,ek,hk⟩:=hi.2 j u (by rw [← Array.getElem?_toList];exact ej)
  obtain ⟨p,ep',hp⟩:=paired_get rel ek
  exact ⟨kV p.1,by rw [List.getElem?_map,ep'];rfl,by rw [hp.1];exact kV_of hk⟩
 refine ⟨.ref s.heap.objs.size,_,I.laid (t':=tk) kp (Nat.le_refl _) (show ObjOk X.prog X.w _ h' _ (.lst (kvs.map fun p=>kV p.1)) from ⟨by rw [List.length_map];exact z,acc.toList,c',hv,?_⟩),rfl,q _ I.fresh⟩
 rw [Array.toArray_toList];exact e
theorem mt_values:MtM X "dict.values" rValues:=by
 intro pins s σ H x vs v us Q I rx rv h
 obtain ⟨a,kvs,rfl,rfl,ha,q⟩:=h
 cases rx
 have hus:=rv.zero
 subst hus
 obtain ⟨z,lo,ws,rel,dd⟩:=I.hok a _ ha
 refine call_meetsIn PySem.F.slot_dict_values dd.typeIs PySem.F.entry_dict_values (PySem.F.args_dict_values_1 _) (meets_dict_values (mixKind X.prog X.w) a lo) ⟨⟨ws,dd⟩,?_⟩
 refine ⟨.ref s.heap.objs.size,_,I.laid (t':=s.toks) (fun b o e=>Heap.get?_push_of_some _ e) (Nat.le_refl _) (show ObjOk X.prog X.w _ _ _ (viewO s.heap.objs.size a) from ⟨⟨_,Heap.get?_push_size _ rfl,rfl,rfl⟩,⟨_,Heap.get?_push_size _ rfl⟩,fun h1 h2 ⟨o,e1,e2⟩ k=>⟨o,k _ e1,e2⟩⟩),rfl,q _ I.fresh⟩
theorem call_sumV(hc:X.calm=true):CallR X (.builtin "sum") rSumV:=by
 intro pins s σ H xs us Q I r h
 obtain ⟨v,d,kvs,is,rfl,hv,hd,hm,q⟩:=h
 obtain ⟨u,rfl,rx⟩:=vals1 r
 cases rx
 obtain ⟨z,lo,ws,rel,ob,es,ep,e1,e2⟩:=I.hok d _ hd
 have dat:s.heap.DictAt (mixKind X.prog X.w) d ws ep:=⟨ob,es,e1,e2⟩
 have hvw:s.heap.IsValuesView v d:=(I.hok v _ hv).1
 have src:=PySem.W.kdl_values (prog:=X.prog) (w:=X.w) (r:=v) (d:=d) (knd:=mixKind X.prog X.w) (kvs:=ws) (ep:=ep)
 have hlen:ws.length=is.length:=by
  have:=congrArg List.length hm
  simp only [List.length_map]at this
  rw [← rel.length];exact this
 refine call_sum_walkAnyS ?_
 obtain ⟨oI,St,hit,W,st⟩:=src.iter X.A.in1 s (I.ok.hd hc) ⟨hvw,dat⟩
 refine hit _ _ ⟨s.heap.objs.size,_,_,_,_,_,_,fun i=>is.getD i 0,rfl,W.toS,st,fun b hb=>?_,fun i u hp=>?_,fun s' t' hmv=>?_⟩
 · show b < (s.heap.push oI).objs.size
   rw [size_push']
   rcases List.mem_cons.mp hb with e | hb
   · rw [e];exact Nat.lt_succ_self _
   · rw [List.mem_singleton.mp hb];exact Nat.lt_succ_of_lt (Heap.lt_size e1)
 · obtain ⟨k,ek⟩:=hp
   obtain ⟨p,ep',hp'⟩:=paired_get rel ek
   have e3:(kvs.map (·.2))[i]?=some p.2:=by rw [List.getElem?_map,ep'];rfl
   rw [hm,List.getElem?_map]at e3
   cases hi:is[i]? with
   | none=>rw [hi]at e3;cases e3
   | some n=>
    rw [hi]at e3
    have e4:V.int n=p.2:=Option.some.inj e3
    have r2:=hp'.2
    rw [← e4]at r2
    show ∃t,u=Value.int (is.getD i 0) t
    rw [List.getD_eq_getElem?_getD,hi]
    exact r2
 · have hk:∀b o,s.heap.get? b=some o→s'.heap.get? b=some o:=fun b o e=>
    hmv.heap b o (fun hI=>absurd (Heap.lt_size e) (by rw [List.mem_singleton.mp hI];exact Nat.lt_irrefl _)) (Heap.get?_push_of_some _ e)
   rw [Moved.eq_with hmv]
   refine ⟨.int is.sum,H,I.kept (t':=s'.toks) hk,⟨t',?_⟩,q⟩
   rw [hlen,preSum_eq]
noncomputable def rIsNB:R2:=fun x y H Q=>∃a b,x= .bl a∧y= .bl b∧Q (.bl (!(a==b))) H
end
section
variable {σ:St} {H:Hp} {Q:VK} {xs:List V} {x y:V}
theorem rd_dpop1{td ty:TE}:tDPop1 td ty σ H Q=td σ H fun x H1=>∃a,x= .ref a∧IsD H1 a∧ty σ H1 fun y H2=>∃kvs k v,H2 a=some (.dK kvs)∧y=kV k∧valV kvs k=some v∧Q v (upd H2 a (.dK (dropK kvs k))):=rfl
theorem rd_dget2{td ty tx:TE}:tDGet2 td ty tx σ H Q=td σ H fun x H1=>∃a,x= .ref a∧IsD H1 a∧ty σ H1 fun y H2=>tx σ H2 fun z H3=>∃o,DGet H3 a y o∧Q (o.getD z) H3:=rfl
theorem rd_popAt:rPopAt x xs H Q=∃l ys i k y,x= .ref l∧xs=[.int i]∧H l=some (.lst ys)∧-(2 ^ 63)≤i∧i < 2 ^ 63∧seqIndex? i ys.length=some k∧ys[k]?=some y∧Q y (upd H l (.lst (ys.eraseIdx k))):=rfl
theorem rd_listD:rListD xs H Q=∃a kvs,xs=[.ref a]∧H a=some (.dK kvs)∧∀l,H l=none→Q (.ref l) (upd H l (.lst (kvs.map fun p=>kV p.1))):=rfl
theorem rd_values:rValues x xs H Q=∃a kvs,x= .ref a∧xs=[]∧H a=some (.dK kvs)∧∀v,H v=none→Q (.ref v) (upd H v (viewO v a)):=rfl
theorem rd_sumV:rSumV xs H Q=∃(v d:Addr) (kvs:List (Key×V)) (is:List Int),xs=[.ref v]∧H v=some (viewO v d)∧H d=some (.dK kvs)∧kvs.map (·.2)=is.map V.int∧Q (.int is.sum) H:=rfl
theorem rd_remove:rRemove x xs H Q=∃(l:Addr) (ys:List Str) (z:Str),x= .ref l∧xs=[.str z]∧H l=some (.lst (ys.map V.str))∧z∈ys∧Q .non (upd H l (.lst ((ys.erase z).map V.str))):=rfl
theorem rd_isnB:rIsNB x y H Q=∃a b,x= .bl a∧y= .bl b∧Q (.bl (!(a==b))) H:=rfl
end
end L2
namespace N1
open PySem L2
noncomputable def letters:List Nat:=List.range' 97 26
noncomputable def figures:List Nat:=List.range' 48 10
theorem let_list:(Str.ofString "abcdefghijklmnopqrstuvwxyz").cps.toList=letters:=by decide+kernel
theorem fig_list:(Str.ofString "0123456789").cps.toList=figures:=by decide+kernel
theorem both_list:(Str.ofString "abcdefghijklmnopqrstuvwxyz0123456789").cps.toList=letters++figures:=by decide+kernel
theorem both_len:(letters++figures).length=36:=by decide
noncomputable def headIn(l:List Nat)(s:List Nat):Bool:=match l with
 | []=>false
 | c::_=>decide (c∈s)
noncomputable def nameB(l:List Nat):Bool:=decide (1≤l.length) && decide (l.length≤8) && headIn l letters && l.all fun c=>decide (c∈letters++figures)
end N1
namespace N1
open PySem L2
noncomputable def tx(l:List Nat):Str:=⟨l.toArray⟩
theorem T_list{l:List Nat}:(tx l).cps.toList=l:=by simp [tx]
theorem T_eq{z:Str}:tx z.cps.toList=z:=by cases z;simp [tx]
theorem T_inj{a b:List Nat}(h:tx a=tx b):a=b:=by rw [← T_list (l:=a),h,T_list]
theorem T_app{a b:List Nat}:tx a++tx b=tx (a++b):=by
 have h:=app_list (a:=tx a) (b:=tx b)
 rw [T_list,T_list]at h
 rw [← T_eq (z:=tx a++tx b),h]
theorem T_len{l:List Nat}:(tx l).length=l.length:=by rw [← str_len,T_list]
theorem T_one{c:Nat}:(⟨#[c]⟩:Str)=tx [c]:=rfl
theorem T_nil:Str.ofString ""=tx []:=by decide+kernel
theorem T_empty:Str.empty=tx []:=by decide+kernel
theorem both_length:(Str.ofString "abcdefghijklmnopqrstuvwxyz0123456789").length=36:=by decide+kernel
noncomputable def bc(i:Int):Nat:=(letters++figures).getD i.toNat 0
theorem ix_bc(i:Int){k:Int}(h0:0 < k)(h1:k≤36):atI (Str.ofString "abcdefghijklmnopqrstuvwxyz0123456789").cps.toList (i % k)=some (bc (i % k)):=by
 have h2:=Int.emod_lt_of_pos i h0
 have h3:=Int.emod_nonneg i (show k≠0 by omega)
 refine atI_of h3 ?_
 have h4:(i % k).toNat < (letters++figures).length:=by rw [both_len];omega
 unfold bc
 rw [both_list,List.getD_eq_getElem?_getD,List.getElem?_eq_getElem h4]
 rfl
end N1
namespace N1
open L2
noncomputable def sp_cell(K:PySem.W.Frag):Sp:=fun vs H Q _=>∃(a:Addr) (ns:List Int) (k:Int),vs=[.ref a,.int k]∧SqL K H a (ns.map V.int)∧0≤k∧ns.length≤63∧Q (.int (ns.getD k.toNat 0)) H
noncomputable def sp_made:Sp:=fun vs H Q _=>∃(z w:Str),vs=[.str z,.str w]∧z.length≤sizeLine∧∀H',Same H H'→Q (.bl (z.cps.toList.all fun c=>decide (c∈w.cps.toList))) H'
noncomputable def sp_is_name(K:PySem.W.Frag):Sp:=fun vs H Q _=>∃(x:V),vs=[x]∧((∃z:Str,x= .str z∧z.length≤sizeLine∧∀H',Same H H'→Q (.bl (nameB z.cps.toList)) H')∨(Isi K H x "str" false∧Q (.bl false) H))
noncomputable def sp_law(K:PySem.W.Frag):Sp:=fun vs H Q _=>∃(a:Addr) (ns:List Int),vs=[.ref a]∧SqL K H a (ns.map V.int)∧ns.length≤63∧∀H',Q (.bl true) H'
end N1
namespace N1
open L2
inductive StE where
 | noname | twice | nonum | many
noncomputable def nOk:V→Bool
 | .str z=>nameB z.cps.toList
 | _=>false
noncomputable def sOf:V→Str
 | .str z=>z
 | _=>Str.empty
noncomputable def wIn(lo hi:Int):V→Bool
 | .int i=>decide (lo≤i) && decide (i≤hi)
 | _=>false
noncomputable abbrev Rw:=Addr×V×V×V
noncomputable def rowR(ks:List Str)(n c r:V):Option StE:=if nOk n=false then some .noname else if sOf n∈ks then some .twice else if wIn 0 (10 ^ 30) c=false then some .nonum else if wIn 1 1000 r=false then some .nonum else none
noncomputable def stockR(ks:List Str):List Rw→Option StE
 | []=>none
 | t::rs=>match rowR ks t.2.1 t.2.2.1 t.2.2.2 with
  | some e=>some e
  | none=>stockR (ks++[sOf t.2.1]) rs
noncomputable def initR(rs:List Rw):Option StE:=if 60 < rs.length then some .many else stockR [] rs
theorem num_isi{K:PySem.W.Frag}{H:Hp}{v:V}(h:flatV v=true):∃b c,Isi K H v "int" b∧(b=true→Isi K H v "bool" c)∧((b && !c)=true→∃i,v= .int i)∧((b && !c)=false→∀i,v≠ .int i):=by
 cases v with
 | non=>exact ⟨false,false,isi_ni,fun h=>by (cases h),fun h=>by (cases h),fun _ i h=>by cases h⟩
 | bl b=>exact ⟨true,true,isi_bi,fun _=>isi_bb,fun h=>by (cases h),fun _ i h=>by cases h⟩
 | int i=>exact ⟨true,false,isi_ii,fun _=>isi_ib,fun _=>⟨i,rfl⟩,fun h=>by cases h⟩
 | str z=>exact ⟨false,false,isi_si,fun h=>by (cases h),fun h=>by (cases h),fun _ i h=>by cases h⟩
 | _=>cases h
noncomputable def sp_is_whole(K:PySem.W.Frag):Sp:=fun vs H Q _=>∃(x:V) (b c:Bool),vs=[x]∧Isi K H x "int" b∧(b=true→Isi K H x "bool" c)∧Q (.bl (b && !c)) H
noncomputable def sp_within(K:PySem.W.Frag):Sp:=fun vs H Q _=>∃(v:V) (lo hi:Int),vs=[v,.int lo,.int hi]∧flatV v=true∧Q (.bl (wIn lo hi v)) H
noncomputable def SameBut(p:Addr)(H H':Hp):Prop:=∀b o,H b=some o→b≠p→H' b=some o
theorem sameBut_upd{p:Addr}{H:Hp}{o:HO}:SameBut p H (upd H p o):=fun b u e n=>by rw [upd_ne n];exact e
noncomputable abbrev Th:=Str×Int×Int
noncomputable def flds(d:Addr):List (Str×V):=putF "things" (.ref d) []
structure StockAt(K:PySem.W.Frag)(C:Addr)(H:Hp)(p:Addr)(ts:List Th):Prop where
 ex:∃(dx d:Addr) (kvs:List (Key×V)),H p=some (.ins C dx (flds d))∧H d=some (.dK kvs)∧kvs.map (·.1)=ts.map (fun t=>Sum.inr t.1)∧
  ∀(i:Nat) (t:Th),ts[i]?=some t→∃a,kvs[i]?=some (Sum.inr t.1,.ref a)∧SqT K H a [.int i,.int t.2.1,.int t.2.2]
theorem StockAt.same{K:PySem.W.Frag}{C:Addr}{H H':Hp}{p:Addr}{ts:List Th}(s:Same H H')(h:StockAt K C H p ts):StockAt K C H' p ts:=by
 obtain ⟨dx,d,kvs,h1,h2,h3,h4⟩:=h.ex
 refine ⟨dx,d,kvs,s _ _ h1,s _ _ h2,h3,fun i t e=>?_⟩
 obtain ⟨a,e1,e2⟩:=h4 i t e
 exact ⟨a,e1,s.tup e2⟩
noncomputable def iOf:V→Int
 | .int i=>i
 | _=>0
noncomputable def thOf(t:Rw):Th:=(sOf t.2.1,iOf t.2.2.1,iOf t.2.2.2)
theorem SqT.but{K:PySem.W.Frag}{H H':Hp}{p a C dx:Addr}{fs:List (Str×V)}{xs:List V}(s:SameBut p H H')(hp:H p=some (.ins C dx fs))(h:SqT K H a xs):SqT K H' a xs:=by
 rcases h with (h | ⟨o,h⟩) | h
 · exact .inl (.inl (s _ _ h (ne_of h hp (by intro z;cases z))))
 · exact .inl (.inr ⟨o,s _ _ h (ne_of h hp (by intro z;cases z))⟩)
 · exact .inr h
theorem SqL.but{K:PySem.W.Frag}{H H':Hp}{p a C dx:Addr}{fs:List (Str×V)}{xs:List V}(s:SameBut p H H')(hp:H p=some (.ins C dx fs))(h:SqL K H a xs):SqL K H' a xs:=by
 rcases h with (h | ⟨o,h⟩) | h
 · exact .inl (.inl (s _ _ h (ne_of h hp (by intro z;cases z))))
 · exact .inl (.inr ⟨o,s _ _ h (ne_of h hp (by intro z;cases z))⟩)
 · exact .inr h
theorem key_mem{kvs:List (Key×V)}{ks:List Str}{z:Str}(h:kvs.map (·.1)=ks.map Sum.inr):(valV kvs (Sum.inr z)).isSome=decide (z∈ks):=by
 have e:(Sum.inr z:Key)∈kvs.map (·.1)↔z∈ks:=by
  rw [h,List.mem_map]
  constructor
  · rintro ⟨a,ha,e⟩;injection e with e;subst e;exact ha
  · intro h;exact ⟨z,h,rfl⟩
 cases hv:valV kvs (Sum.inr z:Key) with
 | none=>rw [decide_eq_false fun q=>valV_not hv (e.mpr q)];rfl
 | some v=>rw [decide_eq_true (e.mp (valV_in hv))];rfl
theorem flds_things{d:Addr}:(flds d).lookup ("things":Str)=some (V.ref d):=by
 unfold flds
 rw [lookup_putF,if_pos rfl]
theorem rowR_none{ks:List Str}{n co r:V}(h:rowR ks n co r=none):∃z c q,n= .str z∧co= .int c∧r= .int q∧¬z∈ks∧nameB z.cps.toList=true∧0≤c∧c≤10 ^ 30∧1≤q∧q≤1000:=by
 unfold rowR at h
 split at h
 · cases h
 rename_i h1
 split at h
 · cases h
 rename_i h2
 split at h
 · cases h
 rename_i h3
 split at h
 · cases h
 rename_i h4
 cases n with
 | str z=>
  cases co with
  | int c=>
   cases r with
   | int q=>
    simp only [wIn,Bool.and_eq_false_iff,decide_eq_false_iff_not,not_or,Decidable.not_not]at h3 h4
    exact ⟨z,c,q,rfl,rfl,rfl,h2,by simpa [nOk] using h1,h3.1,h3.2,h4.1,h4.2⟩
   | _=>exact absurd rfl h4
  | _=>exact absurd rfl h3
 | _=>exact absurd rfl h1
theorem stockR_step{ks:List Str}{rs:List Rw}{i:Nat}{t:Rw}(h:rs[i]?=some t):stockR ks (rs.drop i)=match rowR ks t.2.1 t.2.2.1 t.2.2.2 with
 | some e=>some e
 | none=>stockR (ks++[sOf t.2.1]) (rs.drop (i+1)):=by
 have e:rs.drop i=t::rs.drop (i+1):=by
  obtain ⟨hi,rfl⟩:=List.getElem?_eq_some_iff.mp h
  exact List.drop_eq_getElem_cons hi
 rw [e]
 rfl
noncomputable def nmsOf(rs:List Rw):List Str:=rs.map fun t=>sOf t.2.1
structure MidAt(K:PySem.W.Frag)(H:Hp)(d:Addr)(rs:List Rw):Prop where
 ex:∃kvs:List (Key×V),H d=some (.dK kvs)∧kvs.map (·.1)=(nmsOf rs).map Sum.inr∧∀(j:Nat) (t:Rw),rs[j]?=some t→∃a,kvs[j]?=some (Sum.inr (sOf t.2.1),.ref a)∧SqT K H a [.int j,.int (iOf t.2.2.1),.int (iOf t.2.2.2)]
theorem MidAt.snoc{K:PySem.W.Frag}{H:Hp}{d a:Addr}{rs:List Rw}{t:Rw}{kvs:List (Key×V)}{c q:Int}{z:Str}(h1:H d=some (.dK kvs))(h2:kvs.map (·.1)=(nmsOf rs).map Sum.inr)
 (h3:∀(j:Nat) (t:Rw),rs[j]?=some t→∃a,kvs[j]?=some (Sum.inr (sOf t.2.1),.ref a)∧SqT K H a [.int j,.int (iOf t.2.2.1),.int (iOf t.2.2.2)])
 (e1:t.2.1= .str z) (e2:t.2.2.1= .int c) (e3:t.2.2.2= .int q) (nz:¬z∈nmsOf rs) (ha:H a=some (.tup [.int kvs.length,.int c,.int q])):
 MidAt K (upd H d (.dK (putK kvs (Sum.inr z) (.ref a)))) d (rs++[t]):=by
 have hl:kvs.length=rs.length:=by
  have:=congrArg List.length h2
  simpa [nmsOf] using this
 have hv:valV kvs (Sum.inr z:Key)=none:=by
  have:=key_mem (z:=z) h2
  rw [decide_eq_false nz]at this
  cases h:valV kvs (Sum.inr z:Key) with
  | none=>rfl
  | some v=>rw [h]at this;cases this
 have keep2:∀{b:Addr} {xs:List V} {o:List (Key×V)},SqT K H b xs→SqT K (upd H d (.dK o)) b xs:=fun {b xs o} h=>by
  rcases h with (h | ⟨o',h⟩) | h
  · exact .inl (.inl (by rw [upd_ne (ne_of h h1 (by intro z;cases z))];exact h))
  · exact .inl (.inr ⟨_,by rw [upd_ne (ne_of h h1 (by intro z;cases z))];exact h⟩)
  · exact .inr h
 refine ⟨_,upd_same,?_,fun j t' hj=>?_⟩
 · rw [putK_new _ hv,List.map_append,h2]
   simp [nmsOf,e1,sOf]
 · rw [putK_new _ hv]
   by_cases hlt:j < rs.length
   · rw [List.getElem?_append_left hlt]at hj
     obtain ⟨b,e,hb⟩:=h3 j t' hj
     exact ⟨b,by rw [List.getElem?_append_left (by omega)];exact e,keep2 hb⟩
   · rw [List.getElem?_append_right (by omega)]at hj
     have hj0:j - rs.length=0:=by
      have:=(List.getElem?_eq_some_iff.mp hj).1
      simp at this;omega
     rw [hj0]at hj
     cases hj
     have ej:j=rs.length:=by omega
     subst ej
     refine ⟨a,?_,?_⟩
     · rw [← hl,List.getElem?_append_right (by omega)];simp [e1,sOf]
     · rw [e2,e3]
       refine keep2 (SqT.of ?_)
       rw [ha,hl];rfl
end N1
namespace L2
theorem rd_setL{o i v:V}{H:Hp}{Q:Hp→Prop}:rSetL o i v H Q=∃p xs k j,o= .ref p∧i= .int k∧H p=some (.lst xs)∧ixN xs.length k=some j∧Q (upd H p (.lst (xs.set j v))):=rfl
end L2
namespace N5
open L2 N1
noncomputable def md(j:Nat):Int:=if j=0 then 26 else 36
theorem bc_let{i:Int}:bc (i % 26)∈letters:=by
 have h1:=Int.emod_nonneg i (show (26:Int)≠0 by decide)
 have h2:=Int.emod_lt_of_pos i (show (0:Int) < 26 by decide)
 unfold bc
 generalize i % 26=x at *
 have h3:x.toNat < letters.length:=by simp [letters];omega
 rw [List.getD_eq_getElem?_getD,List.getElem?_append_left h3,List.getElem?_eq_getElem h3]
 exact List.getElem_mem h3
theorem bc_both{i:Int}:bc (i % 36)∈letters++figures:=by
 have h1:=Int.emod_nonneg i (show (36:Int)≠0 by decide)
 have h2:=Int.emod_lt_of_pos i (show (0:Int) < 36 by decide)
 unfold bc
 generalize i % 36=x at *
 have h3:x.toNat < (letters++figures).length:=by rw [both_len];omega
 rw [List.getD_eq_getElem?_getD,List.getElem?_eq_getElem h3]
 exact List.getElem_mem h3
theorem bc_inj{x y:Int}(hx0:0≤x)(hx:x < 36)(hy0:0≤y)(hy:y < 36)(h:bc x=bc y):x=y:=by
 have key:∀a:Fin 36,∀b:Fin 36,(letters++figures).getD a.val 0=(letters++figures).getD b.val 0→a=b:=by decide+kernel
 have:=key ⟨x.toNat,by omega⟩ ⟨y.toNat,by omega⟩ h
 have:=congrArg Fin.val this
 simp at this
 omega
theorem ne1:Str.ofString "no name"≠Str.ofString "nothing":=by decide+kernel
theorem SqT.butL{K:PySem.W.Frag}{H H':Hp}{p a:Addr}{zs:List V}{xs:List V}(s:SameBut p H H')(hp:H p=some (.lst zs))(h:SqT K H a xs):SqT K H' a xs:=by
 rcases h with (h | ⟨o,h⟩) | h
 · exact .inl (.inl (s _ _ h (ne_of h hp (by intro z;cases z))))
 · exact .inl (.inr ⟨o,s _ _ h (ne_of h hp (by intro z;cases z))⟩)
 · exact .inr h
theorem same_made{H H':Hp}{x dx C:Addr}(hx:H x=none)(hd:H dx=none)(s:SameBut x (upd (upd H dx (.own x)) x (.ins C dx [])) H'):Same H H':=fun b o e=>by
 have n1:=ne_of_none e hx
 have n2:=ne_of_none e hd
 exact s b o (by rw [upd_ne n1,upd_ne n2];exact e) n1
theorem name_len{z:Str}(h:nameB z.cps.toList=true):z.length≤8:=by
 unfold nameB at h
 simp only [Bool.and_eq_true,decide_eq_true_eq]at h
 have:=h.1.1.2
 rw [str_len]at this;exact this
end N5
namespace L2
open N1 N5
section
variable {K:PySem.W.Frag} {tail:St} {te:Blk→TE} {Q:VK} {H1:Hp}
theorem compL_ix{a:Addr}{xs:List V}(f:Nat→V)(hS:SqL K H1 a xs)(hz:xs.length≤sizeLine)(he:∀b i x H Q',xs[i]?=some x→Same H1 H→Q' (f i) H→te b (some x::tail) H Q')
 (q:∀D,H1 D=none→Q (.ref D) (upd H1 D (.lst ((List.range xs.length).map f)))):CompTail (none::tail) (fun _=>gName 0) (fun _=>tYes) te Q (Itl K a) H1:=by
 refine comp_by xs.length (fun b D hD=>⟨fun i ys H=>i≤xs.length∧ys=(List.range i).map f∧H=upd H1 D (.lst ys),⟨Nat.zero_le _,rfl,rfl⟩,?_,?_,?_⟩)
 · rintro i ys H ⟨hi,rfl,rfl⟩
   exact upd_same
 · rintro ys H ⟨_,rfl,rfl⟩
   exact ⟨⟨xs,(same_new hD).seq hS,Nat.le_refl _⟩,q D hD⟩
 · rintro i ys H hi ⟨_,rfl,rfl⟩
   refine ⟨⟨xs,xs[i],(same_new hD).seq hS,by simp [hi]⟩,fun x H3 ⟨e3,ex⟩=>?_⟩
   subst e3
   refine he b i x _ _ (ex xs ((same_new hD).seq hS)) (same_new hD) (compNext upd_same (by rw [List.length_map,List.length_range];omega) hi ⟨hi,?_,?_⟩)
   · rw [List.range_succ];simp
   · funext a;by_cases ha:a=D <;> simp [upd,ha]
noncomputable def OffLists(P:V→Hp→Prop):Prop:=∀y H H' l zs,P y H→H l=some (.lst zs)→SameBut l H H'→P y H'
theorem compR_mk{lo:Int}{n:Nat}(P:Nat→V→Hp→Prop)(hP:∀i,OffLists (P i))(hz:n≤sizeLine)(he:∀b (i:Nat) H Q',i < n→Same H1 H→(∀y H',Same H H'→P i y H'→Q' y H')→te b (some (.int (lo+i))::tail) H Q')
 (q:∀D ys H',H1 D=none→Same H1 H'→H' D=some (.lst ys)→ys.length=n→(∀i y,ys[i]?=some y→P i y H')→Q (.ref D) H'):CompTail (none::tail) (fun _=>gName 0) (fun _=>tYes) te Q (Itr lo n) H1:=by
 refine comp_by n (fun b D hD=>⟨fun i ys H=>i≤n∧ys.length=i∧H D=some (.lst ys)∧Same H1 H∧∀j y,ys[j]?=some y→P j y H,⟨Nat.zero_le _,rfl,upd_same,same_new hD,fun j y e=>by simp at e⟩,?_,?_,?_⟩)
 · rintro i ys H ⟨hi,_,h,_⟩
   exact h
 · rintro ys H ⟨_,hl,h,sm,hall⟩
   exact ⟨Nat.le_refl _,q D ys H hD sm h hl hall⟩
 · rintro i ys H hi ⟨_,hl,h,sm,hall⟩
   refine ⟨hi,fun x H3 ⟨e3,ex⟩=>?_⟩
   subst e3 ex
   refine he b i _ _ hi sm fun y H4 sm4 py=>?_
   have h4:=sm4 _ _ h
   have sb:SameBut D H4 (upd H4 D (.lst (ys++[y]))):=sameBut_upd
   refine compNext h4 (by omega) hi ⟨hi,by rw [List.length_append,hl];rfl,upd_same,fun c o e=>?_,fun j y' e=>?_⟩
   · rw [upd_ne (ne_of_none e hD)];exact sm4 _ _ (sm _ _ e)
   · by_cases hj:j < ys.length
     · rw [List.getElem?_append_left hj]at e
       have:=hall j y' e
       exact hP j _ _ _ _ _ this h fun c o e n=>by rw [upd_ne n];exact sm4 _ _ e
     · rw [List.getElem?_append_right (by omega)]at e
       have hj0:j=i:=by have:=(List.getElem?_eq_some_iff.mp e).1;simp at this;omega
       subst hj0
       rw [show j - ys.length=0 by omega]at e
       cases e
       exact hP j _ _ _ _ _ py h4 sb
end
end L2
namespace N4
open L2 N1 N5
noncomputable def sp_checkG(K:PySem.W.Frag):Sp:=fun vs H Q _=>∃(n co r:V) (e:Addr) (kvs:List (Key×V)) (ks:List Str),vs=[n,co,r,.ref e]∧H e=some (.dK kvs)∧kvs.map (·.1)=ks.map Sum.inr∧rowR ks n co r=none∧∀H',Same H H'→Q .non H'
noncomputable def sp_initG(K:PySem.W.Frag)(C:Addr):Sp:=fun vs H Q _=>∃(p dx ra:Addr) (rs:List Rw),vs=[.ref p,.ref ra]∧H p=some (.ins C dx [])∧SqL K H ra (rs.map fun t=>V.ref t.1)∧(∀t∈rs,SqT K H t.1 [t.2.1,t.2.2.1,t.2.2.2])∧initR rs=none∧
 ∀H',SameBut p H H'→StockAt K C H' p (rs.map thOf)→Q .non H'
theorem initR_none{rs:List Rw}(h:initR rs=none):rs.length≤60∧stockR [] rs=none:=by
 unfold initR at h
 split at h
 · cases h
 · exact ⟨by omega,h⟩
theorem wIn_ok{lo hi c:Int}(h1:lo≤c)(h2:c≤hi):wIn lo hi (.int c)=true:=by
 show (decide (lo≤c) && decide (c≤hi))=true
 rw [decide_eq_true h1,decide_eq_true h2];rfl
theorem stockR_ok:∀(rs:List Rw) (ks:List Str),(∀t∈rs,∃z c q,t.2.1= .str z∧t.2.2.1= .int c∧t.2.2.2= .int q∧nameB z.cps.toList=true∧0≤c∧c≤10 ^ 30∧1≤q∧q≤1000)→(ks++rs.map fun t=>sOf t.2.1).Nodup→stockR ks rs=none
 | [],_,_,_=>rfl
 | t::rs,ks,h,nd=>by
  obtain ⟨z,c,q,e1,e2,e3,hn,h1,h2,h3,h4⟩:=h t (List.mem_cons_self ..)
  have hz:¬z∈ks:=fun hz=>by
   rw [List.map_cons,List.nodup_append]at nd
   exact nd.2.2 z hz (sOf t.2.1) (List.mem_cons_self ..) (by rw [e1];rfl)
  have r0:rowR ks t.2.1 t.2.2.1 t.2.2.2=none:=by
   unfold rowR
   rw [e1,e2,e3]
   rw [if_neg (by show ¬nameB z.cps.toList=false;rw [hn];decide),if_neg (show ¬sOf (.str z)∈ks from hz),if_neg (by rw [wIn_ok h1 h2];decide),if_neg (by rw [wIn_ok h3 h4];decide)]
  unfold stockR
  rw [r0]
  refine stockR_ok rs _ (fun t' ht=>h t' (List.mem_cons_of_mem _ ht)) ?_
  rw [List.append_assoc]
  exact nd
theorem valV_nth{kvs:List (Key×V)}{i:Nat}{k:Key}{v:V}(nd:(kvs.map (·.1)).Nodup)(e:kvs[i]?=some (k,v)):valV kvs k=some v:=by
 induction kvs generalizing i with
 | nil=>rw [List.getElem?_nil]at e;cases e
 | cons p r ih=>
  cases i with
  | zero=>cases e;exact valV_pos rfl
  | succ i=>
   rw [List.map_cons,List.nodup_cons]at nd
   have hm:(k,v)∈r:=List.mem_of_getElem? e
   rw [valV_neg (fun z=>nd.1 (by rw [z];exact List.mem_map_of_mem (f:=(·.1)) hm))]
   exact ih nd.2 e
theorem inr_nodup{ks:List Str}(h:ks.Nodup):(ks.map (Sum.inr:Str→Key)).Nodup:=by
 unfold List.Nodup at *
 rw [List.pairwise_map]
 exact h.imp fun n e=>n (by injection e)
section
variable {K:PySem.W.Frag} {C:Addr} {H H':Hp} {p:Addr} {ts:List Th} {z:Str}
theorem StockAt.has(h:StockAt K C H p ts):∃dx d kvs,H p=some (.ins C dx (flds d))∧H d=some (.dK kvs)∧(kvs.map fun q=>kV q.1)=ts.map (fun t=>V.str t.1)∧(∀z,(valV kvs (Sum.inr z)).isSome=decide (z∈ts.map (·.1)))∧
 ((ts.map (·.1)).Nodup→∀(i:Nat) (t:Th),ts[i]?=some t→∃a,valV kvs (Sum.inr t.1)=some (.ref a)∧SqT K H a [.int i,.int t.2.1,.int t.2.2]):=by
 obtain ⟨dx,d,kvs,h1,h2,h3,h4⟩:=h.ex
 have h3':kvs.map (·.1)=(ts.map (·.1)).map Sum.inr:=by rw [h3,List.map_map];rfl
 refine ⟨dx,d,kvs,h1,h2,?_,fun z=>key_mem h3',fun nd i t e=>?_⟩
 · have:=congrArg (List.map kV) h3
   rw [List.map_map,List.map_map]at this
   exact this
 · obtain ⟨a,e1,e2⟩:=h4 i t e
   exact ⟨a,valV_nth (by rw [h3'];exact inr_nodup nd) e1,e2⟩
end
noncomputable def pick(w:Nat)(i:Nat)(t:Th):Int:=if w=0 then i else if w=1 then t.2.1 else t.2.2
noncomputable def sp_has(K:PySem.W.Frag)(C:Addr):Sp:=fun vs H Q _=>∃(p:Addr) (ts:List Th) (z:Str),vs=[.ref p,.str z]∧StockAt K C H p ts∧Q (.bl (decide (z∈ts.map (·.1)))) H
noncomputable def sp_nms(K:PySem.W.Frag)(C:Addr):Sp:=fun vs H Q _=>∃(p:Addr) (ts:List Th),vs=[.ref p]∧StockAt K C H p ts∧∀l,H l=none→Q (.ref l) (upd H l (.lst ((ts.map (·.1)).map V.str)))
theorem mem_nth{ts:List Th}{z:Str}(h:z∈ts.map (·.1)):∃(i:Nat) (t:Th),ts[i]?=some t∧t.1=z:=by
 obtain ⟨t,ht,e⟩:=List.mem_map.mp h
 obtain ⟨i,hi⟩:=List.mem_iff_getElem?.mp ht
 exact ⟨i,t,hi,e⟩
end N4
namespace N4
open L2 N1 N5
noncomputable def nm1(c:Int)(G:Nat→Int)(k:Nat):List Nat:=bc ((c+k / 8) % 26)::((List.range 7).map fun j=>bc (G j % 36)).take (k % 8)
theorem nm1_name{c:Int}{G:Nat→Int}{k:Nat}:nameB (nm1 c G k)=true:=by
 have hall:∀x∈nm1 c G k,x∈letters++figures:=by
  intro x hx
  rcases List.mem_cons.mp hx with rfl | hx
  · exact List.mem_append_left _ bc_let
  · obtain ⟨j,_,rfl⟩:=List.mem_map.mp (List.mem_of_mem_take hx)
    exact bc_both
 have hl:(nm1 c G k).length≤8:=by simp [nm1];omega
 have hl1:1≤(nm1 c G k).length:=by simp [nm1]
 unfold nameB
 rw [decide_eq_true hl1,decide_eq_true hl]
 simp only [Bool.true_and]
 rw [show headIn (nm1 c G k) letters=true from decide_eq_true bc_let,Bool.true_and]
 exact List.all_eq_true.mpr fun x hx=>decide_eq_true (hall x hx)
theorem nm1_inj{c:Int}{G:Nat→Int}{k k':Nat}(hk:k < 61)(hk':k' < 61)(h:nm1 c G k=nm1 c G k'):k=k':=by
 unfold nm1 at h
 injection h with h1 h2
 have e1:=bc_inj (by omega) (by omega) (by omega) (by omega) h1
 have e2:=congrArg List.length h2
 simp only [List.length_take,List.length_map,List.length_range]at e2
 omega
theorem tx_nodup{f:Nat→List Nat}{m:Nat}(h:∀a b,a < m→b < m→f a=f b→a=b):((List.range m).map fun k=>tx (f k)).Nodup:=by
 unfold List.Nodup
 rw [List.pairwise_map]
 refine List.Pairwise.imp_of_mem (R:=fun a b=>a≠b) ?_ List.nodup_range
 intro a b ha hb ne e
 exact ne (h a b (List.mem_range.mp ha) (List.mem_range.mp hb) (T_inj e))
structure RowsAt(K:PySem.W.Frag)(H:Hp)(r:Addr)(as:List Addr)(ts:List Th):Prop where
 l:SqL K H r (as.map V.ref)
 n:as.length=ts.length
 m:ts.length≤60
 at_:∀(i:Nat) (a:Addr) (t:Th),as[i]?=some a→ts[i]?=some t→SqT K H a [.str t.1,.int t.2.1,.int t.2.2]
 ok:∀t∈ts,nameB t.1.cps.toList=true∧0≤t.2.1∧t.2.1≤10 ^ 30∧1≤t.2.2∧t.2.2≤1000
 nd:(ts.map (·.1)).Nodup
theorem RowsAt.same{K:PySem.W.Frag}{H H':Hp}{r:Addr}{as:List Addr}{ts:List Th}(s:Same H H')(h:RowsAt K H r as ts):RowsAt K H' r as ts:=
 ⟨s.seq h.l,h.n,h.m,fun i a t e1 e2=>s.tup (h.at_ i a t e1 e2),h.ok,h.nd⟩
theorem slice_to{l:List Nat}{n:Int}(h0:0≤n)(h1:n≤l.length):Txt.slice (tx l) none (some n)=tx (l.take n.toNat):=by
 have h:=slice_closes_toL (x:=tx l) h0 (by rw [T_len];exact h1)
 rw [beq_iff_eq.mp h,T_list]
 show tx _=tx _
 rw [show (0:Int).toNat=0 from rfl,List.drop_zero,Int.sub_zero]
noncomputable def rwOf(a:Addr)(t:Th):Rw:=(a,.str t.1,.int t.2.1,.int t.2.2)
theorem RowsAt.init{K:PySem.W.Frag}{H:Hp}{r:Addr}{as:List Addr}{ts:List Th}(h:RowsAt K H r as ts):∃rs:List Rw,rs.map (fun t=>V.ref t.1)=as.map V.ref∧(∀t∈rs,SqT K H t.1 [t.2.1,t.2.2.1,t.2.2.2])∧initR rs=none∧rs.map thOf=ts:=by
 have hn:=h.n
 have gt:∀(i:Nat) (x:Addr×Th),(as.zip ts)[i]?=some x→as[i]?=some x.1∧ts[i]?=some x.2:=fun i x e=>by
  rw [List.getElem?_zip_eq_some]at e;exact e
 have e1:((as.zip ts).map fun x=>rwOf x.1 x.2).map thOf=ts:=by
  rw [List.map_map]
  have:(thOf∘fun x:Addr×Th=>rwOf x.1 x.2)=Prod.snd:=by funext x;rfl
  rw [this,List.map_snd_zip (by omega)]
 refine ⟨(as.zip ts).map fun x=>rwOf x.1 x.2,?_,?_,?_,e1⟩
 · rw [List.map_map]
   have:((fun t:Rw=>V.ref t.1)∘fun x:Addr×Th=>rwOf x.1 x.2)=V.ref∘Prod.fst:=by funext x;rfl
   rw [this,← List.map_map,List.map_fst_zip (by omega)]
 · intro t ht
   obtain ⟨x,hx,rfl⟩:=List.mem_map.mp ht
   obtain ⟨i,hi⟩:=List.mem_iff_getElem?.mp hx
   obtain ⟨h1,h2⟩:=gt i x hi
   exact h.at_ i x.1 x.2 h1 h2
 · unfold initR
   rw [if_neg (by rw [List.length_map,List.length_zip];have:=h.m;omega)]
   refine stockR_ok _ _ (fun t ht=>?_) ?_
   · obtain ⟨x,hx,rfl⟩:=List.mem_map.mp ht
     obtain ⟨i,hi⟩:=List.mem_iff_getElem?.mp hx
     obtain ⟨h1,h2⟩:=gt i x hi
     obtain ⟨o1,o2,o3,o4,o5⟩:=h.ok x.2 (List.mem_of_getElem? h2)
     exact ⟨x.2.1,x.2.2.1,x.2.2.2,rfl,rfl,rfl,o1,o2,o3,o4,o5⟩
   · rw [List.nil_append,List.map_map]
     have:((fun t:Rw=>sOf t.2.1)∘fun x:Addr×Th=>rwOf x.1 x.2)=(fun t:Th=>t.1)∘Prod.snd:=by funext x;rfl
     rw [this,← List.map_map,List.map_snd_zip (by omega)]
     exact h.nd
end N4
namespace N6
open L2 N1 N5 N4
noncomputable def sfl(p d:Addr)(n:Int):List (Str×V):=putF "rooms" (.ref d) (putF "places" (.int n) (putF "stock" (.ref p) []))
theorem sfl_stock{p d:Addr}{n:Int}:(sfl p d n).lookup ("stock":Str)=some (V.ref p):=by
 unfold sfl
 rw [lookup_putF,if_neg (by decide),lookup_putF,if_neg (by decide),lookup_putF,if_pos rfl]
theorem sfl_places{p d:Addr}{n:Int}:(sfl p d n).lookup ("places":Str)=some (V.int n):=by
 unfold sfl
 rw [lookup_putF,if_neg (by decide),lookup_putF,if_pos rfl]
theorem sfl_rooms{p d:Addr}{n:Int}:(sfl p d n).lookup ("rooms":Str)=some (V.ref d):=by
 unfold sfl
 rw [lookup_putF,if_pos rfl]
noncomputable abbrev Ly:=List (Str×Int)
noncomputable def lyK(ls:Ly):List (Key×V):=ls.map fun x=>(Sum.inr x.1,.int x.2)
noncomputable def lyN(ls:Ly):List Str:=ls.map (·.1)
noncomputable def lyS(ls:Ly):Int:=(ls.map (·.2)).sum
structure ShelfAt(S:Addr)(H:Hp)(q p d:Addr)(n:Int)(ls:Ly):Prop where
 o:∃dx,H q=some (.ins S dx (sfl p d n))
 d:H d=some (.dK (lyK ls))
 nd:(lyN ls).Nodup
theorem ShelfAt.same{S:Addr}{H H':Hp}{q p d:Addr}{n:Int}{ls:Ly}(s:Same H H')(h:ShelfAt S H q p d n ls):ShelfAt S H' q p d n ls:=
 ⟨h.o.imp fun _ e=>s _ _ e,s _ _ h.d,h.nd⟩
structure StockX(K:PySem.W.Frag)(C:Addr)(H:Hp)(p:Addr)(ts:List Th)(d:Addr):Prop where
 ex:∃(dx e:Addr) (kvs:List (Key×V)),e≠d∧H p=some (.ins C dx (flds e))∧H e=some (.dK kvs)∧kvs.map (·.1)=ts.map (fun t=>Sum.inr t.1)∧
  ∀(i:Nat) (t:Th),ts[i]?=some t→∃a,kvs[i]?=some (Sum.inr t.1,.ref a)∧SqT K H a [.int i,.int t.2.1,.int t.2.2]
section
variable {K:PySem.W.Frag} {C S:Addr} {H H':Hp} {p q d:Addr} {ts:List Th} {n:Int} {ls:Ly} {z:Str}
theorem StockX.at(h:StockX K C H p ts d):StockAt K C H p ts:=by
 obtain ⟨dx,e,kvs,_,r⟩:=h.ex
 exact ⟨dx,e,kvs,r⟩
theorem StockX.of(h:StockAt K C H p ts)(hd:H d=none):StockX K C H p ts d:=by
 obtain ⟨dx,e,kvs,h1,h2,r⟩:=h.ex
 exact ⟨dx,e,kvs,ne_of_none h2 hd,h1,h2,r⟩
theorem StockX.same(s:Same H H')(h:StockX K C H p ts d):StockX K C H' p ts d:=by
 obtain ⟨dx,e,kvs,n,h1,h2,h3,h4⟩:=h.ex
 refine ⟨dx,e,kvs,n,s _ _ h1,s _ _ h2,h3,fun i t q=>?_⟩
 obtain ⟨a,e1,e2⟩:=h4 i t q
 exact ⟨a,e1,s.tup e2⟩
theorem SqT.butD{a:Addr}{xs:List V}{kvs:List (Key×V)}(s:SameBut d H H')(hd:H d=some (.dK kvs))(h:SqT K H a xs):SqT K H' a xs:=by
 rcases h with (h | ⟨o,h⟩) | h
 · exact .inl (.inl (s _ _ h (ne_of h hd (by intro z;cases z))))
 · exact .inl (.inr ⟨o,s _ _ h (ne_of h hd (by intro z;cases z))⟩)
 · exact .inr h
theorem SqL.butD{a:Addr}{xs:List V}{kvs:List (Key×V)}(s:SameBut d H H')(hd:H d=some (.dK kvs))(h:SqL K H a xs):SqL K H' a xs:=by
 rcases h with (h | ⟨o,h⟩) | h
 · exact .inl (.inl (s _ _ h (ne_of h hd (by intro z;cases z))))
 · exact .inl (.inr ⟨o,s _ _ h (ne_of h hd (by intro z;cases z))⟩)
 · exact .inr h
theorem ShelfAt.butL{l:Addr}{zs:List V}(s:SameBut l H H')(hl:H l=some (.lst zs))(h:ShelfAt S H q p d n ls):ShelfAt S H' q p d n ls:=
 ⟨h.o.imp fun _ e=>s _ _ e (ne_of e hl (by intro z;cases z)),s _ _ h.d (ne_of h.d hl (by intro z;cases z)),h.nd⟩
theorem lyK_map:(lyK ls).map (·.1)=(lyN ls).map Sum.inr:=by unfold lyK lyN;rw [List.map_map,List.map_map];rfl
theorem lyK_names:((lyK ls).map fun x=>kV x.1)=(lyN ls).map V.str:=by unfold lyK lyN;rw [List.map_map,List.map_map];rfl
theorem lyK_vals:(lyK ls).map (·.2)=(ls.map (·.2)).map V.int:=by unfold lyK;rw [List.map_map,List.map_map];rfl
theorem lyK_mem:(valV (lyK ls) (Sum.inr z)).isSome=decide (z∈lyN ls):=key_mem lyK_map
theorem lyK_put{r:Int}(h:¬z∈lyN ls):putK (lyK ls) (Sum.inr z) (.int r)=lyK (ls++[(z,r)]):=by
 have hv:valV (lyK ls) (Sum.inr z:Key)=none:=by
  have:=lyK_mem (ls:=ls) (z:=z)
  rw [decide_eq_false h]at this
  cases hv:valV (lyK ls) (Sum.inr z:Key) with
  | none=>rfl
  | some v=>rw [hv]at this;cases this
 rw [putK_new _ hv]
 unfold lyK
 rw [List.map_append]
 rfl
noncomputable def lyD(ls:Ly)(z:Str):Ly:=ls.filter fun x=>decide (x.1≠z)
theorem lyK_drop:dropK (lyK ls) (Sum.inr z)=lyK (lyD ls z):=by
 unfold dropK lyK lyD
 rw [List.filter_map]
 congr 1
 refine List.filter_congr fun x _=>?_
 show decide ((Sum.inr x.1:Key)≠Sum.inr z)=decide (x.1≠z)
 exact decide_eq_decide.mpr ⟨fun h e=>h (by rw [e]),fun h e=>h (by injection e)⟩
theorem lyD_names(nd:(lyN ls).Nodup):lyN (lyD ls z)=(lyN ls).erase z:=by
 unfold lyN lyD at *
 rw [List.Nodup.erase_eq_filter nd,List.filter_map]
 congr 1
 refine List.filter_congr fun x _=>?_
 by_cases h:x.1=z
 · simp [h]
 · simp [h]
end
theorem ShelfAt.put{S:Addr}{H H1:Hp}{q p d:Addr}{n:Int}{ls:Ly}{z:Str}{r:Int}(h:ShelfAt S H q p d n ls)(s:Same H H1)(hz:¬z∈lyN ls):ShelfAt S (upd H1 d (.dK (putK (lyK ls) (Sum.inr z) (.int r)))) q p d n (ls++[(z,r)]):=by
 obtain ⟨dx,ho⟩:=h.o
 have h1:=s _ _ ho
 have h2:=s _ _ h.d
 refine ⟨⟨dx,by rw [upd_ne (ne_of h1 h2 (by intro z;cases z))];exact h1⟩,by rw [upd_same,lyK_put hz],?_⟩
 have e:lyN (ls++[(z,r)])=lyN ls++[z]:=by unfold lyN;rw [List.map_append];rfl
 rw [e,List.nodup_append]
 exact ⟨h.nd,by simp,fun a ha b hb e=>hz (by rw [List.mem_singleton.mp hb]at e;rw [← e];exact ha)⟩
theorem ShelfAt.cast{S:Addr}{H:Hp}{q p d:Addr}{n:Int}{ls:Ly}{z:Str}(h:ShelfAt S H q p d n ls):ShelfAt S (upd H d (.dK (dropK (lyK ls) (Sum.inr z)))) q p d n (lyD ls z):=by
 obtain ⟨dx,ho⟩:=h.o
 refine ⟨⟨dx,by rw [upd_ne (ne_of ho h.d (by intro z;cases z))];exact ho⟩,by rw [upd_same,lyK_drop],?_⟩
 rw [lyD_names h.nd]
 exact h.nd.erase z
noncomputable def sp_sinit(S:Addr):Sp:=fun vs H Q _=>∃(q dx p:Addr) (n:Int),vs=[.ref q,.ref p,.int n]∧H q=some (.ins S dx [])∧1≤n∧n≤1000000∧∀H' d,SameBut q H H'→H d=none→ShelfAt S H' q p d n []→Q .non H'
noncomputable def sp_lying(S:Addr):Sp:=fun vs H Q _=>∃(q p d:Addr) (n:Int) (ls:Ly),vs=[.ref q]∧ShelfAt S H q p d n ls∧∀l,H l=none→Q (.ref l) (upd H l (.lst ((lyN ls).map V.str)))
noncomputable def sp_holds(S:Addr):Sp:=fun vs H Q _=>∃(q p d:Addr) (n:Int) (ls:Ly) (z:Str),vs=[.ref q,.str z]∧ShelfAt S H q p d n ls∧Q (.bl (decide (z∈lyN ls))) H
noncomputable def sp_left(S:Addr):Sp:=fun vs H Q _=>∃(q p d:Addr) (n:Int) (ls:Ly),vs=[.ref q]∧ShelfAt S H q p d n ls∧∀H',Same H H'→Q (.int (n - lyS ls)) H'
end N6
namespace N6
open L2 N1 N5 N4
theorem getD_str{ys:List Str}{i:Nat}(h:i < ys.length):ys[i]?=some (ys.getD i Str.empty):=by
 rw [List.getD_eq_getElem?_getD,List.getElem?_eq_getElem h];rfl
noncomputable def aOf:V→Addr
 | .ref a=>a
 | _=>0
noncomputable def sp_mix:Sp:=fun vs H Q _=>∃c k:Int,vs=[.int c,.int k]∧0≤k∧k≤1000∧∀v:Int,0≤v→Q (.int v) H
end N6
namespace L2
theorem Inv.turned2{X:Cx}{pins:List (Addr×Obj)}{σ:St}{H:Hp}{s:Shared}{h':Heap}{t':Nat}{fp:List Addr}(I:Inv X pins σ H s)(k:∀b o,b∉fp→s.heap.get? b=some o→h'.get? b=some o)(hf:∀it∈fp,FpOk X pins H it):
 Inv X pins σ H {s with heap:=h',toks:=t'}:=by
 have nit:∀b u,H b=some u→b∉fp:=fun b u e z=>by rw [(hf b z).1]at e;cases e
 refine I.step (g':=s.gens) (d':=s.drawn) (ch:=fp) (fun b hb=>?_) (fun b o _ _ hc e _=>k b o hc e) (fun b o _ _ hc e _=>⟨o.slots,k b o hc e⟩) (fun _ _ _ _ n=>n)
  (fun b o hc e=>⟨o,k b o hc e⟩) (fun _ _ e=>e) (fun _ _ _ e=>e) (fun b ps e=>⟨#[],by rw [e];simp⟩) (fun m hm=>?_) (fun b u e=>?_) I.bare
 · obtain ⟨_,h1,_,h2,h3,h4⟩:=hf b hb
   exact ⟨h2,h1,h3,h4⟩
 · obtain ⟨o,es,ep,ho,r⟩:=hm
   exact ⟨o,es,ep,k _ o (fun z=>(hf _ z).2.1 rfl) ho,r⟩
 · refine (I.hok b u e).stay (fun c v hc q=>k c v ?_ q) (fun _ q=>q) fun _ _ q=>q
   rcases hc with z | z
   · rw [z];exact nit b u e
   · exact nit c _ z
noncomputable def Ite(K:PySem.W.Frag)(a:Addr):It:=
 ⟨fun i H=>∃xs x,SqL K H a xs∧xs[i]?=some x,fun i H y H'=>∃t x,y= .ref t∧H t=none∧H'=upd H t (.tup [.int i,x])∧∀xs,SqL K H a xs→xs[i]?=some x,fun i H=>∃xs,SqL K H a xs∧xs.length≤i⟩
noncomputable def tnE(e it a:Addr)(i:Nat)(h:Heap):Prop:=(∃old,IsEnum h e it i old)∧h.IsListIter it a i
theorem turn_enum{P:Program}{w:World}{K:PySem.W.Frag}{es:List Expr}{k:Nat}{pos:Pos}(a e it:Addr)(ne:e≠it):Turn P w K (.Tuple es k pos) (Ite K a) [e,it] e (tnE e it a) where
 mem:=by simp
 obj:=fun i h st b hb=>by
  obtain ⟨⟨old,h1⟩,o,h2,c,d⟩:=st
  have hb:b=e∨b=it:=by simpa using hb
  rcases hb with rfl | rfl
  · exact ⟨_,h1,fun v z=>by cases z⟩
  · exact ⟨o,h2,fun v z=>by rw [d]at z;cases z⟩
 keep:=fun i h h' st kk=>by
  obtain ⟨⟨old,h1⟩,h2⟩:=st
  exact ⟨⟨old,kk e (by simp) _ h1⟩,h2.at fun o q=>kk it (by simp) o q⟩
 item:=by
  intro X hP hw hK hc i pins s σ H E I hf st hg
  subst hP hw hK
  obtain ⟨xs,x,hq,hx⟩:=hg
  obtain ⟨its,rv,p,hz⟩:=I.list hq
  obtain ⟨u,hu,ru⟩:=rv.get hx
  obtain ⟨⟨old,h1⟩,h2⟩:=st
  have hlt:e < s.heap.objs.size:=Heap.lt_size h1
  have hit:it < s.heap.objs.size:=by obtain ⟨o,q,_⟩:=id h2;exact Heap.lt_size q
  refine wpAny_pyNext_enum_item h1 h2 p.isList (x:=u) (by simpa using hu) ne fun h' eo it' ht hs hk=>?_
  refine ⟨_,rfl,wpAny_letOwnedTupleGo_enum (s:={s with heap:=h',toks:=s.toks+1}) eo fun h3 e3 sb=>?_⟩
  have hf0:H s.heap.objs.size=none:=I.hok.fresh (Nat.le_refl _)
  have nt:∀b∈[e,it],b≠s.heap.objs.size:=fun b hb=>by
   have hb:b=e∨b=it:=by simpa using hb
   rcases hb with rfl | rfl
   · exact Nat.ne_of_lt hlt
   · exact Nat.ne_of_lt hit
  have I0:Inv X pins σ (upd H s.heap.objs.size (.tup [.int i,x])) {s with heap:=s.heap.push {cls:= .type "tuple",data:= .seq #[.int i s.toks,u]},toks:=s.toks+1}:=
   I.laid (fun b u e=>Heap.get?_push_of_some _ e) (Nat.le_refl _) ⟨by simp [sizeLine];try decide,[.int i s.toks,u],.cons ⟨_,rfl⟩ (.cons ru .nil),⟨_,Heap.get?_push_size _ rfl,rfl,_,rfl⟩⟩
  have hfp:∀b∈[e,it],FpOk X pins (upd H s.heap.objs.size (.tup [.int i,x])) b:=fun b hb=>by
   obtain ⟨f0,f1,f2,f3,f4,f5⟩:=hf b hb
   exact ⟨by rw [upd_ne (nt b hb)];exact f0,f1,f2,f3,f4,f5⟩
  have I1:Inv X pins σ (upd H s.heap.objs.size (.tup [.int i,x])) {s with heap:=h3,toks:=s.toks+1}:=by
   refine Inv.turned2 (s:={s with heap:=s.heap.push {cls:= .type "tuple",data:= .seq #[.int i s.toks,u]},toks:=s.toks+1}) (t':=s.toks+1) I0 (fun b o hb q=>?_) hfp
   have hb':b≠e∧b≠it:=by simpa using hb
   refine (sb.2 b hb'.1).trans ?_
   rcases Heap.get?_push_cases q with ⟨rfl,rfl⟩ | q2
   · exact ht
   · exact hk b o hb'.1 hb'.2 q2
  refine ⟨.ref s.heap.objs.size,upd H s.heap.objs.size (.tup [.int i,x]),I1,rfl,⟨_,x,rfl,hf0,rfl,fun ys hy=>by rw [I.list_inj hy hq];exact hx⟩,⟨⟨u,?_⟩,?_⟩,fun b hb=>(hfp b hb).1⟩
  · show IsEnum h3 e it ((i+1:Nat):Int) u
    rw [show ((i+1:Nat):Int)=(i:Int)+1 from rfl]
    exact e3
  · exact it'.at fun o q=>(sb.2 it (Ne.symm ne)).trans q
 done:=by
   intro X hP hw hK hc i pins s σ H E I hf st hg
   subst hP hw hK
   obtain ⟨xs,hq,hx⟩:=hg
   obtain ⟨its,rv,p,hz⟩:=I.list hq
   obtain ⟨⟨old,h1⟩,h2⟩:=st
   have hl:=rv.length
   exact wpAny_pyNext_enum_end (I.ok.hd hc) h1 h2 p.isList (by simp;omega) fun h' eb=>⟨rfl,Inv.turned2 (t':=s.toks) I (fun b o hb q=>eb b o (fun z=>hb (by simp [z])) q) hf⟩
 self:=fun _ _ _ _ _ st h=>wpAny_pyIter_enum st.1.choose_spec h
section
variable {X:Cx}
noncomputable def iEnum(K:PySem.W.Frag)(ta:TA):TI:=fun σ H R=>ta σ H fun vs H1=>∃a,vs=[.ref a]∧(∃xs,SqL K H1 a xs)∧R (Ite K a) H1
theorem pi_enum{l:Expr}{ta:TA}{p pos pp:Pos}{es:List Expr}{k:Nat}(hg:Gl X "enumerate")(hm:X.mg "enumerate"=none)(ha:PA X [l] ta)(hs:starEach [l] X.env=[(false,eval l X.env)]:=by rfl):PI X (.Tuple es k pp) (.Call (.Name "enumerate" p) [l] [] pos) (iEnum X.K ta):=by
 intro pins s σ H R I h
 refine Call_ (ld_blt I hg hm boot_enumerate (PyProof.Rows.callWith_type1 (thn (ha pos pins s σ H _ I h) fun us s1 hq_=>?_) hs rfl))
 obtain ⟨vs,H1,I1,r1,q1⟩:=hq_
 obtain ⟨a,e,⟨xs,hq⟩,q⟩:=q1
 subst e
 cases r1 with
 | cons r rr=>
  cases rr
  cases r
  obtain ⟨its,rv,p',hz⟩:=I1.list hq
  refine call_enumerate_list p'.isList fun h' h1 h2 h3 h4=>?_
  refine wpAny_pyIter_enum h1 ?_
  refine ⟨_,[s1.heap.objs.size+1,s1.heap.objs.size],_,_,H1,rfl,I1.kept (t':=s1.toks) h4,turn_enum a _ _ (Nat.succ_ne_self _),⟨⟨_,h1⟩,h2⟩,fun b hb=>?_,q⟩
  have hb:b=s1.heap.objs.size+1∨b=s1.heap.objs.size:=by simpa using hb
  rcases hb with rfl | rfl
  · exact I1.fpOk (Nat.le_succ _) (I1.hok.fresh (Nat.le_succ _))
  · exact I1.fpOk (Nat.le_refl _) (I1.hok.fresh (Nat.le_refl _))
end
section
variable {K:PySem.W.Frag} {σ:St} {H:Hp} {D:Ends}
theorem rd_ienum{ta:TA}{R:It→Hp→Prop}:iEnum K ta σ H R=ta σ H fun vs H1=>∃a,vs=[.ref a]∧(∃xs,SqL K H1 a xs)∧R (Ite K a) H1:=rfl
theorem forE_by{a:Addr}{xs:List V}{g:TG}{tb:TS}(Pv:Nat→St→Hp→Prop)(h0:Pv 0 σ H)(hl:∀i σ H,i≤xs.length→Pv i σ H→SqL K H a xs)
 (hs:∀i x σ H t,xs[i]?=some x→Pv i σ H→H t=none→g (.ref t) σ (upd H t (.tup [.int i,x])) fun σ2 H2=>tb {D with nx:=Pv (i+1),ct:=Pv (i+1),bk:=D.nx} σ2 H2) (hd:∀σ H,Pv xs.length σ H→D.nx σ H):ForTail g tb D σ (Ite K a) H:=by
 refine ⟨fun i m σ H=>i≤xs.length∧m=xs.length - i∧Pv i σ H,⟨_,Nat.zero_le _,rfl,h0⟩,fun i m σ H ⟨hi,hm,hP⟩=>?_⟩
 have hq:=hl i σ H hi hP
 cases hx:xs[i]? with
 | none=>
  have hn:xs.length≤i:=by simpa using hx
  have e:i=xs.length:=Nat.le_antisymm hi hn
  subst e
  exact .inl ⟨⟨xs,hq,Nat.le_refl _⟩,hd σ H hP⟩
 | some x=>
  have hlt:i < xs.length:=(List.getElem?_eq_some_iff.mp hx).1
  refine .inr ⟨⟨xs,x,hq,hx⟩,Pv (i+1),fun σ' H' h=>⟨xs.length - (i+1),by omega,by omega,rfl,h⟩,?_⟩
  rintro y H' ⟨t,x',rfl,ht,rfl,hy⟩
  have e:=(hy xs hq).symm.trans hx
  cases e
  exact hs i x σ H t hx hP ht
end
end L2
namespace L2
noncomputable def Itz(K:PySem.W.Frag)(a b:Addr):It:=
 ⟨fun i H=>∃xs ys x y,SqL K H a xs∧SqL K H b ys∧xs[i]?=some x∧ys[i]?=some y,fun i H v H'=>∃t x y,v= .ref t∧H t=none∧H'=upd H t (.tup [x,y])∧(∀xs,SqL K H a xs→xs[i]?=some x)∧∀ys,SqL K H b ys→ys[i]?=some y,
  fun i H=>∃xs ys,SqL K H a xs∧SqL K H b ys∧(xs.length≤i∨ys.length≤i)⟩
section
variable {X:Cx}
noncomputable def iZip(K:PySem.W.Frag)(ta:TA):TI:=fun σ H R=>ta σ H fun vs H1=>∃a b,vs=[.ref a,.ref b]∧(∃xs,SqL K H1 a xs)∧(∃ys,SqL K H1 b ys)∧R (Itz K a b) H1
end
section
variable {K:PySem.W.Frag} {σ:St} {H:Hp} {D:Ends}
theorem rd_izip{ta:TA}{R:It→Hp→Prop}:iZip K ta σ H R=ta σ H fun vs H1=>∃a b,vs=[.ref a,.ref b]∧(∃xs,SqL K H1 a xs)∧(∃ys,SqL K H1 b ys)∧R (Itz K a b) H1:=rfl
end
end L2
namespace L2
noncomputable abbrev tComp1I(wi:TI)(fs:List Nat)(tt:Blk→TT)(te:Blk→TE):TE:=tComp wi 1 fs (fun _=>gName 0) tt te
noncomputable abbrev g2(K:PySem.W.Frag):Blk→TG:=fun _=>gTup K 2 (gCons (gName 0) (gCons (gName 1) gNil))
noncomputable abbrev tComp2(K:PySem.W.Frag)(wi:TI)(fs:List Nat)(tt:Blk→TT)(te:Blk→TE):TE:=tComp wi 2 fs (g2 K) tt te
section
variable {X:Cx} {scope:Scope} {x y:Str} {px py pt:Pos} {n:Nat} {fs:List Nat} {elt iter c:Expr} {pos:Pos} {wi:TI} {tt:Blk→TT} {te:Blk→TE}
theorem pe_compI(x:Str)(fs:List Nat)(hc:X.calm=true)(hok:compOkB X.N X.env.scope scope [x] fs=true)(hi:PI X (.Name x px) iter wi)(ht:∀b,PT (X.blk scope ([x]++around X.N fs) b) c (tt b))(he:∀b,PE (X.blk scope ([x]++around X.N fs) b) elt (te b))
 (hs:∀x,foldedSetIterable iter X.env x=pure x:=by intro _;rfl):PE X (.ListComp elt [⟨.Name x px,iter,[c],0⟩] scope pos) (tComp1I wi fs tt te):=
 pe_compG (xs:=[x]) (g:=fun _=>gName 0) (tt:=tt) hc hok hi (pg_own hok) (fun b=>pts_one (ht b)) he hs
theorem pg_own2(hc:X.calm=true)(hok:compOkB X.N X.env.scope scope [x,y] fs=true)(b:Blk):PG (X.blk scope ([x,y]++around X.N fs) b) (.Tuple [.Name x px,.Name y py] n pt) (g2 X.K b):=by
 have O:=compOk_of hok
 refine pg_tup (X:=X.blk scope ([x,y]++around X.N fs) b) hc (pgs_cons (pg_name O.nd rfl (.inl (lookup_relabel_local (O.own x (by simp)))) (.inr (lookup_relabel_local (O.own x (by simp)))))
  (pgs_cons (pg_name O.nd rfl (.inl (lookup_relabel_local (O.own y (by simp)))) (.inr (lookup_relabel_local (O.own y (by simp))))) pgs_nil))
end
section
variable {K:PySem.W.Frag} {tail:St} {tt:Blk→TT} {te:Blk→TE} {Q:VK} {H1:Hp} {σ:St} {H:Hp}
theorem rd_compI{wi:TI}{fs:List Nat}:tComp1I wi fs tt te σ H Q=wi σ H (CompTail (none::fs.map fun j=>σ.getD j none) (fun _=>gName 0) tt te Q):=rfl
theorem rd_comp2{wi:TI}{fs:List Nat}:tComp2 K wi fs tt te σ H Q=wi σ H (CompTail (none::none::fs.map fun j=>σ.getD j none) (g2 K) tt te Q):=rfl
theorem kept2{x y:Option V}{r:St}:Kept (none::none::r) (x::y::r):=fun i v e=>by
 match i with
 | 0=>cases e
 | 1=>cases e
 | i+2=>exact e
theorem same_put{H H':Hp}{p:Addr}{o:HO}(s:Same H H')(h:H p=none):Same H (upd H' p o):=fun b u e=>by
 rw [upd_ne (ne_of_none e h)];exact s b u e
theorem compL_2{a:Addr}{as:List Addr}(x1 x2:Nat→V)(p:Nat→Bool)(f:Nat→V)(hS:SqL K H1 a (as.map V.ref))(hz:as.length≤sizeLine)(hT:∀i c,as[i]?=some c→SqT K H1 c [x1 i,x2 i])
 (ht:∀b i H QT,i < as.length→Same H1 H→(∀H',Same H H'→QT (p i) H')→tt b (some (x1 i)::some (x2 i)::tail) H QT)
 (he:∀b i H Q',i < as.length→p i=true→Same H1 H→(∀H',Same H H'→Q' (f i) H')→te b (some (x1 i)::some (x2 i)::tail) H Q')
 (q:∀D H',H1 D=none→Same H1 H'→H' D=some (.lst (((List.range as.length).filter p).map f))→Q (.ref D) H'):CompTail (none::none::tail) (g2 K) tt te Q (Itl K a) H1:=by
 intro b D hD
 refine ⟨fun i m ys H=>m=as.length - i∧i≤as.length∧ys=((List.range i).filter p).map f∧H D=some (.lst ys)∧Same H1 H,⟨_,rfl,Nat.zero_le _,rfl,upd_same,same_new hD⟩,?_⟩
 rintro i m ys H ⟨rfl,hi,rfl,hd,sm⟩
 refine ⟨hd,?_⟩
 by_cases hlt:i < as.length
 · refine .inr ⟨⟨_,V.ref as[i],sm.seq hS,by simp [hlt]⟩,fun x H3 ⟨e3,ex⟩=>?_⟩
   subst e3
   have hx:=ex _ (sm.seq hS)
   have hx':V.ref as[i]=x:=by simpa [hlt] using hx
   subst hx'
   have hl:(((List.range i).filter p).map f).length≤i:=by
    rw [List.length_map];exact Nat.le_trans (List.length_filter_le _ _) (by rw [List.length_range];omega)
   have htk:(List.range (i+1)).filter p=(List.range i).filter p++[i].filter p:=by rw [List.range_succ,List.filter_append]
   refine ⟨as[i],_,rfl,sm.tup (hT i _ (by simp [hlt])),rfl,_,_,rfl,_,_,rfl,rfl,kept2,?_⟩
   refine ht b i _ _ hlt sm fun H7 s7=>?_
   by_cases hp:p i=true
   · rw [if_pos hp]
     refine he b i H7 _ hlt hp (sm.trans s7) fun H8 s8=>?_
     have hd8:=(s7.trans s8) _ _ hd
     refine ⟨hd8,by omega,as.length - (i+1),by omega,rfl,hlt,?_,upd_same,same_put ((sm.trans s7).trans s8) hD⟩
     rw [htk,List.filter_cons_of_pos hp,List.filter_nil,List.map_append];rfl
   · rw [if_neg hp]
     refine ⟨as.length - (i+1),by omega,rfl,hlt,?_,s7 _ _ hd,sm.trans s7⟩
     rw [htk,List.filter_cons_of_neg hp,List.filter_nil,List.append_nil]
 · have e:i=as.length:=by omega
   subst e
   exact .inl ⟨⟨_,sm.seq hS,by simp⟩,q D H hD sm hd⟩
end
end L2
namespace L2
section
variable {X:Cx} {scope:Scope} {x y v:Str} {px py pt pv':Pos} {n i:Nat} {fs:List Nat} {elt iter c:Expr} {pos spos:Pos} {wi:TI} {tt:Blk→TT} {te:Blk→TE}
theorem ps_comp2(x y:Str)(fs:List Nat)(hN:X.N.Nodup)(hy:X.N[i]?=some v)(hyl:X.env.kindOf v=some .local)(hc:X.calm=true)(hok:compOkB X.N X.env.scope scope [x,y] fs=true)(hi:PI X (.Tuple [.Name x px,.Name y py] n pt) iter wi)(he:∀b,PE (X.blk scope ([x,y]++around X.N fs) b) elt (te b))
 (hsw:swapsWith (.ListComp elt [⟨.Tuple [.Name x px,.Name y py] n pt,iter,[],0⟩] scope pos) (some (.Name v pv')) spos.line X.env=pure true:=by rfl)
 (hs:∀x,foldedSetIterable iter X.env x=pure x:=by intro _;rfl):PS X (.Assign [.Name v pv'] (.ListComp elt [⟨.Tuple [.Name x px,.Name y py] n pt,iter,[],0⟩] scope pos) spos) (tAsg (tComp2 X.K wi fs (fun _=>tYes) te) (gName i)):=
 ps_comp (xs:=[x,y]) (g:=g2 X.K) (tt:=fun _=>tYes) hN hy hyl hc hok hi (pg_own2 hc hok) (fun _=>pts_nil) he hsw hs
end
end L2
namespace L2
noncomputable def itemsO(v d:Addr):HO:= .ext fun h=>h.IsItemsView v d
noncomputable def Iti(o:Obj)(d:Addr):It:=
 ⟨fun i H=>∃kvs p,H d=some (.frz o (.dK kvs))∧kvs[i]?=some p,fun i H v H'=>∃t k x,v= .ref t∧H t=none∧H'=upd H t (.tup [kV k,x])∧∀kvs,H d=some (.frz o (.dK kvs))→kvs[i]?=some (k,x),
  fun i H=>∃kvs,H d=some (.frz o (.dK kvs))∧kvs.length≤i⟩
section
variable {X:Cx}
noncomputable def rItems:V→List V→Hp→VK→Prop:=fun x vs H Q=>∃a kvs,x= .ref a∧vs=[]∧H a=some (.dK kvs)∧∀v,H v=none→Q (.ref v) (upd H v (itemsO v a))
noncomputable def iView(tv:TE):TI:=fun σ H R=>tv σ H fun x H1=>∃v d kvs,x= .ref v∧H1 v=some (itemsO v d)∧H1 d=some (.dK kvs)∧∀o,R (Iti o d) (upd H1 d (.frz o (.dK kvs)))
end
section
variable {K:PySem.W.Frag} {tail:St} {te:Blk→TE} {Q:VK} {H1:Hp} {σ:St} {H:Hp}
theorem rd_items{x:V}{vs:List V}:rItems x vs H Q=∃a kvs,x= .ref a∧vs=[]∧H a=some (.dK kvs)∧∀v,H v=none→Q (.ref v) (upd H v (itemsO v a)):=rfl
theorem rd_iview{tv:TE}{R:It→Hp→Prop}:iView tv σ H R=tv σ H fun x H1=>∃v d kvs,x= .ref v∧H1 v=some (itemsO v d)∧H1 d=some (.dK kvs)∧∀o,R (Iti o d) (upd H1 d (.frz o (.dK kvs))):=rfl
end
end L2
namespace N08
open PySem PySem.Builtin PySem.Builtin.Str PySem.StrLaws
open PySem.NumText
end N08
namespace L2
noncomputable abbrev g3(K:PySem.W.Frag):Blk→TG:=fun _=>gTup K 3 (gCons (gName 0) (gCons (gName 1) (gCons (gName 2) gNil)))
noncomputable abbrev tComp3(K:PySem.W.Frag)(wi:TI)(fs:List Nat)(te:Blk→TE):TE:=tComp wi 3 fs (g3 K) (fun _=>tYes) te
section
variable {K:PySem.W.Frag} {tail:St} {te:Blk→TE} {Q:VK} {H1:Hp} {σ:St} {H:Hp}
theorem rd_comp3{wi:TI}{fs:List Nat}:tComp3 K wi fs te σ H Q=wi σ H (CompTail (none::none::none::fs.map fun j=>σ.getD j none) (g3 K) (fun _=>tYes) te Q):=rfl
end
end L2
namespace N8
open L2 N1 N5 N08
theorem put_keys{kvs:List (Key×V)}{ks:List Str}{z:Str}{v:V}(h:kvs.map (·.1)=ks.map Sum.inr)(nz:¬z∈ks):(putK kvs (Sum.inr z) v).map (·.1)=(ks++[z]).map Sum.inr:=by
 have hv:valV kvs (Sum.inr z:Key)=none:=by
  have:=key_mem (z:=z) h
  rw [decide_eq_false nz]at this
  cases h:valV kvs (Sum.inr z:Key) with
  | none=>rfl
  | some v=>rw [h]at this;cases this
 rw [putK_new _ hv,List.map_append,h]
 simp
end N8
namespace N12
open L2 N1 N5 N4 N6
noncomputable def sp12_names:Sp:=fun vs H Q _=>∃(i:Int) (m:Nat),vs=[.int i,.int m]∧m≤26∧∀(p:Addr) (ys:List Str) (H':Hp),H p=none→Same H H'→H' p=some (.lst (ys.map V.str))→ys.length≤m→m≤ys.length→ys.Nodup→(∀y∈ys,nameB y.cps.toList=true)→Q (.ref p) H'
end N12
namespace N6
open L2 N1 N5 N4
noncomputable def sp_thingG(K:PySem.W.Frag)(C:Addr):Sp:=fun vs H Q _=>∃(p:Addr) (ts:List Th) (z:Str),vs=[.ref p,.str z]∧StockAt K C H p ts∧(ts.map (·.1)).Nodup∧z∈ts.map (·.1)∧∀(i:Nat) (t:Th),ts[i]?=some t→t.1=z→∀a,SqT K H a [.int i,.int t.2.1,.int t.2.2]→Q (.ref a) H
noncomputable def sp_roomG(K:PySem.W.Frag)(C:Addr):Sp:=fun vs H Q _=>∃(p:Addr) (ts:List Th) (z:Str),vs=[.ref p,.str z]∧StockAt K C H p ts∧(ts.map (·.1)).Nodup∧z∈ts.map (·.1)∧∀(i:Nat) (t:Th),ts[i]?=some t→t.1=z→Q (.int t.2.2) H
noncomputable def sp_putG(K:PySem.W.Frag)(C S:Addr):Sp:=fun vs H Q _=>∃(q p d:Addr) (n:Int) (ls:Ly) (ts:List Th) (z:Str) (r:Int),vs=[.ref q,.str z]∧ShelfAt S H q p d n ls∧StockX K C H p ts d∧(ts.map (·.1)).Nodup∧ls.length≤1000∧
 z∈ts.map (·.1)∧(∀t∈ts,t.1=z→t.2.2=r)∧¬z∈lyN ls∧r≤n - lyS ls∧∀H',SameBut d H H'→ShelfAt S H' q p d n (ls++[(z,r)])→Q .non H'
noncomputable def sp_castG(S:Addr):Sp:=fun vs H Q _=>∃(q p d:Addr) (n:Int) (ls:Ly) (z:Str),vs=[.ref q,.str z]∧ShelfAt S H q p d n ls∧z∈lyN ls∧∀H',SameBut d H H'→ShelfAt S H' q p d n (lyD ls z)→Q .non H'
end N6
namespace L2
open PySem.W
noncomputable def rSumL(K:PySem.W.Frag):List V→Hp→VK→Prop:=fun xs H Q=>∃(p:Addr) (is:List Int),xs=[.ref p]∧SqL K H p (is.map V.int)∧Q (.int is.sum) H
theorem preSum_is(is:List Int):preSum (fun i=>is.getD i 0) is.length=is.sum:=by
 have key:∀n,n≤is.length→preSum (fun i=>is.getD i 0) n=(is.take n).sum:=by
  intro n
  induction n with
  | zero=>intro _;rfl
  | succ n ih=>
   intro h
   have e:is.take (n+1)=is.take n++[is.getD n 0]:=by
    rw [List.take_add_one,List.getD_eq_getElem?_getD,List.getElem?_eq_getElem (by omega)]
    rfl
   rw [preSum,ih (by omega),e,List.sum_append]
   simp
 have:=key is.length (Nat.le_refl _)
 rwa [List.take_length]at this
section
variable {X:Cx}
theorem call_sumL(hc:X.calm=true):CallR X (.builtin "sum") (rSumL X.K):=by
 intro pins s σ H xs us Q I r h
 obtain ⟨p,is,rfl,hp,q⟩:=h
 obtain ⟨u,rfl,ru⟩:=vals1 r
 cases ru
 obtain ⟨its,r,pl,hz⟩:=I.list hp
 have hlt:p < s.heap.objs.size:=by obtain ⟨o,n,e,_⟩:=pl;exact Heap.lt_size e
 have hlen:=r.length
 rw [List.length_map]at hlen
 refine call_sum_walkAnyS (wpAny_pyIter_list pl.isList ⟨s.heap.objs.size,_,_,_,_,_,_,fun i=>is.getD i 0,rfl,(Walks.list (show X.A.in1.handled=none from I.ok.hd hc) s.heap.objs.size p (Nat.ne_of_lt hlt) its.toArray).toS,⟨⟨_,Heap.get?_push_size _ rfl,rfl,rfl⟩,pl.isList.push _⟩,fun b hb=>?_,fun i v hP=>?_,fun s' t' hmv=>?_⟩)
 · show b < (s.heap.push _).objs.size
   rw [Heap.size_push]
   rcases List.mem_cons.mp hb with e | hb
   · rw [e];exact Nat.lt_succ_self _
   · rw [List.mem_singleton.mp hb];exact Nat.lt_succ_of_lt hlt
 · have hP:its.toArray[i]?=some v:=hP
   have hi:i < is.length:=by
    have:=(Array.getElem?_eq_some_iff.mp hP).1
    rw [List.size_toArray]at this
    omega
   obtain ⟨u,hu,ru⟩:=r.get (i:=i) (x:=V.int (is[i])) (by simp [hi])
   have e:u=v:=by
    have:its[i]?=some v:=by simpa using hP
    rw [hu]at this;exact Option.some.inj this
   subst e
   show ∃t,u=Value.int (is.getD i 0) t
   rw [List.getD_eq_getElem?_getD,List.getElem?_eq_getElem hi]
   exact ru
 · have hk:∀b o,s.heap.get? b=some o→s'.heap.get? b=some o:=fun b o e=>
    hmv.heap b o (fun hI=>absurd (Heap.lt_size e) (by rw [List.mem_singleton.mp hI];exact Nat.lt_irrefl _)) (Heap.get?_push_of_some _ e)
   rw [Moved.eq_with hmv]
   refine ⟨.int is.sum,H,I.kept (t':=s'.toks) hk,⟨t',?_⟩,q⟩
   rw [List.size_toArray,← hlen,preSum_is]
end
section
variable {σ:St} {H:Hp} {Q:VK} {D:Ends} {K:PySem.W.Frag} {xs:List V} {x y:V}
theorem rd_sumL:rSumL K xs H Q=∃(p:Addr) (is:List Int),xs=[.ref p]∧SqL K H p (is.map V.int)∧Q (.int is.sum) H:=rfl
theorem rd_ipI{f:Int→Int→Int}:ipI f x y H Q=∃i j,x= .int i∧y= .int j∧Q (.int (f i j)) H:=rfl
end
end L2
namespace N31
open L2 N1 N5
end N31
namespace N32
open L2 N1 N5 N31
noncomputable def lastIx(ys:List Str)(z:Str):Nat→Option Nat
 | 0=>none
 | n+1=>if ys.getD n Str.empty=z then some n else lastIx ys z n
theorem last_lt{ys:List Str}{z:Str}:∀{n j:Nat},lastIx ys z n=some j→j < n∧ys.getD j Str.empty=z
 | 0,j,h=>by cases h
 | n+1,j,h=>by
  unfold lastIx at h
  split at h
  · rename_i e
    cases h
    exact ⟨Nat.lt_succ_self _,e⟩
  · have:=last_lt h
    exact ⟨by omega,this.2⟩
noncomputable def ear(ys:List Str)(i:Nat):Option Nat:=lastIx ys (ys.getD i Str.empty) i
noncomputable def W(R:Str→Int)(ys:List Str)(n j:Nat):Int:=if lastIx ys (ys.getD j Str.empty) n=some j then R (ys.getD j Str.empty) else 0
noncomputable def tl(f:Nat→Int)(b n:Nat):Int:=((List.range' b (n - b)).map f).sum
noncomputable def dep(R:Str→Int)(ys:List Str)(n:Nat):Option Int:=(ear ys n).map fun b=>tl (W R ys n) b n
noncomputable def optV:Option Int→V
 | none=> .non
 | some i=> .int i
noncomputable def earV(ys:List Str)(i:Nat):V:=optV ((ear ys i).map fun j=>(j:Int))
end N32
namespace N32
open L2 N1 N5 N31 N4
noncomputable def rm(ts:List Th)(z:Str):Int:=((ts.find? fun t=>decide (t.1=z)).map (·.2.2)).getD 0
theorem rm_at{ts:List Th}(nd:(ts.map (·.1)).Nodup){i:Nat}{t:Th}(h:ts[i]?=some t):rm ts t.1=t.2.2:=by
 induction ts generalizing i with
 | nil=>simp at h
 | cons u r ih=>
  rw [List.map_cons,List.nodup_cons]at nd
  cases i with
  | zero=>
   rw [List.getElem?_cons_zero]at h
   cases h
   simp [rm]
  | succ i=>
   rw [List.getElem?_cons_succ]at h
   have ne:¬u.1=t.1:=fun e=>nd.1 (by rw [e];exact List.mem_map.mpr ⟨t,List.mem_of_getElem? h,rfl⟩)
   have:=ih nd.2 h
   unfold rm at this ⊢
   rw [List.find?_cons_of_neg (by simpa using ne)]
   exact this
theorem none_of{H H':Hp}{D:Addr}(s:Same H H')(h:H' D=none):H D=none:=by
 cases e:H D with
 | none=>rfl
 | some o=>rw [s _ _ e]at h;cases h
theorem same_upd{H H':Hp}{p:Addr}{o:HO}(s:Same H H')(h:H p=none):Same H (upd H' p o):=fun b u e=>by
 rw [upd_ne (ne_of_none e h)];exact s b u e
noncomputable def sp32_check:Sp:=fun vs H Q _=>∃(i:Int),vs=[.int i]∧1≤i∧i≤1000000∧Q .non H
noncomputable def sp32_thing(K:PySem.W.Frag)(C:Addr):Sp:=fun vs H Q _=>∃(p:Addr) (ts:List Th) (z:Str),vs=[.ref p,.str z]∧StockAt K C H p ts∧(ts.map (·.1)).Nodup∧z∈ts.map (·.1)∧∀(i:Nat) (t:Th),ts[i]?=some t→t.1=z→∀a,SqT K H a [.int i,.int t.2.1,.int t.2.2]→Q (.ref a) H
noncomputable def sp32_room(K:PySem.W.Frag)(C:Addr):Sp:=fun vs H Q _=>∃(p:Addr) (ts:List Th) (z:Str),vs=[.ref p,.str z]∧StockAt K C H p ts∧(ts.map (·.1)).Nodup∧z∈ts.map (·.1)∧Q (.int (rm ts z)) H
noncomputable def sp32_early(K:PySem.W.Frag):Sp:=fun vs H Q _=>∃(a:Addr) (ys:List Str),vs=[.ref a]∧SqL K H a (ys.map V.str)∧ys.length≤200∧∀p H',H p=none→Same H H'→H' p=some (.lst ((List.range ys.length).map (earV ys)))→Q (.ref p) H'
section
variable {K:PySem.W.Frag} {σ:L2.St} {H:Hp} {Q:VK}
theorem rd_dget1{td ty:TE}:tDGet1 td ty σ H Q=td σ H fun x H1=>∃a,x= .ref a∧IsD H1 a∧ty σ H1 fun y H2=>∃o,DGet H2 a y o∧Q (o.getD .non) H2:=rfl
theorem rd_disp1{tk tv:TE}:tDisp [(tk,tv)] σ H Q=∀p,H p=none→tk σ (upd H p (.dK [])) fun x H1=>tv σ H1 fun y H2=>H2 p=some (.dK [])∧∃kvs:List (Key×V),[(x,y)]=kvs.map (fun kv=>(kV kv.1,kv.2))∧kvs.length≤15∧Q (.ref p) (upd H2 p (.dK (mergeK [] kvs))):=rfl
end
end N32
namespace N32
open L2 N1 N5 N31 N4
theorem ear_val{ys:List Str}{i:Nat}:((lastIx ys (ys.getD i Str.empty) i).map fun j=>V.int (j:Int)).getD .non=earV ys i:=by
 unfold earV ear
 cases lastIx ys (ys.getD i Str.empty) i <;> rfl
theorem last_put{ys:List Str}{kvs:List (Key×V)}{i:Nat}(h:∀z,valV kvs (Sum.inr z)=(lastIx ys z i).map fun j=>V.int (j:Int))(z:Str):valV (putK kvs (Sum.inr (ys.getD i Str.empty)) (V.int (i:Int))) (Sum.inr z)=(lastIx ys z (i+1)).map fun j=>V.int (j:Int):=by
 rw [valV_put]
 by_cases e:ys.getD i Str.empty=z
 · rw [if_pos (by rw [e]),show lastIx ys z (i+1)=some i from if_pos e];rfl
 · rw [if_neg (fun h=>e (by injection h with h;exact h.symm)),show lastIx ys z (i+1)=lastIx ys z i from if_neg e];exact h z
end N32
namespace N32
open L2 N1 N5 N31 N4
noncomputable def rmK(ns:List Int)(mo:Int)(j:Nat):Int:=1+(ns.getD 2 0 / 2).fdiv ((j:Int)+1) % mo
end N32
namespace K03
theorem gcd_step{x y i j:Int}(hx:0≤x)(hy:0 < y)(h:Int.gcd x y=Int.gcd i j):Int.gcd y (x % y)=Int.gcd i j:=by
 rw [← h,Int.gcd_comm x y]
 first
  | exact Int.gcd_emod ..
  | simp [Int.gcd_emod]
  | (show Nat.gcd y.natAbs (x % y).natAbs=Nat.gcd y.natAbs x.natAbs
     obtain ⟨a,rfl⟩:=Int.eq_ofNat_of_zero_le hx
     obtain ⟨b,rfl⟩:=Int.eq_ofNat_of_zero_le (Int.le_of_lt hy)
     rw [← Int.natCast_emod]
     simp only [Int.natAbs_natCast]
     rw [Nat.gcd_comm b (a % b),← Nat.gcd_rec,])
theorem gcd_zero_right'{x:Int}(hx:0≤x):((Int.gcd x 0:Nat):Int)=x:=by
 show ((Nat.gcd x.natAbs 0:Nat):Int)=x
 rw [Nat.gcd_zero_right];omega
theorem gcd_abs(i j:Int):Int.gcd (if i < 0 then -i else i) (if j < 0 then -j else j)=Int.gcd i j:=by
 show Nat.gcd _ _=Nat.gcd _ _
 congr 1
 · split <;> omega
 · split <;> omega
theorem exact_fdiv{n d:Int}(h:d ∣ n)(hd:d≠0):d * n.fdiv d=n:=by
 obtain ⟨q,rfl⟩:=h
 rw [Int.mul_fdiv_cancel_left _ hd]
theorem lowest{n m d:Int}(hm:m≠0)(hd:d.natAbs=Int.gcd n m)(hs:0 < d↔0 < m):
 n.fdiv d * m=n * m.fdiv d∧0 < m.fdiv d∧Int.gcd (n.fdiv d) (m.fdiv d)=1∧(n.fdiv d).natAbs≤n.natAbs∧(m.fdiv d).natAbs≤m.natAbs:=by
 have hg:0 < Int.gcd n m:=Nat.pos_of_ne_zero fun z=>hm (Int.gcd_eq_zero_iff.mp z).2
 have hd0:d≠0:=by intro z;subst z;simp at hd;omega
 have dn:d ∣ n:=by
  rw [← Int.natAbs_dvd_natAbs,hd];exact Nat.gcd_dvd_left n.natAbs m.natAbs
 have dm:d ∣ m:=by
  rw [← Int.natAbs_dvd_natAbs,hd];exact Nat.gcd_dvd_right n.natAbs m.natAbs
 have e1:=exact_fdiv dn hd0
 have e2:=exact_fdiv dm hd0
 generalize n.fdiv d=t at *
 generalize m.fdiv d=b at *
 have hb0:b≠0:=by rintro rfl;simp at e2;exact hm e2.symm
 refine ⟨?_,?_,?_,?_,?_⟩
 · rw [← e1,← e2];simp only [Int.mul_assoc,Int.mul_comm,Int.mul_left_comm]
 · by_cases hp:0 < d
   · have:0 < m:=hs.mp hp
     rw [← e2]at this
     rw [Int.mul_comm]at this;exact Int.pos_of_mul_pos_left this hp
   · have hn:¬0 < m:=fun z=>hp (hs.mpr z)
     have hd1:d < 0:=by omega
     rw [← e2]at hn
     refine Decidable.byContradiction fun hb=>?_
     have hb1:b < 0:=by omega
     exact hn (Int.mul_pos_of_neg_of_neg hd1 hb1)
 · have:Int.gcd n m=d.natAbs * Int.gcd t b:=by rw [← e1,← e2,Int.gcd_mul_left]
   rw [← hd]at this
   have hp:0 < d.natAbs:=by omega
   have h2:d.natAbs * Int.gcd t b=d.natAbs * 1:=by omega
   exact Nat.eq_of_mul_eq_mul_left hp h2
 · rw [← e1,Int.natAbs_mul];exact Nat.le_mul_of_pos_left _ (by omega)
 · rw [← e2,Int.natAbs_mul];exact Nat.le_mul_of_pos_left _ (by omega)
end K03
open L2 N1 N5 N31 N4 N32
namespace N41
noncomputable def seg(T:List Int)(a b:Nat):Int:=((T.take b).drop a).sum
noncomputable def leastAt(c r:Str→Int)(T:List Int)(S:Int)(ys:List Str)(n:Nat):Int:=
 match ear ys n with
 | none=>c (ys.getD n Str.empty) * S
 | some e=>min (c (ys.getD n Str.empty) * S) (r (ys.getD n Str.empty) * seg T (e+1) n)
noncomputable def fl(c r:Str→Int)(T:List Int)(S P:Int)(ys:List Str):Nat→Int
 | 0=>0
 | n+1=>fl c r T S P ys n+(leastAt c r T S ys n - T.getD n 0 * (P - r (ys.getD n Str.empty)))
theorem seg_scale(D:Int)(T:List Int)(a b:Nat):seg (T.map fun t=>D * t) a b=D * seg T a b:=by
 unfold seg
 rw [← List.map_take,← List.map_drop]
 generalize (T.take b).drop a=l
 induction l with
 | nil=>simp
 | cons x r ih=>rw [List.map_cons,List.sum_cons,List.sum_cons,ih,Int.mul_add]
theorem getD_scale(D:Int)(T:List Int)(n:Nat):(T.map fun t=>D * t).getD n 0=D * T.getD n 0:=by
 rw [List.getD_eq_getElem?_getD,List.getD_eq_getElem?_getD,List.getElem?_map]
 cases T[n]? with
 | none=>simp
 | some x=>rfl
theorem min_scale{D a b:Int}(h:0≤D):min (D * a) (D * b)=D * min a b:=by
 by_cases e:a≤b
 · rw [Int.min_eq_left e,Int.min_eq_left (Int.mul_le_mul_of_nonneg_left e h)]
 · have e':b≤a:=by omega
   rw [Int.min_eq_right e',Int.min_eq_right (Int.mul_le_mul_of_nonneg_left e' h)]
theorem fl_scale{D:Int}(hD:0≤D)(c r:Str→Int)(T:List Int)(S P:Int)(ys:List Str):∀n,fl c r (T.map fun t=>D * t) (D * S) P ys n=D * fl c r T S P ys n:=by
 intro n
 induction n with
 | zero=>simp [fl]
 | succ n ih=>
  have hl:leastAt c r (T.map fun t=>D * t) (D * S) ys n=D * leastAt c r T S ys n:=by
   unfold leastAt
   cases ear ys n with
   | none=>show _ * (D * S)=D * (_ * S);rw [Int.mul_left_comm]
   | some e=>
    show min (_ * (D * S)) (_ * seg _ _ _)=D * min _ _
    rw [seg_scale,Int.mul_left_comm,Int.mul_left_comm _ D,min_scale hD]
  show fl c r _ _ P ys n+(_ - _ * _)=D * (fl c r T S P ys n+(_ - _ * _))
  rw [ih,hl,getD_scale,Int.mul_assoc,← Int.mul_sub,← Int.mul_add]
noncomputable def sm(f:Str→Int)(L:List Str):Int:=(L.map f).sum
theorem sm_nil(f:Str→Int):sm f []=0:=rfl
theorem sm_cons(f:Str→Int)(x:Str)(L:List Str):sm f (x::L)=f x+sm f L:=by unfold sm;rw [List.map_cons,List.sum_cons]
theorem sm_app(f:Str→Int)(L M:List Str):sm f (L++M)=sm f L+sm f M:=by unfold sm;rw [List.map_append,List.sum_append]
theorem sm_nn{f:Str→Int}{L:List Str}(h:∀y∈L,0≤f y):0≤sm f L:=by
 induction L with
 | nil=>exact Int.le_refl _
 | cons x r ih=>
  rw [sm_cons]
  have h1:=h x List.mem_cons_self
  have h2:=ih fun y hy=>h y (List.mem_cons_of_mem _ hy)
  omega
theorem sm_erase{f:Str→Int}{L:List Str}{z:Str}(h:z∈L):sm f (L.erase z)=sm f L - f z:=by
 induction L with
 | nil=>cases h
 | cons x r ih=>
  by_cases e:x=z
  · subst e;rw [List.erase_cons_head,sm_cons];omega
  · rw [List.erase_cons_tail (by simpa using e),sm_cons,sm_cons,ih ((List.mem_cons.mp h).resolve_left fun k=>e k.symm)];omega
theorem sm_lin{f g r:Str→Int}{k:Int}{L:List Str}(h:∀y∈L,f y=g y+k * r y):sm f L=sm g L+k * sm r L:=by
 induction L with
 | nil=>simp [sm_nil]
 | cons x t ih=>
  rw [sm_cons,sm_cons,sm_cons,ih fun y hy=>h y (List.mem_cons_of_mem _ hy),h x List.mem_cons_self,Int.mul_add];omega
theorem least_cost{c r:Str→Int}{T:List Int}{S:Int}{ys:List Str}{n:Nat}:leastAt c r T S ys n≤c (ys.getD n Str.empty) * S:=by
 unfold leastAt
 cases ear ys n with
 | none=>exact Int.le_refl _
 | some j=>exact Int.min_le_left _ _
end N41
namespace N41
noncomputable def cst(ts:List Th)(z:Str):Int:=((ts.find? fun t=>decide (t.1=z)).map (·.2.1)).getD 0
theorem cst_at{ts:List Th}(nd:(ts.map (·.1)).Nodup){i:Nat}{t:Th}(h:ts[i]?=some t):cst ts t.1=t.2.1:=by
 induction ts generalizing i with
 | nil=>simp at h
 | cons u r ih=>
  rw [List.map_cons,List.nodup_cons]at nd
  cases i with
  | zero=>
   rw [List.getElem?_cons_zero]at h
   cases h
   simp [cst]
  | succ i=>
   rw [List.getElem?_cons_succ]at h
   have ne:¬u.1=t.1:=fun e=>nd.1 (by rw [e];exact List.mem_map.mpr ⟨t,List.mem_of_getElem? h,rfl⟩)
   have:=ih nd.2 h
   unfold cst at this ⊢
   rw [List.find?_cons_of_neg (by simpa using ne)]
   exact this
structure PrAt(K:PySem.W.Frag)(H:Hp)(p:Addr)(ps:List (Int×Int)):Prop where
 ex:∃as:List Addr,SqL K H p (as.map V.ref)∧as.length=ps.length∧∀(i:Nat) (a:Addr) (q:Int×Int),as[i]?=some a→ps[i]?=some q→SqT K H a [.int q.1,.int q.2]
theorem PrAt.same{K:PySem.W.Frag}{H H':Hp}{p:Addr}{ps:List (Int×Int)}(m:Same H H')(h:PrAt K H p ps):PrAt K H' p ps:=by
 obtain ⟨as,h1,h2,h3⟩:=h.ex
 exact ⟨as,m.seq h1,h2,fun i a q e1 e2=>m.tup (h3 i a q e1 e2)⟩
noncomputable def topsOf(S:Int)(ps:List (Int×Int)):List Int:=ps.map fun q=>q.1 * S.fdiv q.2
noncomputable def sp41_div:Sp:=fun vs H Q _=>∃(i j:Int),vs=[.int i,.int j]∧Q (.int (Int.gcd i j)) H
noncomputable def sp41_asks(K:PySem.W.Frag)(C:Addr):Sp:=fun vs H Q _=>∃(p a:Addr) (pl:Int) (ts:List Th) (ys:List Str),vs=[.ref p,.ref a,.int pl]∧StockAt K C H p ts∧(ts.map (·.1)).Nodup∧SqL K H a (ys.map V.str)∧ys.length≤200∧(∀y∈ys,y∈ts.map (·.1))∧(∀y∈ys,rm ts y≤pl)∧1≤pl∧pl≤1000000∧∀H',Same H H'→Q (.bl true) H'
noncomputable def sp41_cost(K:PySem.W.Frag)(C:Addr):Sp:=fun vs H Q _=>∃(p:Addr) (ts:List Th) (z:Str),vs=[.ref p,.str z]∧StockAt K C H p ts∧(ts.map (·.1)).Nodup∧z∈ts.map (·.1)∧Q (.int (cst ts z)) H
noncomputable def sp41_prices(K:PySem.W.Frag):Sp:=fun vs H Q _=>∃(a p:Addr) (ys:List Str) (ps:List (Int×Int)),vs=[.ref a,.ref p]∧SqL K H a (ys.map V.str)∧PrAt K H p ps∧ps.length=ys.length∧(∀q∈ps,0≤q.1)∧Q .non H
theorem lcm_step{S b U:Int}(hS:0 < S)(hb:0 < b)(h1:S ∣ U)(h2:b ∣ U):0 < S.fdiv (Int.gcd S b) * b∧S.fdiv (Int.gcd S b) * b ∣ U∧b ∣ S.fdiv (Int.gcd S b) * b∧S ∣ S.fdiv (Int.gcd S b) * b:=by
 obtain ⟨m,rfl⟩:=Int.eq_ofNat_of_zero_le (Int.le_of_lt hS)
 obtain ⟨n,rfl⟩:=Int.eq_ofNat_of_zero_le (Int.le_of_lt hb)
 have hm:0 < m:=by omega
 have hn:0 < n:=by omega
 have hg:Int.gcd (m:Int) (n:Int)=Nat.gcd m n:=rfl
 rw [hg]
 have hgp:0 < Nat.gcd m n:=Nat.gcd_pos_of_pos_left _ hm
 have e:(m:Int).fdiv (Nat.gcd m n:Nat)=((m / Nat.gcd m n:Nat):Int):=by
  rw [Int.fdiv_eq_ediv_of_nonneg _ (by omega)];rfl
 rw [e]
 have e2:m / Nat.gcd m n * n=Nat.lcm m n:=by
  unfold Nat.lcm
  rw [Nat.mul_comm m n,Nat.mul_div_assoc _ (Nat.gcd_dvd_left m n),Nat.mul_comm]
 have e3:((m / Nat.gcd m n:Nat):Int) * (n:Int)=((Nat.lcm m n:Nat):Int):=by rw [← e2];exact (Int.natCast_mul _ _).symm
 rw [e3]
 have hl:0 < Nat.lcm m n:=Nat.lcm_pos hm hn
 refine ⟨by omega,?_,Int.natCast_dvd_natCast.mpr (Nat.dvd_lcm_right m n),Int.natCast_dvd_natCast.mpr (Nat.dvd_lcm_left m n)⟩
 rw [← Int.dvd_natAbs]
 exact Int.natCast_dvd_natCast.mpr (Nat.lcm_dvd (Int.ofNat_dvd_left.mp h1) (Int.ofNat_dvd_left.mp h2))
theorem gcd_bounds{S b:Int}(hS:0 < S)(hb:0 < b):0 < Int.gcd S b∧(Int.gcd S b:Int)≤S∧(Int.gcd S b:Int)≤b∧0≤S.fdiv (Int.gcd S b)∧S.fdiv (Int.gcd S b)≤S:=by
 have h1:0 < Int.gcd S b:=Nat.pos_of_ne_zero fun z=>by have:=(Int.gcd_eq_zero_iff.mp z).2;omega
 have h2:Int.gcd S b≤S.natAbs:=Nat.le_of_dvd (by omega) (Nat.gcd_dvd_left _ _)
 have h3:Int.gcd S b≤b.natAbs:=Nat.le_of_dvd (by omega) (Nat.gcd_dvd_right _ _)
 rw [Int.fdiv_eq_ediv_of_nonneg _ (by omega)]
 exact ⟨h1,by omega,by omega,Int.ediv_nonneg (by omega) (by omega),Int.ediv_le_self _ (by omega)⟩
end N41
namespace L2
open PySem.W
noncomputable def rMaxL(K:PySem.W.Frag):List V→Hp→VK→Prop:=fun xs H Q=>∃(p:Addr) (is:List Int),xs=[.ref p]∧SqL K H p (is.map V.int)∧is≠[]∧∀v∈is,(∀x∈is,x≤v)→Q (.int v) H
theorem best_gt(val:Nat→Int):∀k,argBest (fun i j=>decide (val i > val j)) k≤k∧∀j,j≤k→val j≤val (argBest (fun i j=>decide (val i > val j)) k):=by
 intro k
 induction k with
 | zero=>exact ⟨Nat.le_refl _,fun j hj=>by rw [Nat.le_zero.mp hj];exact Int.le_refl _⟩
 | succ k ih=>
  unfold argBest
  split
  · rename_i h
    have h:=of_decide_eq_true h
    refine ⟨Nat.le_refl _,fun j hj=>?_⟩
    by_cases e:j=k+1
    · rw [e];exact Int.le_refl _
    · have:=ih.2 j (by omega);omega
  · rename_i h
    have h:¬(val (k+1) > _):=fun z=>h (decide_eq_true z)
    refine ⟨Nat.le_succ_of_le ih.1,fun j hj=>?_⟩
    by_cases e:j=k+1
    · rw [e];omega
    · exact ih.2 j (by omega)
section
variable {X:Cx}
theorem ints_at{is:List Int}{its:List Value}(r:Vals (is.map V.int) its){i:Nat}{v:Value}(hP:its.toArray[i]?=some v):i < is.length∧∃t,v=Value.int (is.getD i 0) t:=by
 have hlen:=r.length
 rw [List.length_map]at hlen
 have hi:i < is.length:=by
  have:=(Array.getElem?_eq_some_iff.mp hP).1
  rw [List.size_toArray]at this
  omega
 obtain ⟨u,hu,ru⟩:=r.get (i:=i) (x:=V.int (is[i])) (by simp [hi])
 have e:u=v:=by
  have:its[i]?=some v:=by simpa using hP
  rw [hu]at this;exact Option.some.inj this
 subst e
 refine ⟨hi,?_⟩
 rw [List.getD_eq_getElem?_getD,List.getElem?_eq_getElem hi]
 exact ru
theorem call_maxL(hc:X.calm=true):CallR X (.builtin "max") (rMaxL X.K):=by
 intro pins s σ H xs us Q I r h
 obtain ⟨p,is,rfl,hp,hne,q⟩:=h
 obtain ⟨u,rfl,ru⟩:=vals1 r
 cases ru
 obtain ⟨its,r,pl,hz⟩:=I.list hp
 have hlt:p < s.heap.objs.size:=by obtain ⟨o,n,e,_⟩:=pl;exact Heap.lt_size e
 have hlen:=r.length
 rw [List.length_map]at hlen
 have hpos:0 < is.length:=List.length_pos_iff.mpr hne
 have hb:=best_gt (fun i=>is.getD i 0) (is.length - 1)
 refine call_max_walkS (wpAny_pyIter_list pl.isList ⟨s.heap.objs.size,_,_,_,_,_,_,fun i j=>decide (is.getD i 0 > is.getD j 0),rfl,(Walks.list (show X.A.in1.handled=none from I.ok.hd hc) s.heap.objs.size p (Nat.ne_of_lt hlt) its.toArray).toS,⟨⟨_,Heap.get?_push_size _ rfl,rfl,rfl⟩,pl.isList.push _⟩,fun b hb=>?_,by rw [List.size_toArray];omega,CmpOf.ints_gt (fun i=>is.getD i 0) (fun i v hP=>(ints_at r hP).2),fun v s' hP hmv=>?_⟩)
 · show b < (s.heap.push _).objs.size
   rw [Heap.size_push]
   rcases List.mem_cons.mp hb with e | hb
   · rw [e];exact Nat.lt_succ_self _
   · rw [List.mem_singleton.mp hb];exact Nat.lt_succ_of_lt hlt
 · have hk:∀b o,s.heap.get? b=some o→s'.heap.get? b=some o:=fun b o e=>
    hmv.heap b o (fun hI=>absurd (Heap.lt_size e) (by rw [List.mem_singleton.mp hI];exact Nat.lt_irrefl _)) (Heap.get?_push_of_some _ e)
   rw [Moved.eq_with hmv]
   rw [List.size_toArray,← hlen]at hP
   obtain ⟨hi,t,rfl⟩:=ints_at r hP
   refine ⟨V.int _,H,I.kept (t':=s'.toks) hk,⟨t,rfl⟩,q _ ?_ fun x hx=>?_⟩
   · rw [List.getD_eq_getElem?_getD,List.getElem?_eq_getElem hi];exact List.getElem_mem hi
   · obtain ⟨j,hj⟩:=List.mem_iff_getElem?.mp hx
     have hjl:=(List.getElem?_eq_some_iff.mp hj).1
     have:=hb.2 j (by omega)
     rw [show is.getD j 0=x by rw [List.getD_eq_getElem?_getD,hj];rfl]at this
     exact this
end
section
variable {K:PySem.W.Frag} {H:Hp} {Q:VK} {xs:List V}
theorem rd_maxL:rMaxL K xs H Q=∃(p:Addr) (is:List Int),xs=[.ref p]∧SqL K H p (is.map V.int)∧is≠[]∧∀v∈is,(∀x∈is,x≤v)→Q (.int v) H:=rfl
end
end L2
namespace L2
theorem rd_augN{σ:St}{H:Hp}{D:Ends}{i:Nat}{te:TE}{ti:TIp}:tAug i te ti D σ H=∃x,σ[i]?=some (some x)∧te σ H fun y H1=>ti x y H1 fun z H2=>D.nx (σ.set i (some z)) H2:=rfl
end L2
namespace N41
open L2 N1 N5 N31 N4 N32
theorem cut_seg{T:List Int}{a b:Nat}(h1:a≤b)(h2:b≤T.length):cutV (T.map V.int) (some (a:Int)) (some (b:Int))=((T.take b).drop a).map V.int:=by
 unfold cutV
 rw [HT.sIx_nat,HT.sIx_nat,List.length_map,Nat.min_eq_left h2,Nat.min_eq_left (Nat.le_trans h1 h2),← List.map_drop,← List.map_take,List.drop_take]
theorem tops_len{S:Int}{ps:List (Int×Int)}:(topsOf S ps).length=ps.length:=by unfold topsOf;rw [List.length_map]
theorem tops_get{S:Int}{ps:List (Int×Int)}{i:Nat}{q:Int×Int}(h:ps[i]?=some q):(topsOf S ps).getD i 0=q.1 * S.fdiv q.2:=by
 unfold topsOf
 rw [List.getD_eq_getElem?_getD,List.getElem?_map,h];rfl
theorem tops_list{S:Int}{ps:List (Int×Int)}{n:Nat}(h:n=ps.length):((List.range n).filter fun _=>true).map (fun i=>V.int ((topsOf S ps).getD i 0))=(topsOf S ps).map V.int:=by
 rw [List.filter_eq_self.mpr (fun _ _=>rfl)]
 refine List.ext_getElem (by simp [tops_len,h]) fun i h1 h2=>?_
 rw [List.length_map]at h2
 rw [List.getElem_map,List.getElem_map,List.getElem_range,List.getD_eq_getElem?_getD,List.getElem?_eq_getElem h2];rfl
theorem fdiv_in{S b:Int}(hS:0 < S)(hb:0 < b):0≤S.fdiv b∧S.fdiv b≤S:=by
 rw [Int.fdiv_eq_ediv_of_nonneg _ (by omega)]
 exact ⟨Int.ediv_nonneg (by omega) (by omega),Int.ediv_le_self _ (by omega)⟩
theorem sum_in{l:List Int}{M:Int}(hM:0≤M)(h:∀t∈l,0≤t∧t≤M):0≤l.sum∧l.sum≤l.length * M:=by
 induction l with
 | nil=>simp
 | cons x r ih=>
  rw [List.sum_cons,List.length_cons]
  have h1:=h x List.mem_cons_self
  have h2:=ih fun t ht=>h t (List.mem_cons_of_mem _ ht)
  have e:((r.length+1:Nat):Int) * M=r.length * M+M:=by rw [Int.natCast_add,Int.add_mul];simp
  rw [e]
  omega
theorem mul_in{r m:Int}(h0:0≤r)(h1:r≤1000000)(g0:0≤m):0≤r * m∧r * m≤1000000 * m:=⟨Int.mul_nonneg h0 g0,Int.mul_le_mul_of_nonneg_right h1 g0⟩
theorem min_if(i j:Int):(if j < i then j else i)=min i j:=by
 by_cases h:j < i
 · rw [if_pos h,Int.min_eq_right (by omega)]
 · rw [if_neg h,Int.min_eq_left (by omega)]
theorem getD_s{ys:List Str}{k:Nat}(h:k < ys.length):ys[k]?=some (ys.getD k Str.empty):=by rw [List.getD_eq_getElem?_getD,List.getElem?_eq_getElem h];rfl
end N41
namespace L2
noncomputable def LikeN(K:PySem.W.Frag):Nat→Hp→V→V→Prop
 | 0,_,x,y=>x=y∧flatV x=true
 | n+1,H,x,y=>LikeN K n H x y∨∃a b xs ys,x= .ref a∧y= .ref b∧((SqL K H a xs∧SqL K H b ys)∨(SqT K H a xs∧SqT K H b ys))∧xs.length=ys.length∧∀(i:Nat) (x' y':V),xs[i]?=some x'→ys[i]?=some y'→LikeN K n H x' y'
noncomputable def LikeR(K:PySem.W.Frag)(n:Nat)(H:Hp)(x y:V):Prop:=∃a b xs ys,x= .ref a∧y= .ref b∧((SqL K H a xs∧SqL K H b ys)∨(SqT K H a xs∧SqT K H b ys))∧xs.length=ys.length∧∀(i:Nat) (x' y':V),xs[i]?=some x'→ys[i]?=some y'→LikeN K n H x' y'
section
variable {X:Cx} {pins:List (Addr×Obj)} {σ:St} {H:Hp} {s:Shared}
noncomputable def rEqN(K:PySem.W.Frag)(n:Nat):R2:=fun x y H Q=>LikeR K n H x y∧Q (.bl true) H
noncomputable def rNeN(K:PySem.W.Frag)(n:Nat):R2:=fun x y H Q=>LikeR K n H x y∧Q (.bl false) H
theorem rd_eqN{K:PySem.W.Frag}{H:Hp}{Q:VK}{x y:V}{n:Nat}:rEqN K n x y H Q=(LikeR K n H x y∧Q (.bl true) H):=rfl
theorem rd_neN{K:PySem.W.Frag}{H:Hp}{Q:VK}{x y:V}{n:Nat}:rNeN K n x y H Q=(LikeR K n H x y∧Q (.bl false) H):=rfl
end
end L2
namespace L2
open PySem.W
noncomputable def rMaxV:List V→Hp→VK→Prop:=fun xs H Q=>∃(v d:Addr) (kvs:List (Key×V)) (is:List Int),xs=[.ref v]∧H v=some (viewO v d)∧H d=some (.dK kvs)∧kvs.map (·.2)=is.map V.int∧is≠[]∧∀m∈is,(∀x∈is,x≤m)→Q (.int m) H
section
variable {X:Cx}
theorem rd_maxV{xs:List V}{H:Hp}{Q:VK}:rMaxV xs H Q=∃(v d:Addr) (kvs:List (Key×V)) (is:List Int),xs=[.ref v]∧H v=some (viewO v d)∧H d=some (.dK kvs)∧kvs.map (·.2)=is.map V.int∧is≠[]∧∀m∈is,(∀x∈is,x≤m)→Q (.int m) H:=rfl
end
end L2
namespace N14
open L2 N1 N5 N4 N6 N12 N32
noncomputable abbrev Row:=Str×Bool×List Str
structure BookAt(K:PySem.W.Frag)(H:Hp)(b:Addr)(as gs:List Addr)(rs:List Row):Prop where
 l:SqL K H b (as.map V.ref)
 n:as.length=rs.length
 m:gs.length=rs.length
 t:∀(i:Nat) (a g:Addr) (r:Row),as[i]?=some a→gs[i]?=some g→rs[i]?=some r→SqT K H a [.str r.1,.bl r.2.1,.ref g]∧SqL K H g (r.2.2.map V.str)
theorem BookAt.same{K:PySem.W.Frag}{H H':Hp}{b:Addr}{as gs:List Addr}{rs:List Row}(s:Same H H')(h:BookAt K H b as gs rs):BookAt K H' b as gs rs:=
 ⟨s.seq h.l,h.n,h.m,fun i a g r e1 e2 e3=>⟨s.tup (h.t i a g r e1 e2 e3).1,s.seq (h.t i a g r e1 e2 e3).2⟩⟩
theorem rm_of{ts:List Th}{z:Str}{r:Int}(nd:(ts.map (·.1)).Nodup)(hz:z∈ts.map (·.1))(h:∀t∈ts,t.1=z→t.2.2=r):rm ts z=r:=by
 obtain ⟨i,t,ht,rfl⟩:=mem_nth hz
 rw [rm_at nd ht,h t (List.mem_of_getElem? ht) rfl]
theorem lyD_mem{ls:Ly}{z u:Str}:u∈lyN (lyD ls z)↔u∈lyN ls∧u≠z:=by
 unfold lyN lyD
 simp only [List.mem_map,List.mem_filter,decide_eq_true_eq]
 constructor
 · rintro ⟨x,⟨h1,h2⟩,rfl⟩;exact ⟨⟨x,h1,rfl⟩,h2⟩
 · rintro ⟨⟨x,h1,rfl⟩,h2⟩;exact ⟨x,⟨h1,h2⟩,rfl⟩
theorem new_same{H H':Hp}{x dx:Addr}{o1 o2:HO}(h1:H x=none)(h2:H dx=none)(sb:SameBut x (upd (upd H dx o1) x o2) H'):Same H H':=fun b o e=>by
 have n1:b≠x:=fun h=>by rw [h,h1]at e;cases e
 have n2:b≠dx:=fun h=>by rw [h,h2]at e;cases e
 exact sb _ _ (by rw [upd_ne n1,upd_ne n2];exact e) n1
theorem new_none{H:Hp}{x dx d:Addr}{o1 o2:HO}(h:upd (upd H dx o1) x o2 d=none):H d=none:=by
 by_cases e1:d=x
 · rw [e1,upd_same]at h;cases h
 rw [upd_ne e1]at h
 by_cases e2:d=dx
 · rw [e2,upd_same]at h;cases h
 rw [upd_ne e2]at h;exact h
theorem same_none{H H':Hp}{d:Addr}(s:Same H H')(h:H' d=none):H d=none:=by
 cases e:H d with
 | none=>rfl
 | some o=>rw [s _ _ e]at h;cases h
theorem but_same{H H' H1:Hp}{d:Addr}(s:Same H H')(hd:H d=none)(sb:SameBut d H' H1):Same H H1:=fun b o e=>sb _ _ (s _ _ e) fun h=>by rw [h,hd]at e;cases e
structure OkL(R:Str→Int)(ns:List Str)(ls:Ly):Prop where
 nd:(lyN ls).Nodup
 r:∀x∈ls,x.2=R x.1
 s:∀u∈lyN ls,u∈ns
theorem OkL.nil{R:Str→Int}{ns:List Str}:OkL R ns []:=⟨List.nodup_nil,by simp,by simp [lyN]⟩
theorem OkL.drop{R:Str→Int}{ns:List Str}{ls:Ly}{z:Str}(h:OkL R ns ls):OkL R ns (lyD ls z):=
 ⟨by rw [lyD_names h.nd];exact h.nd.erase _,fun x hx=>h.r x (List.mem_filter.mp hx).1,fun u hu=>h.s u (lyD_mem.mp hu).1⟩
theorem OkL.put{R:Str→Int}{ns:List Str}{ls:Ly}{z:Str}(h:OkL R ns ls)(hz:z∉lyN ls)(hn:z∈ns):OkL R ns (ls++[(z,R z)]):=by
 have e:lyN (ls++[(z,R z)])=lyN ls++[z]:=by unfold lyN;rw [List.map_append];rfl
 refine ⟨?_,?_,?_⟩
 · rw [e,List.nodup_append]
   refine ⟨h.nd,by simp,fun y hy u hu=>?_⟩
   rw [List.mem_singleton]at hu
   rw [hu]
   exact fun e=>hz (e▸hy)
 · intro x hx
   rcases List.mem_append.mp hx with h1 | h1
   · exact h.r x h1
   · rw [List.mem_singleton.mp h1]
 · intro u hu
   rw [e]at hu
   rcases List.mem_append.mp hu with h1 | h1
   · exact h.s u h1
   · rw [List.mem_singleton.mp h1];exact hn
noncomputable def Kp(M:List Addr)(H H':Hp):Prop:=∀b o,b∉M→H b=some o→H' b=some o
theorem Kp.trans{M:List Addr}{H H1 H2:Hp}(h1:Kp M H H1)(h2:Kp M H1 H2):Kp M H H2:=fun b o n e=>h2 b o n (h1 b o n e)
theorem Kp.of{M:List Addr}{H H1:Hp}(h:Same H H1):Kp M H H1:=fun b o _ e=>h b o e
theorem Kp.same{M:List Addr}{H0 H H1:Hp}(s:Same H0 H)(h:Kp M H H1)(hn:∀p∈M,H0 p=none):Same H0 H1:=fun b o e=>h b o (fun hb=>by rw [hn b hb]at e;cases e) (s b o e)
theorem at_snoc{α:Type}{xs:List α}{y z:α}{i:Nat}(h:(xs++[y])[i]?=some z):(i < xs.length∧xs[i]?=some z)∨(i=xs.length∧z=y):=by
 rcases Nat.lt_or_ge i xs.length with h1 | h1
 · rw [List.getElem?_append_left h1]at h;exact .inl ⟨h1,h⟩
 · rw [List.getElem?_append_right h1]at h
   rcases Nat.eq_zero_or_pos (i - xs.length) with e | e
   · rw [e]at h;cases h;exact .inr ⟨by omega,rfl⟩
   · rw [List.getElem?_eq_none (by simp;omega)]at h;cases h
end N14
namespace L2
structure DefB(P:Program)(w:World)(K:PySem.W.Frag)(mg:Str→Option Value)(base:Heap)(CX:CXT)(k:Nat)(x:Str)(C:Addr)(ps:List Str)(sp:Sp):Prop where
 ex:∃(f:Addr) (fd:FuncData),FnOk P w K mg base CX k f fd ps sp∧Mk K C f∧mg x=some (.ref C)∧Binds K fd ps []∧PySem.W.findCls K (.ref C) (.type "type") "__init__"=some (.val (.ref f))∧PySem.W.keepIn K (.ref f)=true
 sp:PySem.W.specialIn K (.ref C) "__getattribute__"=some (some (.builtin "type.__getattribute__"))
 rd:PySem.W.readsIn K C (.type "type")=true
noncomputable def tCallS(sp:Sp)(EE:St→XK)(t:TA):TE:=fun σ H Q=>t σ H fun vs H1=>sp vs H1 Q (EE σ)
section
variable {X:Cx} {CX:CXT} {k j:Nat} {C:Addr} {ps:List Str} {sp:Sp} {EE:St→XK} {x:Str} {pos apos:Pos} {e o:Expr} {es:List Expr} {t:TA}
theorem pe_initC{pl:Sem Bool}(D:DefB X.prog X.w X.K X.mg X.base CX j x C ps sp)(hr:Room k X.A)(hx:PassesS CX X EE)(he:PE X o (tC (.ref C)))(ha:PA X (e::es) t)(hj:j≤k:=by decide)
 (hst:starEach (e::es) X.env=(false,eval e X.env)::starEach es X.env:=by rfl) (hpl:(backTo pos (starEach es X.env)).any (·.1)=false:=by rfl)
 (ht:eval (.Call (.Attribute o "__init__" apos) (e::es) [] pos) X.env=(do
  let ov ← eval o X.env
  standAt apos.atName
  let (f,first) ← holding [ov] (getMethod ov "__init__" pl)
  callWith pos f first (backTo pos (starEach (e::es) X.env)) (backToKw pos (keywordEach [] X.env))):=by rfl):
 PE X (.Call (.Attribute o "__init__" apos) (e::es) [] pos) (tCallS sp EE t):=by
 obtain ⟨f,fd,F,M,hm,hb,hc,hk⟩:=D.ex
 intro pins s σ H Q I h
 refine PySem.W.methodCall_KW (pl:=pl) (thn (he pins s σ H (fun v H1=>v= .ref C∧t σ H1 fun vs H2=>sp vs H2 Q (EE σ)) I ⟨rfl,h⟩) fun u s1 hq_=>?_) ht
 obtain ⟨x,H1,I1,rx,q⟩:=hq_
 obtain ⟨rfl,q⟩:=q
 obtain rfl:u=Value.ref C:=rx
 refine PySem.W.method_cls I1.kIn D.sp (PySem.W.cls_value I1.kIn D.rd hc rfl ?_)
 have I2:=I1.tok (s1.toks+1)
 exact PySem.W.callWith_K (first:=[]) (h₀:=X.base) I.ok.mod.kin hk (thn (ha pos pins _ σ H1 _ I2 q) fun us s2 ⟨vs,H2,I3,r,q2⟩=>⟨I3.kIn,run_fnS (us:=us) (vs:=vs) (F.mono hj) hr hb hx I3 r q2⟩) hst hpl
theorem rd_callS{σ:St}{H:Hp}{Q:VK}:tCallS sp EE t σ H Q=t σ H fun vs H1=>sp vs H1 Q (EE σ):=rfl
end
end L2
namespace N20
open L2 N1 N5 N4 N6 N12 N32 N14
theorem join_nilL:∀(l:List Nat),Str.join (Str.ofString "") (l.map fun c=>(⟨#[c]⟩:Str))=tx l
 | []=>T_empty
 | [c]=>rfl
 | c::d::r=>by
  have ih:=join_nilL (d::r)
  show (⟨#[c]⟩:Str)++Str.ofString ""++Str.join (Str.ofString "") ((d::r).map fun c=>(⟨#[c]⟩:Str))=tx (c::d::r)
  rw [ih,T_one,T_nil,T_app,T_app]
  rfl
theorem join_ones(l:List Nat):Txt.join (Str.ofString "") (l.map fun c=>(⟨#[c]⟩:Str))=tx l:=by
 rw [← join_nilL]
 exact StrLaws.glued_eq_join _ _
theorem slice_from{l:List Nat}{n:Int}(h0:0≤n)(h1:n≤l.length):Txt.slice (tx l) (some n) none=tx (l.drop n.toNat):=by
 rw [PyProof.Rows.slice_from_eq (b:=((tx l).length:Int)) h0 (by rw [T_len];exact h1) rfl]
 show tx _=tx _
 rw [T_list,T_len,List.take_of_length_le (by rw [List.length_drop];omega)]
noncomputable def nm3(B:List Nat)(at':Nat)(e:Int)(k:Nat):List Nat:=B.take at'++[bc ((e+k) % 26)]++B.drop (at'+1)++List.replicate (k / 26) 122
theorem nm3_len{B:List Nat}{at':Nat}{e:Int}{k:Nat}(h:at' < B.length):(nm3 B at' e k).length=B.length+k / 26:=by
 unfold nm3
 simp only [List.length_append,List.length_take,List.length_drop,List.length_cons,List.length_nil,List.length_replicate]
 omega
theorem nm3_at{B:List Nat}{at':Nat}{e:Int}{k:Nat}(h:at' < B.length):(nm3 B at' e k)[at']?=some (bc ((e+k) % 26)):=by
 unfold nm3
 rw [List.append_assoc,List.append_assoc,List.getElem?_append_right (by rw [List.length_take];omega)]
 rw [List.length_take,show at' - min at' B.length=0 by omega]
 rfl
theorem nm3_inj{B:List Nat}{at':Nat}{e:Int}{k k':Nat}(h:at' < B.length)(he:nm3 B at' e k=nm3 B at' e k'):k=k':=by
 have e1:=congrArg List.length he
 rw [nm3_len h,nm3_len h]at e1
 have e2:=nm3_at (e:=e) (k:=k) h
 rw [he,nm3_at h]at e2
 have e3:=bc_inj (by omega) (by omega) (by omega) (by omega) (Option.some.inj e2)
 omega
theorem nm3_name{B:List Nat}{at':Nat}{e:Int}{k:Nat}(h:at' < B.length)(h6:B.length≤6)(hk:k < 78)(hB:∀c∈B,c∈letters++figures)(hh:∃c r,B=c::r∧c∈letters):nameB (nm3 B at' e k)=true:=by
 have hall:∀x∈nm3 B at' e k,x∈letters++figures:=by
  intro x hx
  unfold nm3 at hx
  rcases List.mem_append.mp hx with hx | hx
  · rcases List.mem_append.mp hx with hx | hx
    · rcases List.mem_append.mp hx with hx | hx
      · exact hB x (List.mem_of_mem_take hx)
      · rw [List.mem_singleton.mp hx];exact List.mem_append_left _ bc_let
    · exact hB x (List.mem_of_mem_drop hx)
  · rw [List.eq_of_mem_replicate hx];decide
 have hl:=nm3_len (e:=e) (k:=k) h
 have hl1:1≤(nm3 B at' e k).length:=by omega
 have hl8:(nm3 B at' e k).length≤8:=by omega
 have hhd:headIn (nm3 B at' e k) letters=true:=by
  obtain ⟨c,r,rfl,hc⟩:=hh
  cases at' with
  | zero=>exact decide_eq_true bc_let
  | succ n=>exact decide_eq_true hc
 unfold nameB
 rw [decide_eq_true hl1,decide_eq_true hl8,hhd]
 simp only [Bool.true_and]
 exact List.all_eq_true.mpr fun x hx=>decide_eq_true (hall x hx)
noncomputable def sp20_stream:Sp:=fun vs H Q _=>∃(c:Int) (m:Nat),vs=[.int c,.int m]∧m≤1000∧∀(p:Addr) (xs:List Int) (H':Hp),H p=none→Same H H'→H' p=some (.lst (xs.map V.int))→xs.length=m→(∀x∈xs,0≤x)→Q (.ref p) H'
noncomputable def sp20_names:Sp:=fun vs H Q _=>∃(c:Int) (m:Nat),vs=[.int c,.int m]∧m≤60∧∀(p:Addr) (ys:List Str) (H':Hp),H p=none→Same H H'→H' p=some (.lst (ys.map V.str))→ys.length=m→ys.Nodup→(∀y∈ys,nameB y.cps.toList=true)→Q (.ref p) H'
noncomputable def sp20_rows(K:PySem.W.Frag):Sp:=fun vs H Q _=>∃(a:Addr) (ns:List Int),vs=[.ref a]∧SqL K H a (ns.map V.int)∧ns.length≤63∧
 ∀(r:Addr) (as:List Addr) (ts:List Th) (H':Hp),Same H H'→H' r=some (.lst (as.map V.ref))→RowsAt K H' r as ts→1≤ts.length→Q (.ref r) H'
noncomputable def sp20_places(K:PySem.W.Frag):Sp:=fun vs H Q _=>∃(r:Addr) (c:Int) (as:List Addr) (ts:List Th),vs=[.ref r,.int c]∧RowsAt K H r as ts∧1≤ts.length∧∀(n:Int) (H':Hp),Same H H'→1≤n→n≤1000000→(∀t∈ts,t.2.2≤n)→Q (.int n) H'
noncomputable def sp20_asks(K:PySem.W.Frag):Sp:=fun vs H Q _=>∃(a r:Addr) (ns:List Int) (as:List Addr) (ts:List Th),vs=[.ref a,.ref r]∧SqL K H a (ns.map V.int)∧ns.length≤63∧RowsAt K H r as ts∧1≤ts.length∧
 ∀(p:Addr) (ys:List Str) (H':Hp),Same H H'→H' p=some (.lst (ys.map V.str))→ys.length≤200→(∀y∈ys,y∈ts.map (·.1))→Q (.ref p) H'
noncomputable def rmK(ts:List Th):List (Key×V):=ts.map fun t=>(Sum.inr t.1,.int t.2.2)
noncomputable def sp20_rooms(K:PySem.W.Frag):Sp:=fun vs H Q _=>∃(r:Addr) (as:List Addr) (ts:List Th),vs=[.ref r]∧RowsAt K H r as ts∧∀(e:Addr) (H':Hp),Same H H'→H' e=some (.dK (rmK ts))→Q (.ref e) H'
noncomputable def sp20_same(K:PySem.W.Frag):Sp:=fun vs H Q _=>∃(x y:Addr) (as gs as2 gs2:List Addr) (rs:List N14.Row),vs=[.ref x,.ref y]∧H x=some (.lst (as.map V.ref))∧(∀(i:Nat) a,as[i]?=some a→∃xs,H a=some (.tup xs))∧BookAt K H x as gs rs∧BookAt K H y as2 gs2 rs∧rs.length≤200∧∀H',Same H H'→Q (.bl true) H'
end N20
namespace N20
open L2 N1 N5 N4 N6 N12 N32 N14
noncomputable def th0:Th:=(Str.empty,0,0)
theorem th_at{ts:List Th}{i:Nat}(h:i < ts.length):ts[i]?=some (ts.getD i th0):=by
 rw [List.getD_eq_getElem?_getD,List.getElem?_eq_getElem h];rfl
theorem rows_ts{K:PySem.W.Frag}{H:Hp}{D:Addr}{yl:List V}{ts:List Th}(hD:H D=some (.lst yl))(hl:yl.length=ts.length)(hm:ts.length≤60)(nd:(ts.map (·.1)).Nodup)(hn:∀t∈ts,nameB t.1.cps.toList=true∧0≤t.2.1∧t.2.1≤10 ^ 30∧1≤t.2.2∧t.2.2≤1000)
 (hall:∀i y,yl[i]?=some y→∃t,y=V.ref t∧SqT K H t [.str (ts.getD i th0).1,.int (ts.getD i th0).2.1,.int (ts.getD i th0).2.2]):∃as,yl=as.map V.ref∧RowsAt K H D as ts:=by
 have e:yl=(yl.map aOf).map V.ref:=by
  rw [List.map_map]
  refine (List.map_id yl).symm.trans (List.map_congr_left fun y hy=>?_)
  obtain ⟨i,hi⟩:=List.mem_iff_getElem?.mp hy
  obtain ⟨t,rfl,_⟩:=hall i y hi
  rfl
 refine ⟨yl.map aOf,e,⟨by rw [← e];exact SqL.of hD,by rw [List.length_map,hl],hm,fun i a t h1 h2=>?_,hn,nd⟩⟩
 rw [List.getElem?_map]at h1
 have hi:i < ts.length:=(List.getElem?_eq_some_iff.mp h2).1
 rw [th_at hi]at h2
 cases h2
 cases hy':yl[i]? with
 | none=>rw [hy']at h1;cases h1
 | some y=>
  rw [hy']at h1
  obtain ⟨t,rfl,hs⟩:=hall i y hy'
  cases h1
  exact hs
noncomputable def mkTs(ys:List Str)(xs:List Int)(m:Nat)(w:Int):List Th:=(List.range m).map fun k=>(ys.getD k Str.empty,xs.getD k 0 % 1000,1+xs.getD (m+k) 0 % w)
theorem mkTs_len{ys:List Str}{xs:List Int}{m:Nat}{w:Int}:(mkTs ys xs m w).length=m:=by unfold mkTs;rw [List.length_map,List.length_range]
theorem mkTs_at{ys:List Str}{xs:List Int}{m:Nat}{w:Int}{k:Nat}(h:k < m):(mkTs ys xs m w).getD k th0=(ys.getD k Str.empty,xs.getD k 0 % 1000,1+xs.getD (m+k) 0 % w):=by
 unfold mkTs
 rw [List.getD_eq_getElem?_getD,List.getElem?_map,List.getElem?_range h];rfl
theorem mkTs_names{ys:List Str}{xs:List Int}{m:Nat}{w:Int}(h:ys.length=m):(mkTs ys xs m w).map (·.1)=ys:=by
 unfold mkTs
 rw [List.map_map,← h]
 refine List.ext_getElem? fun i=>?_
 rw [List.getElem?_map]
 by_cases hi:i < ys.length
 · rw [List.getElem?_range hi,List.getElem?_eq_getElem hi]
   show some (ys.getD i Str.empty)=_
   rw [List.getD_eq_getElem?_getD,List.getElem?_eq_getElem hi];rfl
 · rw [List.getElem?_eq_none (by rw [List.length_range];omega),List.getElem?_eq_none (by omega)];rfl
theorem cat_ints(a b:List Int):a.map V.int++b.map V.int=(a++b).map V.int:=(List.map_append ..).symm
theorem sum_bounds:∀{l:List Int},(∀x∈l,1≤x∧x≤1000)→(l.length:Int)≤l.sum∧l.sum≤1000 * (l.length:Int)
 | [],_=>by simp
 | x::r,h=>by
  have h1:=h x (List.mem_cons_self ..)
  have h2:=sum_bounds (l:=r) fun y hy=>h y (List.mem_cons_of_mem _ hy)
  rw [List.sum_cons,List.length_cons]
  omega
theorem cut_8_68(ns:List Int):∃cs:List Int,cutV (ns.map V.int) (some 8) (some 68)=cs.map V.int∧cs.length≤ns.length - 8:=by
 unfold cutV
 rw [← List.map_drop,← List.map_take]
 refine ⟨_,rfl,?_⟩
 rw [List.length_take,List.length_drop,List.length_map]
 have e:HT.sIx ns.length 0 (some 8)=min 8 ns.length:=HT.sIx_nat _ _ 8
 rw [e]
 omega
noncomputable def pick1(ts:List Th)(c:Int):Str:=(ts.getD (c % (ts.length:Int)).toNat th0).1
noncomputable def pickV(ts:List Th):V→V
 | .int c=> .str (pick1 ts c)
 | _=> .non
theorem pickV_list{ts:List Th}{cs:List Int}:(cs.map V.int).map (pickV ts)=(cs.map (pick1 ts)).map V.str:=by
 rw [List.map_map,List.map_map];rfl
theorem zz_slice{k:Nat}(h:k < 78):Txt.slice (Str.ofString "zz") none (some ((k:Int) / 26))=tx (List.replicate (k / 26) 122):=by
 have e:Str.ofString "zz"=tx [122,122]:=by decide+kernel
 rw [e,slice_to (by omega) (by simp only [List.length_cons,List.length_nil];omega),show ((k:Int) / 26).toNat=k / 26 by omega]
 have hq:k / 26=0∨k / 26=1∨k / 26=2:=by omega
 rcases hq with e | e | e <;> rw [e] <;> rfl
theorem int_at{xs:List Int}{i:Nat}(h:i < xs.length):xs[i]?=some (xs.getD i 0):=by
 rw [List.getD_eq_getElem?_getD,List.getElem?_eq_getElem h];rfl
end N20
namespace NQ
open K03
noncomputable def rt(U v:Int):Int×Int:=(v.fdiv (Int.gcd v U:Nat),U.fdiv (Int.gcd v U:Nat))
section
variable {U W v w i x y:Int}
theorem rt_all(h:0 < U):(rt U v).1 * U=v * (rt U v).2∧0 < (rt U v).2∧Int.gcd (rt U v).1 (rt U v).2=1∧(rt U v).1.natAbs≤v.natAbs∧(rt U v).2.natAbs≤U.natAbs:=by
 have hg:0 < Int.gcd v U:=Nat.pos_of_ne_zero fun z=>by have:=(Int.gcd_eq_zero_iff.mp z).2;omega
 exact lowest (d:=((Int.gcd v U:Nat):Int)) (by omega) (Int.natAbs_natCast _) ⟨fun _=>h,fun _=>by omega⟩
theorem dvd_cop{a b c:Int}(h:b ∣ a * c)(g:Int.gcd a b=1):b ∣ c:=by
 rw [← Int.natAbs_dvd_natAbs]at h ⊢
 rw [Int.natAbs_mul]at h
 exact Nat.Coprime.dvd_of_dvd_mul_left (show Nat.gcd b.natAbs a.natAbs=1 by rw [Nat.gcd_comm];exact g) h
theorem rt_uniq{p:Int×Int}(h:0 < U)(h1:0 < p.2)(h2:Int.gcd p.1 p.2=1)(h3:p.1 * U=v * p.2):p=rt U v:=by
 obtain ⟨c1,c2,c3,_⟩:=rt_all (v:=v) h
 generalize rt U v=q at c1 c2 c3
 have e:p.1 * q.2=q.1 * p.2:=by
  have:(p.1 * q.2) * U=(q.1 * p.2) * U:=by
   have a1:(p.1 * q.2) * U=(p.1 * U) * q.2:=by simp only [Int.mul_assoc,Int.mul_comm,Int.mul_left_comm]
   have a2:(q.1 * p.2) * U=(q.1 * U) * p.2:=by simp only [Int.mul_assoc,Int.mul_comm,Int.mul_left_comm]
   rw [a1,a2,h3,c1]
   simp only [Int.mul_assoc,Int.mul_comm,Int.mul_left_comm]
  exact Int.eq_of_mul_eq_mul_right (by omega) this
 have d1:p.2 ∣ q.2:=by
  have:p.2 ∣ p.1 * q.2:=by rw [e];exact Int.dvd_mul_left ..
  exact dvd_cop this h2
 have d2:q.2 ∣ p.2:=by
  have:q.2 ∣ q.1 * p.2:=by rw [← e];exact Int.dvd_mul_left ..
  exact dvd_cop this c3
 have e2:p.2=q.2:=Int.dvd_antisymm (by omega) (by omega) d1 d2
 have e1:p.1=q.1:=by
  rw [e2]at e
  exact Int.eq_of_mul_eq_mul_right (by omega) e
 exact Prod.ext e1 e2
theorem rt_eq(hU:0 < U)(hW:0 < W)(h:i * U=v * W):rt W i=rt U v:=by
 obtain ⟨c1,c2,c3,_⟩:=rt_all (v:=i) hW
 refine rt_uniq hU c2 c3 ?_
 have:((rt W i).1 * U) * W=(v * (rt W i).2) * W:=by
  have a1:((rt W i).1 * U) * W=((rt W i).1 * W) * U:=by simp only [Int.mul_assoc,Int.mul_comm,Int.mul_left_comm]
  rw [a1,c1]
  have a2:i * (rt W i).2 * U=(i * U) * (rt W i).2:=by simp only [Int.mul_assoc,Int.mul_comm,Int.mul_left_comm]
  rw [a2,h]
  simp only [Int.mul_assoc,Int.mul_comm,Int.mul_left_comm]
 exact Int.eq_of_mul_eq_mul_right (by omega) this
theorem rt_zero(hU:0 < U):rt U 0=(0,1):=(rt_uniq hU (p:=(0,1)) (by decide) (by decide) (by simp)).symm
theorem rt_plus(hU:0 < U):rt ((rt U x).2 * (rt U y).2) ((rt U x).1 * (rt U y).2+(rt U y).1 * (rt U x).2)=rt U (x+y):=by
 obtain ⟨a1,a2,_⟩:=rt_all (v:=x) hU
 obtain ⟨b1,b2,_⟩:=rt_all (v:=y) hU
 refine rt_eq hU (Int.mul_pos a2 b2) ?_
 rw [Int.add_mul,Int.add_mul,show (rt U x).1 * (rt U y).2 * U=((rt U x).1 * U) * (rt U y).2 by simp only [Int.mul_assoc,Int.mul_comm,Int.mul_left_comm],show (rt U y).1 * (rt U x).2 * U=((rt U y).1 * U) * (rt U x).2 by simp only [Int.mul_assoc,Int.mul_comm,Int.mul_left_comm],a1,b1]
 simp only [Int.mul_assoc,Int.mul_comm,Int.mul_left_comm]
theorem rt_minus(hU:0 < U):rt ((rt U x).2 * (rt U y).2) ((rt U x).1 * (rt U y).2 - (rt U y).1 * (rt U x).2)=rt U (x - y):=by
 obtain ⟨a1,a2,_⟩:=rt_all (v:=x) hU
 obtain ⟨b1,b2,_⟩:=rt_all (v:=y) hU
 refine rt_eq hU (Int.mul_pos a2 b2) ?_
 rw [Int.sub_mul,Int.sub_mul,show (rt U x).1 * (rt U y).2 * U=((rt U x).1 * U) * (rt U y).2 by simp only [Int.mul_assoc,Int.mul_comm,Int.mul_left_comm],show (rt U y).1 * (rt U x).2 * U=((rt U y).1 * U) * (rt U x).2 by simp only [Int.mul_assoc,Int.mul_comm,Int.mul_left_comm],a1,b1]
 simp only [Int.mul_assoc,Int.mul_comm,Int.mul_left_comm]
theorem rt_of(hU:0 < U)(hW:0 < W)(h:W ∣ U):rt W i=rt U (i * (U / W)):=by
 refine rt_eq hU hW ?_
 rw [Int.mul_assoc,Int.ediv_mul_cancel h]
theorem rt_under(hU:0 < U):(rt U x).1 * (rt U y).2 < (rt U y).1 * (rt U x).2↔x < y:=by
 obtain ⟨a1,a2,_⟩:=rt_all (v:=x) hU
 obtain ⟨b1,b2,_⟩:=rt_all (v:=y) hU
 have e1:((rt U x).1 * (rt U y).2) * U=x * ((rt U x).2 * (rt U y).2):=by
  rw [show (rt U x).1 * (rt U y).2 * U=((rt U x).1 * U) * (rt U y).2 by simp only [Int.mul_assoc,Int.mul_comm,Int.mul_left_comm],a1,Int.mul_assoc]
 have e2:((rt U y).1 * (rt U x).2) * U=y * ((rt U x).2 * (rt U y).2):=by
  rw [show (rt U y).1 * (rt U x).2 * U=((rt U y).1 * U) * (rt U x).2 by simp only [Int.mul_assoc,Int.mul_comm,Int.mul_left_comm],b1]
  simp only [Int.mul_assoc,Int.mul_comm,Int.mul_left_comm]
 have hp:=Int.mul_pos a2 b2
 constructor
 · intro h
   have:=Int.mul_lt_mul_of_pos_right h hU
   rw [e1,e2]at this
   exact Int.lt_of_mul_lt_mul_right this (by omega)
 · intro h
   have:=Int.mul_lt_mul_of_pos_right h hp
   rw [← e1,← e2]at this
   exact Int.lt_of_mul_lt_mul_right this (by omega)
end
end NQ
namespace L2
noncomputable def Itk(o:Obj)(d:Addr):It:=
 ⟨fun i H=>∃kvs p,H d=some (.frz o (.dK kvs))∧kvs[i]?=some p,fun i H v H'=>H'=H∧∀kvs,H d=some (.frz o (.dK kvs))→∃p,kvs[i]?=some p∧v=kV p.1,
  fun i H=>∃kvs,H d=some (.frz o (.dK kvs))∧kvs.length≤i⟩
section
variable {X:Cx}
noncomputable def iDict(tl:TE):TI:=fun σ H R=>tl σ H fun x H1=>∃d kvs,x= .ref d∧((H1 d=some (.dK kvs)∧∀o,R (Itk o d) (upd H1 d (.frz o (.dK kvs))))∨∃o,H1 d=some (.frz o (.dK kvs))∧R (Itk o d) H1)
end
section
variable {σ:St} {H:Hp} {D:Ends}
theorem rd_idict{tl:TE}{R:It→Hp→Prop}:iDict tl σ H R=tl σ H fun x H1=>∃d kvs,x= .ref d∧((H1 d=some (.dK kvs)∧∀o,R (Itk o d) (upd H1 d (.frz o (.dK kvs))))∨∃o,H1 d=some (.frz o (.dK kvs))∧R (Itk o d) H1):=rfl
end
end L2
namespace L2
section
variable {X:Cx} {pins:List (Addr×Obj)} {σ:St} {H:Hp} {s:Shared}
noncomputable def Thw(H0:Hp)(R:Hp→Prop)(H:Hp):Prop:=R H∨∃d o u,H d=some (.frz o u)∧(∀o' u',H0 d≠some (.frz o' u'))∧R (upd H d u)
noncomputable def tThaw(H0:Hp)(t:TS):TS:=fun D σ H=>t {D with nx:=fun σ H=>Thw H0 (D.nx σ) H,rt:=fun v H=>Thw H0 (D.rt v) H} σ H
end
theorem rd_thaw{H0:Hp}{t:TS}{D:Ends}{σ:St}{H:Hp}:tThaw H0 t D σ H=t {D with nx:=fun σ H=>Thw H0 (D.nx σ) H,rt:=fun v H=>Thw H0 (D.rt v) H} σ H:=rfl
end L2
namespace L2
noncomputable def CHug(i j:Int):Prop:=i.natAbs < 10 ^ 1000∧j.natAbs < 10 ^ 1000
theorem hug_pow:(10:Nat) ^ 1000≤2 ^ 4000:=by decide+kernel
theorem bits_hug{i:Int}(h:i.natAbs < 10 ^ 1000):Builtin.Int.intBits i≤2 ^ 20:=by
 have h1:Builtin.Int.intBits i≤4000:=by
  unfold Builtin.Int.intBits
  split
  · omega
  · rename_i hne
    have:=(Nat.log2_lt (n:=i.natAbs) (k:=4000) (by simpa using hne)).mpr (Nat.lt_of_lt_of_le h hug_pow)
    omega
 exact Nat.le_trans h1 (by decide)
section
variable {X:Cx}
theorem op_mulH:OpR X (binaryOp .Mult) (rI CHug fun i j=> .int (i * j)):=opI fun _ _ _ _ _ _ _ hc q=>mul_int q (.of_bits (bits_hug hc.1) (bits_hug hc.2))
theorem op_fdivH:OpR X (binaryOp .FloorDiv) (rI (fun _ j=>j≠0∧j.natAbs < 10 ^ 1000) fun i j=> .int (i.fdiv j)):=opI fun i j _ _ _ _ _ hc q=>by
 refine floordiv_int hc.1 q (.inl (PyProof.noPylong_of_log2 ?_))
 have h0:j.natAbs≠0:=by have:=hc.1;omega
 exact Nat.lt_trans ((Nat.log2_lt h0).mpr (Nat.lt_of_lt_of_le hc.2 hug_pow)) (by decide)
end
end L2
namespace N57
open L2 N1 N5 N4 N6 N12 N32 N14 N20 NQ
noncomputable def RtA(H:Hp)(a:Addr)(U v:Int):Prop:=H a=some (.tup [.int (rt U v).1,.int (rt U v).2])
noncomputable def RtsA(H:Hp)(us:List Addr)(U:Int)(rs:List Int):Prop:=us.length=rs.length∧∀(i:Nat) (a:Addr) (v:Int),us[i]?=some a→rs[i]?=some v→RtA H a U v
structure Un(U:Int)(ts:List Th):Prop where
 p:0 < U
 b:U≤10 ^ 180
 r:∀t∈ts,1≤t.2.2∧t.2.2≤1000∧t.2.2 ∣ U
 c:∀t∈ts,0≤t.2.1∧t.2.1≤10 ^ 30
noncomputable def Bd(v:Int):Prop:=0≤v∧v≤10 ^ 230
noncomputable def sh(U:Int)(ts:List Th)(z:Str):Int:=N41.cst ts z * (U / rm ts z)
noncomputable def N74s{α:Type}(f:Str→α)(z:Str)(v:α):Str→α:=fun y=>if y=z then v else f y
structure DuX where
 rp:Addr
 dd:Addr
 rr:Addr
structure DuS where
 r:Int
 ks:List Str
 f:Str→Int
 rs:List Int
structure Dfs(p:Addr)(n:Int)(x:DuX)(fs:List (Str×V)):Prop where
 st:fs.lookup (Str.ofString "stock")=some (.ref p)
 pl:fs.lookup (Str.ofString "places")=some (.int n)
 re:fs.lookup (Str.ofString "reached")=some (.ref x.rp)
 du:fs.lookup (Str.ofString "dues")=some (.ref x.dd)
 ri:fs.lookup (Str.ofString "rises")=some (.ref x.rr)
 n:fs.length < 500
 m:∀m∈[Str.ofString "asked",Str.ofString "owe",Str.ofString "choice",Str.ofString "gone",Str.ofString "came",Str.ofString "level",Str.ofString "due_of",Str.ofString "prices"],fs.lookup m=none
theorem putF_same{f:Str}{v:V}:∀{fs:List (Str×V)},(fs.lookup f).isSome=true→(putF f v fs).length=fs.length:=by
 intro fs
 induction fs with
 | nil=>intro h;cases h
 | cons a r ih=>
  obtain ⟨g,y⟩:=a
  intro h
  show (if g=f then (g,v)::r else (g,y)::putF f v r).length=_
  by_cases e:g=f
  · rw [if_pos e];rfl
  · rw [if_neg e]
    have h2:(r.lookup f).isSome=true:=by
     rw [List.lookup_cons]at h
     rw [show (f==g)=false from by simpa using fun k=>e k.symm]at h
     exact h
    rw [List.length_cons,ih h2];rfl
theorem Dfs.reach{p:Addr}{n:Int}{x:DuX}{fs:List (Str×V)}{a:Addr}(h:Dfs p n x fs):Dfs p n {x with rp:=a} (putF (Str.ofString "reached") (.ref a) fs):=by
 have ne:∀f,f≠Str.ofString "reached"→(putF (Str.ofString "reached") (V.ref a) fs).lookup f=fs.lookup f:=fun f hf=>by rw [lookup_putF,if_neg hf]
 refine ⟨by rw [ne _ (by decide)];exact h.st,by rw [ne _ (by decide)];exact h.pl,by rw [lookup_putF,if_pos rfl],by rw [ne _ (by decide)];exact h.du,by rw [ne _ (by decide)];exact h.ri,?_,fun m hm=>?_⟩
 · rw [putF_same (by rw [h.re];rfl)];exact h.n
 · rw [ne m (fun e=>by rw [e]at hm;revert hm;decide)];exact h.m m hm
structure DuAt(C:Addr)(U:Int)(H:Hp)(q p:Addr)(n:Int)(x:DuX)(s:DuS):Prop where
 o:∃dx fs,H q=some (.ins C dx fs)∧Dfs p n x fs
 rp:RtA H x.rp U s.r
 dd:∃kvs,H x.dd=some (.dK kvs)∧kvs.map (·.1)=s.ks.map Sum.inr∧∀y∈s.ks,∃a,valV kvs (Sum.inr y)=some (.ref a)∧RtA H a U (s.f y)
 rr:∃us,H x.rr=some (.lst (us.map V.ref))∧RtsA H us U s.rs
 nd:s.ks.Nodup
 b:Bd s.r∧(∀y∈s.ks,Bd (s.f y))∧(∀v∈s.rs,Bd v)
 l:s.ks.length≤100∧s.rs.length≤1000
section
variable {C:Addr} {U:Int} {H H':Hp} {q p:Addr} {n:Int} {x:DuX} {s:DuS} {us:List Addr} {rs:List Int} {ts:List Th}
theorem RtsA.keep(h:RtsA H us U rs)(k:∀v e,H v=some (.tup e)→H' v=some (.tup e)):RtsA H' us U rs:=⟨h.1,fun i a v h1 h2=>k _ _ (h.2 i a v h1 h2)⟩
noncomputable def DuM(q:Addr)(x:DuX):List Addr:=[q,x.dd,x.rr]
theorem DuAt.keep(h:DuAt C U H q p n x s)(k1:∀b∈DuM q x,∀o,H b=some o→H' b=some o)(k:∀v e,H v=some (.tup e)→H' v=some (.tup e)):DuAt C U H' q p n x s:=by
 obtain ⟨dx,fs,ho,hf⟩:=h.o
 obtain ⟨kvs,d1,d2,d3⟩:=h.dd
 obtain ⟨us,r1,r2⟩:=h.rr
 exact ⟨⟨dx,fs,k1 _ (by simp [DuM]) _ ho,hf⟩,k _ _ h.rp,⟨kvs,k1 _ (by simp [DuM]) _ d1,d2,fun y hy=>by obtain ⟨a,e1,e2⟩:=d3 y hy;exact ⟨a,e1,k _ _ e2⟩⟩,⟨us,k1 _ (by simp [DuM]) _ r1,r2.keep k⟩,h.nd,h.b,h.l⟩
theorem DuAt.same(h:DuAt C U H q p n x s)(m:Same H H'):DuAt C U H' q p n x s:=h.keep (fun b _ o e=>m _ _ e) fun v e hv=>m _ _ hv
theorem Un.sh(h:Un U ts)(nd:(ts.map (·.1)).Nodup){z:Str}(hz:z∈ts.map (·.1)):0≤sh U ts z∧sh U ts z≤10 ^ 210∧1≤rm ts z∧rm ts z≤1000∧rm ts z ∣ U∧0≤N41.cst ts z∧N41.cst ts z≤10 ^ 30:=by
 obtain ⟨i,t,ht,e⟩:=mem_nth hz
 have hm:=List.mem_of_getElem? ht
 obtain ⟨r1,r2,r3⟩:=h.r t hm
 obtain ⟨c1,c2⟩:=h.c t hm
 have e1:rm ts z=t.2.2:=by rw [← e];exact rm_at nd ht
 have e2:N41.cst ts z=t.2.1:=by rw [← e];exact N41.cst_at nd ht
 unfold N57.sh
 rw [e1,e2]
 have hd:0≤U / t.2.2:=Int.ediv_nonneg (by have:=h.p;omega) (by omega)
 have hd2:U / t.2.2≤U:=Int.ediv_le_self _ (by have:=h.p;omega)
 have hb:=h.b
 refine ⟨Int.mul_nonneg c1 hd,?_,r1,r2,r3,c1,c2⟩
 calc t.2.1 * (U / t.2.2)≤10 ^ 30 * 10 ^ 180:=Int.mul_le_mul c2 (by omega) hd (by decide)
  _=10 ^ 210:=by decide
end
theorem drop_keys{kvs:List (Key×V)}{ks:List Str}{z:Str}(h:kvs.map (·.1)=ks.map Sum.inr)(nd:ks.Nodup):(dropK kvs (Sum.inr z)).map (·.1)=(ks.erase z).map Sum.inr:=by
 unfold dropK
 rw [nd.erase_eq_filter]
 clear nd
 induction kvs generalizing ks with
 | nil=>
  cases ks with
  | nil=>rfl
  | cons k ks=>cases h
 | cons p kvs ih=>
  cases ks with
  | nil=>cases h
  | cons k ks=>
  rw [List.map_cons,List.map_cons]at h
  have h1:p.1=Sum.inr k:=(List.cons.inj h).1
  have h2:=ih (List.cons.inj h).2
  by_cases e:k=z
  · rw [List.filter_cons_of_neg (by rw [h1,e];simp),List.filter_cons_of_neg (by rw [e];simp)];exact h2
  · rw [List.filter_cons_of_pos (by rw [h1];simpa using e),List.filter_cons_of_pos (by simpa using e),List.map_cons,List.map_cons,h1,h2]
theorem drop_val{kvs:List (Key×V)}{k j:Key}(n:j≠k):valV (dropK kvs k) j=valV kvs j:=by
 induction kvs with
 | nil=>rfl
 | cons p r ih=>
  unfold dropK at ih ⊢
  by_cases e:p.1=k
  · rw [List.filter_cons_of_neg (by simpa using e),ih,valV_neg (fun h=>n (by rw [← h,e]))]
  · rw [List.filter_cons_of_pos (by simpa using e)]
    by_cases e2:p.1=j
    · rw [valV_pos e2,valV_pos e2]
    · rw [valV_neg e2,valV_neg e2,ih]
theorem keys_val{kvs:List (Key×V)}{ks:List Str}(h:kvs.map (·.1)=ks.map Sum.inr)(z:Str):(valV kvs (Sum.inr z)).isSome=decide (z∈ks):=by
 induction kvs generalizing ks with
 | nil=>
  cases ks with
  | nil=>rfl
  | cons k ks=>cases h
 | cons p kvs ih=>
  cases ks with
  | nil=>cases h
  | cons k ks=>
  rw [List.map_cons,List.map_cons]at h
  have h1:p.1=Sum.inr k:=(List.cons.inj h).1
  have h2:=ih (List.cons.inj h).2
  by_cases e:z=k
  · rw [valV_pos (by rw [h1,e]),e];simp
  · rw [valV_neg (by rw [h1];exact fun k'=>e (Sum.inr.inj k').symm),h2]
    simp [e]
section
variable {C:Addr} {U:Int} {H H':Hp} {q p:Addr} {n:Int} {x:DuX} {s:DuS} {us:List Addr} {rs:List Int} {ts:List Th} {z:Str} {a:Addr}
theorem DuAt.nq(h:DuAt C U H q p n x s):q≠x.dd∧q≠x.rr∧x.dd≠x.rr:=by
 obtain ⟨dx,fs,ho,_⟩:=h.o
 obtain ⟨kvs,d1,_⟩:=h.dd
 obtain ⟨us,r1,_⟩:=h.rr
 exact ⟨ne_of ho d1 (by intro z;cases z),ne_of ho r1 (by intro z;cases z),ne_of d1 r1 (by intro z;cases z)⟩
theorem DuAt.put(h:DuAt C U H q p n x s){kvs:List (Key×V)}(hk:H x.dd=some (.dK kvs)){v:Int}(ha:RtA H a U v)(hz:z∉s.ks)(hv:Bd v)(hl:s.ks.length < 100):DuAt C U (upd H x.dd (.dK (putK kvs (Sum.inr z) (.ref a)))) q p n x ⟨s.r,s.ks++[z],N74s s.f z v,s.rs⟩:=by
 obtain ⟨dx,fs,ho,hf⟩:=h.o
 obtain ⟨kvs',d1,d2,d3⟩:=h.dd
 obtain ⟨us,r1,r2⟩:=h.rr
 rw [hk]at d1
 cases d1
 obtain ⟨e1,e2,e3⟩:=h.nq
 have kt:∀v e,H v=some (.tup e)→upd H x.dd (.dK (putK kvs (Sum.inr z) (.ref a))) v=some (.tup e):=fun v e hv=>by rw [upd_ne (ne_of hv hk (by intro z;cases z))];exact hv
 refine ⟨⟨dx,fs,by rw [upd_ne e1];exact ho,hf⟩,kt _ _ h.rp,⟨_,upd_same,N8.put_keys d2 hz,fun y hy=>?_⟩,⟨us,by rw [upd_ne e3.symm];exact r1,r2.keep kt⟩,?_,⟨h.b.1,fun y hy=>?_,h.b.2.2⟩,?_,h.l.2⟩
 · by_cases e:y=z
   · refine ⟨a,by rw [valV_put,if_pos (by rw [e])],?_⟩
     show RtA _ a U (N74s s.f z v y)
     rw [show N74s s.f z v y=v from if_pos e];exact kt _ _ ha
   · obtain ⟨b,k1,k2⟩:=d3 y ((List.mem_append.mp hy).resolve_right fun k=>e (List.mem_singleton.mp k))
     refine ⟨b,by rw [valV_put,if_neg (fun k=>e (Sum.inr.inj k))];exact k1,?_⟩
     show RtA _ b U (N74s s.f z v y)
     rw [show N74s s.f z v y=s.f y from if_neg e];exact kt _ _ k2
 · exact List.nodup_append.mpr ⟨h.nd,by simp,fun a ha b hb e=>hz (by rw [← List.mem_singleton.mp hb,← e];exact ha)⟩
 · by_cases e:y=z
   · show Bd (N74s s.f z v y);rw [show N74s s.f z v y=v from if_pos e];exact hv
   · show Bd (N74s s.f z v y);rw [show N74s s.f z v y=s.f y from if_neg e];exact h.b.2.1 y ((List.mem_append.mp hy).resolve_right fun k=>e (List.mem_singleton.mp k))
 · show (s.ks++[z]).length≤100
   rw [List.length_append];simp only [List.length_cons,List.length_nil];omega
theorem DuAt.drop(h:DuAt C U H q p n x s){kvs:List (Key×V)}(hk:H x.dd=some (.dK kvs)):DuAt C U (upd H x.dd (.dK (dropK kvs (Sum.inr z)))) q p n x ⟨s.r,s.ks.erase z,s.f,s.rs⟩:=by
 obtain ⟨dx,fs,ho,hf⟩:=h.o
 obtain ⟨kvs',d1,d2,d3⟩:=h.dd
 obtain ⟨us,r1,r2⟩:=h.rr
 rw [hk]at d1
 cases d1
 obtain ⟨e1,e2,e3⟩:=h.nq
 have kt:∀v e,H v=some (.tup e)→upd H x.dd (.dK (dropK kvs (Sum.inr z))) v=some (.tup e):=fun v e hv=>by rw [upd_ne (ne_of hv hk (by intro z;cases z))];exact hv
 refine ⟨⟨dx,fs,by rw [upd_ne e1];exact ho,hf⟩,kt _ _ h.rp,⟨_,upd_same,drop_keys d2 h.nd,fun y hy=>?_⟩,⟨us,by rw [upd_ne e3.symm];exact r1,r2.keep kt⟩,h.nd.erase z,⟨h.b.1,fun y hy=>h.b.2.1 y (List.mem_of_mem_erase hy),h.b.2.2⟩,?_,h.l.2⟩
 · have hyz:y≠z:=((List.Nodup.mem_erase_iff h.nd).mp hy).1
   obtain ⟨b,k1,k2⟩:=d3 y (List.mem_of_mem_erase hy)
   exact ⟨b,by rw [drop_val (fun k=>hyz (Sum.inr.inj k))];exact k1,kt _ _ k2⟩
 · exact Nat.le_trans (List.length_erase_le) h.l.1
theorem RtsA.set{us:List Addr}{rs:List Int}{k:Nat}{v:Int}(h:RtsA H us U rs)(ha:RtA H a U v):RtsA H (us.set k a) U (rs.set k v):=⟨by rw [List.length_set,List.length_set,h.1],fun i b w h1 h2=>by
 rw [List.getElem?_set]at h1 h2
 by_cases e:k=i
 · rw [if_pos e]at h1 h2
   split at h1
   · split at h2
     · cases h1;cases h2;exact ha
     · cases h2
   · cases h1
 · rw [if_neg e]at h1 h2
   exact h.2 i b w h1 h2⟩
theorem DuAt.reach(h:DuAt C U H q p n x s){dx:Addr}{fs:List (Str×V)}(ho:H q=some (.ins C dx fs))(hf:Dfs p n x fs){v:Int}(ha:RtA H a U v)(hv:Bd v):DuAt C U (upd H q (.ins C dx (putF (Str.ofString "reached") (.ref a) fs))) q p n {x with rp:=a} ⟨v,s.ks,s.f,s.rs⟩:=by
 obtain ⟨kvs,d1,d2,d3⟩:=h.dd
 obtain ⟨us,r1,r2⟩:=h.rr
 obtain ⟨e1,e2,e3⟩:=h.nq
 have kt:∀v e,H v=some (.tup e)→upd H q (.ins C dx (putF (Str.ofString "reached") (.ref a) fs)) v=some (.tup e):=fun v e hv=>by rw [upd_ne (ne_of hv ho (by intro z;cases z))];exact hv
 exact ⟨⟨dx,_,upd_same,hf.reach⟩,kt _ _ ha,⟨kvs,by rw [upd_ne e1.symm];exact d1,d2,fun y hy=>by obtain ⟨b,k1,k2⟩:=d3 y hy;exact ⟨b,k1,kt _ _ k2⟩⟩,⟨us,by rw [upd_ne e2.symm];exact r1,r2.keep kt⟩,h.nd,⟨hv,h.b.2.1,h.b.2.2⟩,h.l⟩
theorem DuAt.rise(h:DuAt C U H q p n x s){us':List Addr}{rs':List Int}(hr:RtsA H us' U rs')(hb:∀v∈rs',Bd v)(hl:rs'.length≤1000):DuAt C U (upd H x.rr (.lst (us'.map V.ref))) q p n x ⟨s.r,s.ks,s.f,rs'⟩:=by
 obtain ⟨dx,fs,ho,hf⟩:=h.o
 obtain ⟨kvs,d1,d2,d3⟩:=h.dd
 obtain ⟨us,r1,r2⟩:=h.rr
 obtain ⟨e1,e2,e3⟩:=h.nq
 have kt:∀v e,H v=some (.tup e)→upd H x.rr (.lst (us'.map V.ref)) v=some (.tup e):=fun v e hv=>by rw [upd_ne (ne_of hv r1 (by intro z;cases z))];exact hv
 exact ⟨⟨dx,fs,by rw [upd_ne e2];exact ho,hf⟩,kt _ _ h.rp,⟨kvs,by rw [upd_ne e3];exact d1,d2,fun y hy=>by obtain ⟨b,k1,k2⟩:=d3 y hy;exact ⟨b,k1,kt _ _ k2⟩⟩,⟨us',upd_same,hr.keep kt⟩,h.nd,⟨h.b.1,h.b.2.1,hb⟩,h.l.1,hl⟩
end
noncomputable def sp57_ratio:Sp:=fun vs H Q _=>∃(i j:Int),vs=[.int i,.int j]∧0 < j∧j < 10 ^ 1000∧∀p,H p=none→Q (.ref p) (upd H p (.tup [.int (rt j i).1,.int (rt j i).2]))
noncomputable def sp57_plus:Sp:=fun vs H Q _=>∃(a b:Addr) (U x y:Int),vs=[.ref a,.ref b]∧RtA H a U x∧RtA H b U y∧0 < U∧U≤10 ^ 180∧(x.natAbs≤10 ^ 240∧y.natAbs≤10 ^ 240)∧∀p,H p=none→Q (.ref p) (upd H p (.tup [.int (rt U (x+y)).1,.int (rt U (x+y)).2]))
noncomputable def sp57_minus:Sp:=fun vs H Q _=>∃(a b:Addr) (U x y:Int),vs=[.ref a,.ref b]∧RtA H a U x∧RtA H b U y∧0 < U∧U≤10 ^ 180∧(x.natAbs≤10 ^ 240∧y.natAbs≤10 ^ 240)∧∀p,H p=none→Q (.ref p) (upd H p (.tup [.int (rt U (x - y)).1,.int (rt U (x - y)).2]))
noncomputable def sp57_under:Sp:=fun vs H Q _=>∃(a b:Addr) (U x y:Int),vs=[.ref a,.ref b]∧RtA H a U x∧RtA H b U y∧0 < U∧U≤10 ^ 180∧(x.natAbs≤10 ^ 240∧y.natAbs≤10 ^ 240)∧Q (.bl (decide (x < y))) H
noncomputable def sp57_rinit(K:PySem.W.Frag)(C:Addr):Sp:=fun vs H Q _=>∃(q dx p:Addr) (n:Int),vs=[.ref q,.ref p,.int n]∧H q=some (.ins C dx [])∧1≤n∧n≤1000000∧∀H',SameBut q H H'→H' q=some (.ins C dx [(Str.ofString "stock",.ref p),(Str.ofString "places",.int n)])→Q .non H'
noncomputable def sp57_init(C:Addr):Sp:=fun vs H Q _=>∃(q dx p:Addr) (n U:Int),vs=[.ref q,.ref p,.int n]∧H q=some (.ins C dx [])∧1≤n∧n≤1000000∧0 < U∧∀(x:DuX) (H':Hp),SameBut q H H'→(∀b∈[x.dd,x.rr],H b=none)→DuAt C U H' q p n x ⟨0,[],fun _=>0,[]⟩→Q .non H'
noncomputable def sp57_owe(K:PySem.W.Frag)(C S:Addr):Sp:=fun vs H Q _=>∃(q p:Addr) (n U:Int) (x:DuX) (s:DuS) (z:Str) (ts:List Th),vs=[.ref q,.str z]∧DuAt C U H q p n x s∧StockAt K S H p ts∧(ts.map (·.1)).Nodup∧z∈ts.map (·.1)∧z∉s.ks∧Un U ts∧s.ks.length < 100∧s.r≤10 ^ 229∧
 ∀H',Kp (DuM q x) H H'→DuAt C U H' q p n x ⟨s.r,s.ks++[z],N74s s.f z (s.r+sh U ts z),s.rs⟩→Q .non H'
noncomputable def askS(U:Int)(ts:List Th)(s:DuS)(z:Str):DuS:=if z∈s.ks then ⟨s.r,s.ks.erase z++[z],N74s s.f z (s.r+sh U ts z),s.rs++[0]⟩ else ⟨s.r,s.ks,s.f,s.rs++[0]⟩
noncomputable def goneS(s:DuS)(z:Str):DuS:=⟨s.f z,s.ks.erase z,s.f,s.rs.set (s.rs.length - 1) (s.rs.getLastD 0+(s.f z - s.r))⟩
noncomputable def sp57_asked(K:PySem.W.Frag)(C S:Addr):Sp:=fun vs H Q _=>∃(q p:Addr) (n U:Int) (x:DuX) (s:DuS) (z:Str) (ts:List Th),vs=[.ref q,.str z]∧DuAt C U H q p n x s∧StockAt K S H p ts∧(∀H',Kp (DuM q x) H H'→StockAt K S H' p ts)∧(ts.map (·.1)).Nodup∧z∈ts.map (·.1)∧Un U ts∧s.rs.length < 1000∧s.r≤10 ^ 229∧
 ∀H',Kp (DuM q x) H H'→DuAt C U H' q p n x (askS U ts s z)→Q .non H'
noncomputable def sp57_gone(C:Addr):Sp:=fun vs H Q _=>∃(q p:Addr) (n U:Int) (x:DuX) (s:DuS) (z:Str),vs=[.ref q,.str z]∧DuAt C U H q p n x s∧0 < U∧U≤10 ^ 180∧z∈s.ks∧1≤s.rs.length∧Bd (s.rs.getLastD 0+(s.f z - s.r))∧
 ∀(a:Addr) (H':Hp),Kp (DuM q x) H H'→DuAt C U H' q p n {x with rp:=a} (goneS s z)→Q .non H'
noncomputable def sp57_prices(C:Addr):Sp:=fun vs H Q _=>∃(q p:Addr) (n U:Int) (x:DuX) (s:DuS),vs=[.ref q]∧DuAt C U H q p n x s∧∀(l:Addr) (us:List Addr),H l=none→RtsA H us U s.rs→Q (.ref l) (upd H l (.lst (us.map V.ref)))
noncomputable def sp57_rows(K:PySem.W.Frag):Sp:=fun vs H Q _=>∃(a:Addr) (ns:List Int),vs=[.ref a]∧SqL K H a (ns.map V.int)∧ns.length≤63∧
 ∀(r:Addr) (as:List Addr) (ts:List Th) (H':Hp),Same H H'→H' r=some (.lst (as.map V.ref))→RowsAt K H' r as ts→1≤ts.length→(∀t∈ts,t.2.1 < 1000)→Q (.ref r) H'
noncomputable def sp57_priced(K:PySem.W.Frag):Sp:=fun vs H Q _=>∃(r:Addr) (c:Int) (as:List Addr) (ts:List Th),vs=[.ref r,.int c]∧RowsAt K H r as ts∧1≤ts.length∧(∀t∈ts,t.2.1 < 1000)∧
 ∀(r':Addr) (as':List Addr) (ts':List Th) (H':Hp),Same H H'→H' r'=some (.lst (as'.map V.ref))→RowsAt K H' r' as' ts'→1≤ts'.length→Q (.ref r') H'
theorem _root_.N4.RowsAt.snoc{K:PySem.W.Frag}{H H':Hp}{l a:Addr}{as:List Addr}{ts:List Th}{t:Th}{xs:List V}(h:RowsAt K H l as ts)(hl:H l=some (.lst xs))(sb:SameBut l H H')(hl':H' l=some (.lst ((as++[a]).map V.ref)))(ha:SqT K H' a [.str t.1,.int t.2.1,.int t.2.2])(ok:nameB t.1.cps.toList=true∧0≤t.2.1∧t.2.1≤10 ^ 30∧1≤t.2.2∧t.2.2≤1000)(hn:t.1∉ts.map (·.1))(hm:ts.length < 60):RowsAt K H' l (as++[a]) (ts++[t]):=by
 refine ⟨SqL.of hl',by rw [List.length_append,List.length_append,h.n];rfl,by rw [List.length_append];simp only [List.length_cons,List.length_nil];omega,fun i b u e1 e2=>?_,fun u hu=>?_,?_⟩
 · by_cases hi:i < as.length
   · rw [List.getElem?_append_left hi]at e1
     rw [List.getElem?_append_left (by rw [← h.n];exact hi)]at e2
     exact SqT.butL sb hl (h.at_ i b u e1 e2)
   · rw [List.getElem?_append_right (by omega)]at e1
     rw [List.getElem?_append_right (by rw [← h.n];omega)]at e2
     have h0:i - as.length=0:=by
      have:=(List.getElem?_eq_some_iff.mp e1).1
      simp at this;omega
     rw [h0]at e1
     rw [← h.n,h0]at e2
     cases e1
     cases e2
     exact ha
 · rcases List.mem_append.mp hu with hu | hu
   · exact h.ok u hu
   · rw [List.mem_singleton.mp hu];exact ok
 · rw [List.map_append]
   exact List.nodup_append.mpr ⟨h.nd,by simp,fun x hx y hy e=>hn (by have h1:y=t.1:=List.mem_singleton.mp hy;rw [← h1,← e];exact hx)⟩
structure Low(k:Int)(s:DuS):Prop where
 a:0≤s.r
 b:s.r≤k * 10 ^ 210
 c:∀y∈s.ks,s.r≤s.f y∧s.f y≤k * 10 ^ 210
theorem split_last{α:Type}{us:List α}{n:Nat}(h:us.length=n+1):∃pre u,us=pre++[u]∧pre.length=n:=by
 refine ⟨us.dropLast,us.getLast (fun e=>by rw [e]at h;cases h),(List.dropLast_concat_getLast _).symm,by rw [List.length_dropLast];omega⟩
theorem rt_sign{U v:Int}(hU:0 < U)(hv:0≤v):¬(rt U v).1 < 0:=fun h=>by
 obtain ⟨c1,c2,_⟩:=rt_all (v:=v) hU
 have h1:=Int.mul_neg_of_neg_of_pos h hU
 have h2:=Int.mul_nonneg hv (Int.le_of_lt c2)
 omega
theorem sm_perm{f:Str→Int}{a b:List Str}(h:a.Perm b):N41.sm f a=N41.sm f b:=by
 induction h with
 | nil=>rfl
 | cons x _ ih=>rw [N41.sm_cons,N41.sm_cons,ih]
 | swap x y l=>rw [N41.sm_cons,N41.sm_cons,N41.sm_cons,N41.sm_cons];omega
 | trans _ _ i1 i2=>rw [i1,i2]
noncomputable def upr:List Th→Int
 | []=>1
 | t::ts=>t.2.2 * upr ts
theorem upr_all{ts:List Th}(h:∀t∈ts,1≤t.2.2∧t.2.2≤1000):0 < upr ts∧upr ts≤1000 ^ ts.length∧∀t∈ts,t.2.2 ∣ upr ts:=by
 induction ts with
 | nil=>exact ⟨by decide,by decide,fun t ht=>by cases ht⟩
 | cons t ts ih=>
  obtain ⟨i1,i2,i3⟩:=ih fun u hu=>h u (List.mem_cons_of_mem _ hu)
  obtain ⟨h1,h2⟩:=h t List.mem_cons_self
  refine ⟨Int.mul_pos (by omega) i1,?_,fun u hu=>?_⟩
  · show t.2.2 * upr ts≤1000 ^ (ts.length+1)
    rw [Int.pow_succ,Int.mul_comm (1000 ^ ts.length) 1000]
    exact Int.mul_le_mul h2 i2 (by omega) (by decide)
  · rcases List.mem_cons.mp hu with e | hu
    · rw [e];exact Int.dvd_mul_right ..
    · exact Int.dvd_trans (i3 u hu) (Int.dvd_mul_left ..)
theorem pow_up(n:Nat):∀k:Nat,(1000:Int) ^ n≤1000 ^ (n+k):=by
 intro k
 induction k with
 | zero=>exact Int.le_refl _
 | succ k ih=>
  rw [← Nat.add_assoc,Int.pow_succ]
  have:(0:Int)≤1000 ^ (n+k):=Int.pow_nonneg (by decide)
  omega
theorem un_of{ts:List Th}(hl:ts.length≤60)(h:∀t∈ts,nameB t.1.cps.toList=true∧0≤t.2.1∧t.2.1≤10 ^ 30∧1≤t.2.2∧t.2.2≤1000):Un (upr ts) ts:=by
 obtain ⟨h1,h2,h3⟩:=upr_all (ts:=ts) fun t ht=>⟨(h t ht).2.2.2.1,(h t ht).2.2.2.2⟩
 refine ⟨h1,Int.le_trans h2 ?_,fun t ht=>⟨(h t ht).2.2.2.1,(h t ht).2.2.2.2,h3 t ht⟩,fun t ht=>⟨(h t ht).2.1,(h t ht).2.2.1⟩⟩
 have e1:(1000:Int) ^ 60=10 ^ 180:=by decide+kernel
 rw [← e1]
 have:=pow_up ts.length (60 - ts.length)
 rw [show ts.length+(60 - ts.length)=60 by omega]at this
 exact this
end N57
namespace N71
open L2 N1 N5 N4 N6 N12
structure TwA where
 st:Addr
 si:Addr
 ro:Addr
 he:Addr
 la:Addr
 so:Addr
 en:Addr
 fi:Addr
structure TwS where
 zs:List Int
 R:List Str
 kh:List (Key×V)
 kl:List (Key×V)
 ks:List (Key×V)
 es:List V
 ff:List Int
 pd:Int
noncomputable def own(t:Addr)(x:TwA):List Addr:=[t,x.ro,x.he,x.la,x.so,x.en,x.fi]
noncomputable def pre(zs:List Int)(i:Nat):Int:=(zs.take i).sum
noncomputable def f1(x:TwA):List (Str×V):=putF (Str.ofString "sizes") (.ref x.si) (putF (Str.ofString "stock") (.ref x.st) [])
noncomputable def f3(x:TwA):List (Str×V):=putF (Str.ofString "late") (.ref x.la) (putF (Str.ofString "held") (.ref x.he) (putF (Str.ofString "row") (.ref x.ro) (f1 x)))
noncomputable def f6(x:TwA):List (Str×V):=putF (Str.ofString "paid") (.int 0) (putF (Str.ofString "finds") (.ref x.fi) (putF (Str.ofString "entries") (.ref x.en) (putF (Str.ofString "store") (.ref x.so) (f3 x))))
end N71
namespace N18
open L2 N1 N5 N4 N6 N12 N32 N14
end N18
namespace N25
open L2 N1 N5 N4 N6 N12 N32 N14 N20
noncomputable def hgo(R:Str→Int)(n need:Int):Nat→List Str→List Str→List Str→List Str×List Str×List Str
 | 0,L,D,w=>(L,D,w)
 | _+1,[],D,w=>([],D,w)
 | k+1,f::r,D,w=>if need≤n - N41.sm R (f::r) then (f::r,D,w) else if f∈D then hgo R n need k (r++[f]) (D.erase f) w else hgo R n need k r D (w++[f])
noncomputable def hfin(R:Str→Int)(n need:Int)(L D w:List Str):List Str×List Str×List Str:=hgo R n need (L.length+D.length) L D w
noncomputable def mkD(D:List Str)(z:Str):List Str:=if z∈D then D else D++[z]
noncomputable def hask(R:Str→Int)(n:Int)(s:List Str×List Str)(z:Str):(List Str×List Str)×N14.Row:=
 if z∈s.1 then ((s.1,mkD s.2 z),(z,true,[])) else (((hfin R n (R z) s.1 s.2 []).1++[z],mkD (hfin R n (R z) s.1 s.2 []).2.1 z),(z,false,(hfin R n (R z) s.1 s.2 []).2.2))
noncomputable def hst(R:Str→Int)(n:Int)(ys:List Str)(i:Nat):List Str×List Str:=(ys.take i).foldl (fun s z=>(hask R n s z).1) ([],[])
noncomputable def hrow(R:Str→Int)(n:Int)(ys:List Str)(i:Nat):N14.Row:=(hask R n (hst R n ys i) (ys.getD i Str.empty)).2
theorem okl_sum{R:Str→Int}{ns:List Str}:∀{ls:Ly},(∀x∈ls,x.2=R x.1)→lyS ls=N41.sm R (lyN ls)
 | [],_=>rfl
 | x::r,h=>by
  have ih:=okl_sum (R:=R) (ns:=ns) (ls:=r) fun y hy=>h y (List.mem_cons_of_mem _ hy)
  have h1:=h x (List.mem_cons_self ..)
  unfold lyS at ih ⊢
  unfold lyN at ih ⊢
  rw [List.map_cons,List.sum_cons,List.map_cons,N41.sm_cons,ih,h1]
end N25
namespace N25
open L2 N1 N5 N4 N6 N12 N32 N14 N20
theorem kp_of_but{M:List Addr}{a:Addr}{H H':Hp}(s:SameBut a H H')(h:a∈M):Kp M H H':=fun b o n e=>s b o e (fun e2=>n (e2▸h))
theorem kp_none{M:List Addr}{H H':Hp}{b:Addr}(k:Kp M H H')(hb:b∉M)(h:H' b=none):H b=none:=by
 cases e:H b with
 | none=>rfl
 | some o=>rw [k b o hb e]at h;cases h
theorem kp_new{M:List Addr}{H H':Hp}{w:Addr}{o:HO}(k:Kp M H H')(hw:H w=none):Kp M H (upd H' w o):=fun b u n e=>by
 rw [upd_ne (fun h=>by rw [h,hw]at e;cases e)];exact k b u n e
theorem nd_len{L M:List Str}(h:L.Nodup)(hs:∀z∈L,z∈M):L.length≤M.length:=by
 induction L generalizing M with
 | nil=>exact Nat.zero_le _
 | cons x r ih=>
  obtain ⟨hx,hr⟩:=List.nodup_cons.mp h
  have hm:=hs x (List.mem_cons_self ..)
  have:=ih (M:=M.erase x) hr fun z hz=>(List.mem_erase_of_ne (fun e=>hx (by rw [← e];exact hz))).mpr (hs z (List.mem_cons_of_mem _ hz))
  rw [List.length_erase_of_mem hm]at this
  have hp:0 < M.length:=List.length_pos_of_mem hm
  rw [List.length_cons]
  omega
end N25
namespace NR
open L2 N1 N5 N4 N6 N12 N32 N14 N20 N18 N25
structure RuleT where
 C:Addr
 St:Type
 At:Hp→List Addr→Addr→Addr→Int→St→Prop
 asked:Int→St→Str→St
 pick:Int→St→List Str→St×Str
 gone:Int→St→Str→St
 came:Int→St→Str→St
 inv:List Str→Int→St→List Str→Prop
 mid:List Str→Int→Str→St→List Str→Prop
 dep:∀{H H':Hp} {M:List Addr} {q p:Addr} {n:Int} {s:St},(∀m∈M,∀o,H m=some o→H' m=some o)→At H M q p n s→At H' M q p n s
 live:∀{H:Hp} {M:List Addr} {q p:Addr} {n:Int} {s:St},At H M q p n s→∀m∈M,H m≠none
 obj:∀{H:Hp} {M:List Addr} {q p:Addr} {n:Int} {s:St},At H M q p n s→∃dx fs,H q=some (.ins C dx fs)∧fs.lookup ("stock":Str)=some (.ref p)∧fs.lookup ("places":Str)=some (.int n)∧fs.lookup ("asked":Str)=none∧fs.lookup ("choice":Str)=none∧fs.lookup ("gone":Str)=none∧fs.lookup ("came":Str)=none∧fs.lookup ("nests":Str)=none
 i_hit:∀{ns:List Str} {n:Int} {s:St} {l:List Str} {z:Str},inv ns n s l→z∈ns→z∈l→inv ns n (asked n s z) l
 i_mid:∀{ns:List Str} {n:Int} {s:St} {l:List Str} {z:Str},inv ns n s l→z∈ns→z∉l→mid ns n z (asked n s z) l
 i_pick:∀{ns:List Str} {n:Int} {s:St} {l:List Str} {z:Str},mid ns n z s l→l≠[]→(pick n s l).2∈l∧mid ns n z (gone n (pick n s l).1 (pick n s l).2) (l.erase (pick n s l).2)
 i_came:∀{ns:List Str} {n:Int} {s:St} {l:List Str} {z:Str},mid ns n z s l→z∈ns→z∉l→inv ns n (came n s z) (l++[z])
 cnt:St→Nat:=fun _=>0
 c_ask:∀n s z,cnt (asked n s z)≤cnt s+1:=by exact fun _ _ _=>Nat.zero_le _
 c_pick:∀n s l,cnt (pick n s l).1≤cnt s:=by exact fun _ _ _=>Nat.zero_le _
 c_gone:∀n s z,cnt (gone n s z)≤cnt s:=by exact fun _ _ _=>Nat.zero_le _
 c_came:∀n s z,cnt (came n s z)≤cnt s:=by exact fun _ _ _=>Nat.zero_le _
noncomputable def gfin(T:RuleT)(R:Str→Int)(n need:Int):Nat→T.St→List Str→List Str→T.St×List Str×List Str
 | 0,s,l,w=>(s,l,w)
 | k+1,s,l,w=>if need≤n - N41.sm R l then (s,l,w) else gfin T R n need k (T.gone n (T.pick n s l).1 (T.pick n s l).2) (l.erase (T.pick n s l).2) (w++[(T.pick n s l).2])
noncomputable def gf(T:RuleT)(R:Str→Int)(n need:Int)(s:T.St)(l w:List Str):T.St×List Str×List Str:=gfin T R n need l.length s l w
section
variable {T:RuleT} {R:Str→Int} {n need:Int} {s:T.St} {l w ns:List Str} {z:Str}
theorem gf_end(h:need≤n - N41.sm R l):gf T R n need s l w=(s,l,w):=by
 unfold gf
 cases hk:l.length with
 | zero=>rfl
 | succ k=>
  show (if _ then _ else _)=_
  rw [if_pos h]
theorem gf_go(h:¬need≤n - N41.sm R l)(hp:(T.pick n s l).2∈l):gf T R n need s l w=gf T R n need (T.gone n (T.pick n s l).1 (T.pick n s l).2) (l.erase (T.pick n s l).2) (w++[(T.pick n s l).2]):=by
 unfold gf
 have hl:=List.length_erase_of_mem hp
 have h0:0 < l.length:=List.length_pos_of_mem hp
 rw [show l.length=(l.erase (T.pick n s l).2).length+1 by omega]
 show (if _ then _ else _)=_
 rw [if_neg h]
theorem gf_pos:∀(k:Nat) (s:T.St) (l w:List Str),l.length=k→T.mid ns n z s l→need≤n→T.mid ns n z (gf T R n need s l w).1 (gf T R n need s l w).2.1∧need≤n - N41.sm R (gf T R n need s l w).2.1∧(∀u∈(gf T R n need s l w).2.1,u∈l)∧(l.Nodup→(gf T R n need s l w).2.1.Nodup)∧(gf T R n need s l w).2.1.length≤l.length:=by
 intro k
 induction k with
 | zero=>
  intro s l w hk hm hn
  have hL:l=[]:=List.length_eq_zero_iff.mp hk
  subst hL
  have he:need≤n - N41.sm R []:=by rw [N41.sm_nil];omega
  rw [gf_end he]
  exact ⟨hm,he,fun z hz=>hz,id,Nat.le_refl _⟩
 | succ k ih=>
  intro s l w hk hm hn
  by_cases he:need≤n - N41.sm R l
  · rw [gf_end he]
    exact ⟨hm,he,fun z hz=>hz,id,Nat.le_refl _⟩
  · have hne:l≠[]:=fun e=>by rw [e]at hk;cases hk
    obtain ⟨hp,hm2⟩:=T.i_pick hm hne
    rw [gf_go he hp]
    have hl:=List.length_erase_of_mem hp
    obtain ⟨a,b,c,d,e⟩:=ih _ _ (w++[(T.pick n s l).2]) (by omega) hm2 hn
    exact ⟨a,b,fun u hu=>List.mem_of_mem_erase (c u hu),fun hnd=>d (hnd.erase _),by omega⟩
end
noncomputable def gask(T:RuleT)(R:Str→Int)(n:Int)(s:T.St×List Str)(z:Str):(T.St×List Str)×N14.Row:=
 if z∈s.2 then ((T.asked n s.1 z,s.2),(z,true,[]))
 else ((T.came n (gf T R n (R z) (T.asked n s.1 z) s.2 []).1 z,(gf T R n (R z) (T.asked n s.1 z) s.2 []).2.1++[z]),(z,false,(gf T R n (R z) (T.asked n s.1 z) s.2 []).2.2))
noncomputable def gst(T:RuleT)(R:Str→Int)(n:Int)(s0:T.St)(ys:List Str)(i:Nat):T.St×List Str:=(ys.take i).foldl (fun s z=>(gask T R n s z).1) (s0,[])
noncomputable def grow(T:RuleT)(R:Str→Int)(n:Int)(s0:T.St)(ys:List Str)(i:Nat):N14.Row:=(gask T R n (gst T R n s0 ys i) (ys.getD i Str.empty)).2
noncomputable def grows(T:RuleT)(R:Str→Int)(n:Int)(s0:T.St)(ys:List Str)(i:Nat):List N14.Row:=(List.range i).map (grow T R n s0 ys)
section
variable {T:RuleT} {R:Str→Int} {n:Int} {s0:T.St} {ys ns:List Str} {i:Nat} {z:Str}
theorem gst_succ(h:ys[i]?=some z):gst T R n s0 ys (i+1)=(gask T R n (gst T R n s0 ys i) z).1:=by
 unfold gst
 rw [List.take_add_one,h,List.foldl_append];rfl
theorem grow_at(h:ys[i]?=some z):grow T R n s0 ys i=(gask T R n (gst T R n s0 ys i) z).2:=by
 unfold grow
 rw [List.getD_eq_getElem?_getD,h];rfl
theorem grows_succ(h:ys[i]?=some z):grows T R n s0 ys (i+1)=grows T R n s0 ys i++[(gask T R n (gst T R n s0 ys i) z).2]:=by
 unfold grows
 rw [List.range_succ,List.map_append]
 show _++[grow T R n s0 ys i]=_
 rw [grow_at h]
theorem grows_len:(grows T R n s0 ys i).length=i:=by unfold grows;rw [List.length_map,List.length_range]
theorem mem_eq{u v:Str}{l:List Str}(e:u=v)(h:u∈l):v∈l:=e▸h
structure GI(T:RuleT)(ns:List Str)(n:Int)(s:T.St×List Str):Prop where
 i:T.inv ns n s.1 s.2
 nd:s.2.Nodup
 s:∀u∈s.2,u∈ns
theorem GI.ask{s:T.St×List Str}(h:GI T ns n s)(hz:z∈ns)(hR:R z≤n):GI T ns n (gask T R n s z).1:=by
 unfold gask
 split
 · rename_i hm
   exact ⟨T.i_hit h.i hz hm,h.nd,h.s⟩
 · rename_i hm
   obtain ⟨a,b,c,d,e⟩:=gf_pos (R:=R) _ _ _ [] rfl (T.i_mid h.i hz hm) hR
   have hm2:z∉(gf T R n (R z) (T.asked n s.1 z) s.2 []).2.1:=fun hh=>hm (c z hh)
   refine ⟨T.i_came a hz hm2,?_,fun u hu=>?_⟩
   · show ((gf T R n (R z) (T.asked n s.1 z) s.2 []).2.1++[z]).Nodup
     rw [List.nodup_append]
     refine ⟨d h.nd,by simp,fun y hy u hu e=>hm2 (mem_eq (e.trans (List.mem_singleton.mp hu)) hy)⟩
   · rcases List.mem_append.mp hu with hu | hu
     · exact h.s u (c u hu)
     · rw [List.mem_singleton.mp hu];exact hz
theorem gst_inv(h0:T.inv ns n s0 [])(hin:∀y∈ys,y∈ns)(hR:∀y∈ys,R y≤n):∀i,i≤ys.length→GI T ns n (gst T R n s0 ys i)
 | 0,_=>⟨h0,List.nodup_nil,by simp [gst]⟩
 | i+1,h=>by
  have hz:=List.getElem?_eq_getElem (show i < ys.length by omega)
  have hm:=List.mem_of_getElem? hz
  rw [gst_succ hz]
  exact (gst_inv h0 hin hR i (by omega)).ask (hin _ hm) (hR _ hm)
end
theorem gfin_cnt{T:RuleT}{R:Str→Int}{n need:Int}:∀(k:Nat) (s:T.St) (l w:List Str),T.cnt (gfin T R n need k s l w).1≤T.cnt s:=by
 intro k
 induction k with
 | zero=>intro s l w;exact Nat.le_refl _
 | succ k ih=>
  intro s l w
  unfold gfin
  split
  · exact Nat.le_refl _
  · exact Nat.le_trans (ih _ _ _) (Nat.le_trans (T.c_gone _ _ _) (T.c_pick _ _ _))
theorem gask_cnt{T:RuleT}{R:Str→Int}{n:Int}{s:T.St×List Str}{z:Str}:T.cnt (gask T R n s z).1.1≤T.cnt s.1+1:=by
 unfold gask
 split
 · exact T.c_ask _ _ _
 · exact Nat.le_trans (T.c_came _ _ _) (Nat.le_trans (gfin_cnt _ _ _ _) (T.c_ask _ _ _))
theorem gst_cnt{T:RuleT}{R:Str→Int}{n:Int}{s0:T.St}{ys:List Str}:∀i,i≤ys.length→T.cnt (gst T R n s0 ys i).1≤T.cnt s0+i
 | 0,_=>Nat.le_refl _
 | i+1,h=>by
  have hz:=List.getElem?_eq_getElem (show i < ys.length by omega)
  rw [gst_succ hz]
  have:=gst_cnt (T:=T) (R:=R) (n:=n) (s0:=s0) (ys:=ys) i (by omega)
  have h2:=gask_cnt (T:=T) (R:=R) (n:=n) (s:=gst T R n s0 ys i) (z:=ys[i])
  omega
section
variable {T:RuleT} {K:PySem.W.Frag} {C S:Addr} {H0 H H' H1 H2:Hp} {q p sh d w:Addr} {M:List Addr} {n:Int} {ts:List Th} {ls:Ly} {s s':T.St}
theorem kp_cons{M:List Addr}{d:Addr}{H H':Hp}(k:Kp M H H'):Kp (d::M) H H':=fun b o n e=>k b o (fun h=>n (List.mem_cons_of_mem _ h)) e
theorem SqL_kp{a:Addr}{xs:List V}(h:SqL K H a xs)(k:Kp M H H')(na:a∉M):SqL K H' a xs:=by
 rcases h with (h | ⟨o,h⟩) | h
 · exact .inl (.inl (k _ _ na h))
 · exact .inl (.inr ⟨o,k _ _ na h⟩)
 · exact .inr h
end
end NR
namespace N58
open L2 N1 N5 N4 N6 N12 N32 N14 N20 N18 N25 NR NQ N57
noncomputable def lst1(f:Str→Int)(ks:List Str):Str:=ks.foldl (fun b y=>if f y < f b then y else b) (ks.headD Str.empty)
theorem lst1_go(f:Str→Int):∀(ks:List Str) (b:Str),(ks.foldl (fun b y=>if f y < f b then y else b) b=b∨ks.foldl (fun b y=>if f y < f b then y else b) b∈ks)∧f (ks.foldl (fun b y=>if f y < f b then y else b) b)≤f b∧∀y∈ks,f (ks.foldl (fun b y=>if f y < f b then y else b) b)≤f y:=by
 intro ks
 induction ks with
 | nil=>intro b;exact ⟨.inl rfl,Int.le_refl _,fun y hy=>by cases hy⟩
 | cons a r ih=>
  intro b
  rw [List.foldl_cons]
  obtain ⟨h1,h2,h3⟩:=ih (if f a < f b then a else b)
  have h4:f (if f a < f b then a else b)≤f b∧f (if f a < f b then a else b)≤f a:=by split <;> omega
  refine ⟨?_,Int.le_trans h2 h4.1,fun y hy=>?_⟩
  · rcases h1 with h1 | h1
    · rw [h1]
      split
      · exact .inr List.mem_cons_self
      · exact .inl rfl
    · exact .inr (List.mem_cons_of_mem _ h1)
  · rcases List.mem_cons.mp hy with e | e
    · rw [e];exact Int.le_trans h2 h4.2
    · exact h3 y e
theorem lst1_mem{f:Str→Int}{ks:List Str}(h:ks≠[]):lst1 f ks∈ks:=by
 cases ks with
 | nil=>exact absurd rfl h
 | cons a r=>
  rcases (lst1_go f (a::r) a).1 with e | e
  · show List.foldl _ _ _∈_
    rw [show (a::r).headD Str.empty=a from rfl,e];exact List.mem_cons_self
  · exact e
theorem lst1_le{f:Str→Int}{ks:List Str}{y:Str}(h:y∈ks):f (lst1 f ks)≤f y:=(lst1_go f ks _).2.2 y h
structure DI(U:Int)(ts:List Th)(ns:List Str)(s:DuS)(l:List Str):Prop where
 u:Un U ts
 nt:(ts.map (·.1)).Nodup
 sub:∀y∈ns,y∈ts.map (·.1)
 pm:s.ks.Perm l
 nd:s.ks.Nodup
 kn:∀y∈s.ks,y∈ns
 lo:Low s.rs.length s
 sm:s.rs.sum=s.r
 nn:∀v∈s.rs,0≤v
section
variable {U:Int} {ts:List Th} {ns l:List Str} {s:DuS} {z:Str}
theorem DI.hit(h:DI U ts ns s l)(hz:z∈ns)(hl:z∈l):DI U ts ns (askS U ts s z) l:=by
 have hzs:z∈s.ks:=h.pm.mem_iff.mpr hl
 obtain ⟨s0,s1,_⟩:=h.u.sh h.nt (h.sub z hz)
 have hb:=h.lo.b
 have ha:=h.lo.a
 have eL:((s.rs++[(0:Int)]).length:Int)=s.rs.length+1:=by rw [List.length_append];rfl
 unfold askS
 rw [if_pos hzs]
 refine ⟨h.u,h.nt,h.sub,?_,?_,fun y hy=>?_,⟨ha,?_,fun y hy=>?_⟩,?_,fun v hv=>?_⟩
 · exact ((List.perm_append_singleton z _).trans (List.perm_cons_erase hzs).symm).trans h.pm
 · exact ((List.perm_append_singleton z _).trans (List.perm_cons_erase hzs).symm).nodup_iff.mpr h.nd
 · rcases List.mem_append.mp hy with e | e
   · exact h.kn y (List.mem_of_mem_erase e)
   · rw [List.mem_singleton.mp e];exact hz
 · show s.r≤((s.rs++[(0:Int)]).length:Int) * _
   rw [eL];omega
 · show s.r≤N74s s.f z (s.r+sh U ts z) y∧N74s s.f z (s.r+sh U ts z) y≤((s.rs++[(0:Int)]).length:Int) * _
   rw [eL]
   by_cases e:y=z
   · rw [show N74s s.f z (s.r+sh U ts z) y=s.r+sh U ts z from if_pos e];omega
   · rw [show N74s s.f z (s.r+sh U ts z) y=s.f y from if_neg e]
     have hys:y∈s.ks:=by
      rcases List.mem_append.mp hy with k | k
      · exact List.mem_of_mem_erase k
      · exact absurd (List.mem_singleton.mp k) e
     obtain ⟨c1,c2⟩:=h.lo.c y hys
     omega
 · show (s.rs++[(0:Int)]).sum=s.r
   rw [List.sum_append,h.sm];simp
 · rcases List.mem_append.mp hv with k | k
   · exact h.nn v k
   · rw [List.mem_singleton.mp k];exact Int.le_refl 0
theorem DI.miss(h:DI U ts ns s l)(hl:z∉l):DI U ts ns (askS U ts s z) l:=by
 have hzs:z∉s.ks:=fun k=>hl (h.pm.mem_iff.mp k)
 have hb:=h.lo.b
 have ha:=h.lo.a
 have eL:((s.rs++[(0:Int)]).length:Int)=s.rs.length+1:=by rw [List.length_append];rfl
 unfold askS
 rw [if_neg hzs]
 refine ⟨h.u,h.nt,h.sub,h.pm,h.nd,h.kn,⟨ha,?_,fun y hy=>?_⟩,?_,fun v hv=>?_⟩
 · show s.r≤((s.rs++[(0:Int)]).length:Int) * _
   rw [eL];omega
 · show s.r≤s.f y∧s.f y≤((s.rs++[(0:Int)]).length:Int) * _
   rw [eL]
   obtain ⟨c1,c2⟩:=h.lo.c y hy
   omega
 · show (s.rs++[(0:Int)]).sum=s.r
   rw [List.sum_append,h.sm];simp
 · rcases List.mem_append.mp hv with k | k
   · exact h.nn v k
   · rw [List.mem_singleton.mp k];exact Int.le_refl 0
theorem DI.gone(h:DI U ts ns s l)(h1:1≤s.rs.length)(hl:l≠[]):lst1 s.f s.ks∈l∧DI U ts ns (goneS s (lst1 s.f s.ks)) (l.erase (lst1 s.f s.ks)):=by
 have hks:s.ks≠[]:=fun e=>by
  have:=h.pm.length_eq
  rw [e]at this
  exact hl (List.length_eq_zero_iff.mp this.symm)
 have hm:=lst1_mem (f:=s.f) hks
 have hle:∀y∈s.ks,s.f (lst1 s.f s.ks)≤s.f y:=fun y hy=>lst1_le hy
 generalize lst1 s.f s.ks=z at hm hle ⊢
 obtain ⟨c1,c2⟩:=h.lo.c z hm
 have ha:=h.lo.a
 obtain ⟨pre,u,he,hpl⟩:=split_last (us:=s.rs) (n:=s.rs.length - 1) (by omega)
 have hsm:=h.sm
 have eR:s.rs.set (s.rs.length - 1) (s.rs.getLastD 0+(s.f z - s.r))=pre++[u+(s.f z - s.r)]:=by
  rw [← hpl,he,List.getLastD_concat,List.set_append_right _ _ (Nat.le_refl _),Nat.sub_self];rfl
 have eLen:(pre++[u+(s.f z - s.r)]).length=s.rs.length:=by rw [he,List.length_append,List.length_append];rfl
 refine ⟨h.pm.mem_iff.mp hm,h.u,h.nt,h.sub,h.pm.erase z,h.nd.erase z,fun y hy=>h.kn y (List.mem_of_mem_erase hy),?_,?_,?_⟩
 · show Low ((s.rs.set (s.rs.length - 1) (s.rs.getLastD 0+(s.f z - s.r))).length:Int) _
   rw [eR,eLen]
   exact ⟨by show 0≤s.f z;omega,c2,fun y hy=>⟨hle y (List.mem_of_mem_erase hy),(h.lo.c y (List.mem_of_mem_erase hy)).2⟩⟩
 · show (s.rs.set (s.rs.length - 1) (s.rs.getLastD 0+(s.f z - s.r))).sum=s.f z
   rw [eR]
   rw [he]at hsm
   rw [List.sum_append]at hsm ⊢
   simp only [List.sum_cons,List.sum_nil]at hsm ⊢
   omega
 · show ∀v∈(s.rs.set (s.rs.length - 1) (s.rs.getLastD 0+(s.f z - s.r))),0≤v
   rw [eR]
   intro v hv
   rcases List.mem_append.mp hv with k | k
   · exact h.nn v (by rw [he];exact List.mem_append_left _ k)
   · rw [List.mem_singleton.mp k]
     have:=h.nn u (by rw [he];simp)
     omega
theorem DI.came(h:DI U ts ns s l)(h1:1≤s.rs.length)(hz:z∈ns)(hl:z∉l)(hr:s.r≤(s.rs.length - 1:Int) * 10 ^ 210):DI U ts ns ⟨s.r,s.ks++[z],N74s s.f z (s.r+sh U ts z),s.rs⟩ (l++[z]):=by
 have hzs:z∉s.ks:=fun k=>hl (h.pm.mem_iff.mp k)
 obtain ⟨s0,s1,_⟩:=h.u.sh h.nt (h.sub z hz)
 refine ⟨h.u,h.nt,h.sub,h.pm.append_right [z],?_,fun y hy=>?_,⟨h.lo.a,h.lo.b,fun y hy=>?_⟩,h.sm,h.nn⟩
 · rw [List.nodup_append]
   exact ⟨h.nd,by simp,fun a ha b hb e=>hzs (by rw [← List.mem_singleton.mp hb,← e];exact ha)⟩
 · rcases List.mem_append.mp hy with e | e
   · exact h.kn y e
   · rw [List.mem_singleton.mp e];exact hz
 · show s.r≤N74s s.f z (s.r+sh U ts z) y∧N74s s.f z (s.r+sh U ts z) y≤(s.rs.length:Int) * _
   by_cases e:y=z
   · rw [show N74s s.f z (s.r+sh U ts z) y=s.r+sh U ts z from if_pos e];omega
   · rw [show N74s s.f z (s.r+sh U ts z) y=s.f y from if_neg e]
     have hys:y∈s.ks:=by
      rcases List.mem_append.mp hy with k | k
      · exact k
      · exact absurd (List.mem_singleton.mp k) e
     exact h.lo.c y hys
end
structure DM(U:Int)(ts:List Th)(ns:List Str)(z:Str)(s:DuS)(l:List Str):Prop where
 i:DI U ts ns s l
 n:1≤s.rs.length
 r:s.r≤(s.rs.length - 1:Int) * 10 ^ 210
 c:∀y∈s.ks,s.f y≤(s.rs.length - 1:Int) * 10 ^ 210
 z:z∉l
theorem goneS_len{s:DuS}{z:Str}:(goneS s z).rs.length=s.rs.length:=List.length_set ..
theorem askS_len{U:Int}{ts:List Th}{s:DuS}{z:Str}:(askS U ts s z).rs.length=s.rs.length+1:=by
 unfold askS
 split <;> exact List.length_append
noncomputable abbrev TD(C:Addr)(U:Int)(ts:List Th):RuleT where
 C:=C
 St:=DuS
 At:=fun _ _ _ _ _ _=>False
 asked:=fun _ s z=>askS U ts s z
 pick:=fun _ s _=>(s,lst1 s.f s.ks)
 gone:=fun _ s z=>goneS s z
 came:=fun _ s z=>⟨s.r,s.ks++[z],N74s s.f z (s.r+sh U ts z),s.rs⟩
 inv:=fun ns _ s l=>DI U ts ns s l
 mid:=fun ns _ z s l=>DM U ts ns z s l
 dep:=fun _ h=>h
 live:=fun h=>h.elim
 obj:=fun h=>h.elim
 i_hit:=fun h hz hl=>h.hit hz hl
 i_mid:=fun {ns n s l z} h hz hl=>by
  have hzs:z∉s.ks:=fun k=>hl (h.pm.mem_iff.mp k)
  have e:((askS U ts s z).rs.length:Int) - 1=s.rs.length:=by rw [askS_len];omega
  have e1:(askS U ts s z).r=s.r∧(askS U ts s z).ks=s.ks∧(askS U ts s z).f=s.f:=by unfold askS;rw [if_neg hzs];exact ⟨rfl,rfl,rfl⟩
  refine ⟨h.miss hl,by rw [askS_len];omega,by rw [e,e1.1];exact h.lo.b,fun y hy=>?_,hl⟩
  rw [e,e1.2.2]
  rw [e1.2.1]at hy
  exact (h.lo.c y hy).2
 i_pick:=fun {ns n s l z} h hl=>by
  obtain ⟨a,b⟩:=h.i.gone h.n hl
  refine ⟨a,b,by rw [goneS_len];exact h.n,?_,fun y hy=>?_,fun k=>h.z (List.mem_of_mem_erase k)⟩
  · rw [goneS_len]
    exact h.c _ (h.i.pm.mem_iff.mpr a)
  · rw [goneS_len]
    exact h.c y (List.mem_of_mem_erase hy)
 i_came:=fun h hz hl=>h.i.came h.n hz hl h.r
 cnt:=fun s=>s.rs.length
 c_ask:=fun _ s z=>Nat.le_of_eq askS_len
 c_pick:=fun _ _ _=>Nat.le_refl _
 c_gone:=fun _ _ _=>Nat.le_of_eq goneS_len
 c_came:=fun _ _ _=>Nat.le_refl _
noncomputable def slk(R:Str→Int)(s:DuS):Int:=N41.sm (fun y=>R y * (s.f y - s.r)) s.ks
theorem smp{f:Str→Int}{a b:List Str}(h:a.Perm b):N41.sm f a=N41.sm f b:=N57.sm_perm h
theorem gf_du{C:Addr}{U:Int}{ts:List Th}{ns:List Str}{z:Str}{R:Str→Int}{n need:Int}(hn:need≤n):∀(k:Nat) (s:DuS) (l w:List Str),l.length=k→DM U ts ns z s l→
 ∃s':DuS,(gf (TD C U ts) R n need s l w).1=s'∧s'.f=s.f∧(∀y∈s'.ks,y∈s.ks)∧(∀y∈s.ks,y∉s'.ks→s.f y≤s'.r)∧s.r≤s'.r∧slk R s'≤slk R s - (s'.r - s.r) * (n - need+1)∧∀pre u,s.rs=pre++[u]→s'.rs=pre++[u+(s'.r - s.r)]:=by
 intro k
 have stop:∀(s:DuS),s.f=s.f∧(∀y∈s.ks,y∈s.ks)∧(∀y∈s.ks,y∉s.ks→s.f y≤s.r)∧s.r≤s.r∧slk R s≤slk R s - (s.r - s.r) * (n - need+1)∧∀pre u,s.rs=pre++[u]→s.rs=pre++[u+(s.r - s.r)]:=fun s=>
  ⟨rfl,fun y h=>h,fun y h h2=>absurd h h2,Int.le_refl _,by rw [Int.sub_self,Int.zero_mul,Int.sub_zero];exact Int.le_refl _,fun pre u h=>by rw [Int.sub_self,Int.add_zero];exact h⟩
 induction k with
 | zero=>
  intro s l w hk hm
  have hL:l=[]:=List.length_eq_zero_iff.mp hk
  subst hL
  have he:need≤n - N41.sm R []:=by rw [N41.sm_nil];omega
  exact ⟨s,by rw [gf_end he],stop s⟩
 | succ k ih=>
  intro s l w hk hm
  by_cases he:need≤n - N41.sm R l
  · exact ⟨s,by rw [gf_end he],stop s⟩
  · have hne:l≠[]:=fun e=>by rw [e]at hk;cases hk
    obtain ⟨hp,hm2⟩:=(TD C U ts).i_pick (n:=n) (s:=s) hm hne
    rw [gf_go (T:=TD C U ts) (s:=s) he hp]
    change lst1 s.f s.ks∈l at hp
    change DM U ts ns z (goneS s (lst1 s.f s.ks)) (l.erase (lst1 s.f s.ks)) at hm2
    show ∃s':DuS,(gf (TD C U ts) R n need (goneS s (lst1 s.f s.ks)) (l.erase (lst1 s.f s.ks)) (w++[lst1 s.f s.ks])).1=s'∧_
    have hzk:lst1 s.f s.ks∈s.ks:=hm.i.pm.mem_iff.mpr hp
    have hle:∀y∈s.ks,s.f (lst1 s.f s.ks)≤s.f y:=fun y hy=>lst1_le hy
    generalize lst1 s.f s.ks=f at hp hm2 hzk hle ⊢
    have hl:=List.length_erase_of_mem hp
    obtain ⟨s',e0,e1,e2,e3,e4,e5,e6⟩:=ih (goneS s f) (l.erase f) (w++[f]) (by omega) hm2
    have g1:=(hm.i.lo.c f hzk).1
    change s'.f=s.f at e1
    change ∀y∈s'.ks,y∈s.ks.erase f at e2
    change ∀y∈s.ks.erase f,y∉s'.ks→s.f y≤s'.r at e3
    change s.f f≤s'.r at e4
    change slk R s'≤slk R (goneS s f) - (s'.r - s.f f) * (n - need+1) at e5
    refine ⟨s',e0,e1,fun y hy=>List.mem_of_mem_erase (e2 y hy),fun y hy hy2=>?_,Int.le_trans g1 e4,?_,fun pre u hpre=>?_⟩
    · by_cases ey:y=f
      · rw [ey];exact e4
      · exact e3 y ((List.mem_erase_of_ne ey).mpr hy) hy2
    · have a1:slk R (goneS s f)=slk R s+(s.r - s.f f) * N41.sm R s.ks:=by
       show N41.sm (fun y=>R y * (s.f y - s.f f)) (s.ks.erase f)=_
       rw [N41.sm_erase hzk,Int.sub_self,Int.mul_zero,Int.sub_zero]
       refine N41.sm_lin fun y _=>?_
       show R y * (s.f y - s.f f)=R y * (s.f y - s.r)+(s.r - s.f f) * R y
       grind
      have a2:n - need+1≤N41.sm R s.ks:=by rw [smp hm.i.pm];omega
      have a3:(s.f f - s.r) * (n - need+1)≤(s.f f - s.r) * N41.sm R s.ks:=Int.mul_le_mul_of_nonneg_left a2 (by omega)
      rw [a1]at e5
      have a4:(s.r - s.f f) * N41.sm R s.ks=- ((s.f f - s.r) * N41.sm R s.ks):=by grind
      have a5:(s'.r - s.r) * (n - need+1)=(s'.r - s.f f) * (n - need+1)+(s.f f - s.r) * (n - need+1):=by grind
      omega
    · have h1:=e6 pre (u+(s.f f - s.r)) (by
       show s.rs.set (s.rs.length - 1) (s.rs.getLastD 0+(s.f f - s.r))=_
       have hlen:s.rs.length - 1=pre.length:=by rw [hpre,List.length_append];simp
       rw [hlen,hpre,List.getLastD_concat,List.set_append_right _ _ (Nat.le_refl _),Nat.sub_self];rfl)
      rw [h1,show (goneS s f).r=s.f f from rfl]
      congr 2
      omega
theorem fl_pre{c r:Str→Int}{T:List Int}{t S P:Int}{ys:List Str}:∀n,n≤T.length→N41.fl c r (T++[t]) S P ys n=N41.fl c r T S P ys n
 | 0,_=>rfl
 | n+1,h=>by
  have e1:N41.leastAt c r (T++[t]) S ys n=N41.leastAt c r T S ys n:=by
   unfold N41.leastAt
   cases ear ys n with
   | none=>rfl
   | some e=>
    show min _ (_ * N41.seg (T++[t]) (e+1) n)=min _ (_ * N41.seg T (e+1) n)
    unfold N41.seg
    rw [List.take_append_of_le_length (by omega)]
  show N41.fl c r (T++[t]) S P ys n+(_ - (T++[t]).getD n 0 * _)=N41.fl c r T S P ys n+(_ - T.getD n 0 * _)
  rw [fl_pre n (by omega),e1,List.getD_eq_getElem?_getD (l:=T++[t]),List.getD_eq_getElem?_getD (l:=T),List.getElem?_append_left (by omega)]
theorem sum_cut(T:List Int)(a:Nat):(T.drop a).sum=T.sum - (T.take a).sum:=by
 have h:=congrArg List.sum (List.take_append_drop a T)
 rw [List.sum_append]at h
 omega
theorem sum_nn{T:List Int}(h:∀t∈T,0≤t):0≤T.sum:=by
 induction T with
 | nil=>exact Int.le_refl _
 | cons a r ih=>
  rw [List.sum_cons]
  have h1:=h a List.mem_cons_self
  have h2:=ih fun t ht=>h t (List.mem_cons_of_mem _ ht)
  omega
noncomputable def pds(c:Str→Int)(rows:List N14.Row):Int:=((rows.filter fun r=>!r.2.1).map fun r=>c r.1).sum
theorem pds_snoc{c:Str→Int}{rows:List N14.Row}{r:N14.Row}:pds c (rows++[r])=pds c rows+if r.2.1 then 0 else c r.1:=by
 unfold pds
 rw [List.filter_append,List.map_append,List.sum_append]
 cases h:r.2.1 with
 | true=>rw [List.filter_cons_of_neg (by rw [h];decide)];rfl
 | false=>rw [List.filter_cons_of_pos (by rw [h];decide)];simp
structure PI(U:Int)(ts:List Th)(ns ys:List Str)(F P:Int)(i:Nat)(s:DuS)(l:List Str)(paid:Int):Prop where
 di:DI U ts ns s l
 rl:s.rs.length=i
 la:∀y∈s.ks,∃j,lastIx ys y i=some j∧s.f y=(s.rs.take (j+1)).sum+sh U ts y
 out:∀y,y∉s.ks→∀j,lastIx ys y i=some j→(s.rs.take (j+1)).sum+sh U ts y≤s.r
 psi:(P - F+1) * (paid * U)+(F - 1) * slk (rm ts) s≤P * N41.fl (N41.cst ts) (rm ts) s.rs U F ys i
theorem sh_rm{U:Int}{ts:List Th}{z:Str}(h:rm ts z ∣ U):rm ts z * sh U ts z=N41.cst ts z * U:=by
 unfold sh
 rw [Int.mul_left_comm,Int.mul_ediv_cancel' h]
section
variable {C:Addr} {U:Int} {ts:List Th} {ns ys l:List Str} {F P:Int} {i:Nat} {s:DuS} {paid:Int} {z:Str}
theorem PI.start(hU:Un U ts)(nd:(ts.map (·.1)).Nodup)(hs:∀y∈ns,y∈ts.map (·.1)):PI U ts ns ys F P 0 ⟨0,[],fun _=>0,[]⟩ [] 0:=
 ⟨⟨hU,nd,hs,List.Perm.refl _,List.nodup_nil,(fun y h=>by cases h),⟨Int.le_refl _,by simp,fun y h=>by cases h⟩,rfl,fun v h=>by cases h⟩,rfl,(fun y h=>by cases h),(fun y _ j h=>by cases h),by
   show (P - F+1) * (0 * U)+(F - 1) * N41.sm _ []≤P * 0
   rw [N41.sm_nil];simp⟩
theorem PI.hit(h:PI U ts ns ys F P i s l paid)(hy:ys[i]?=some z)(hz:z∈ns)(hl:z∈l)(hF:F≤P):PI U ts ns ys F P (i+1) (askS U ts s z) l paid:=by
 have hzs:z∈s.ks:=h.di.pm.mem_iff.mpr hl
 obtain ⟨s0,s1,r1,r2,r3,c1,c2⟩:=h.di.u.sh h.di.nt (h.di.sub z hz)
 have hgz:ys.getD i Str.empty=z:=by rw [List.getD_eq_getElem?_getD,hy];rfl
 obtain ⟨j,hj,hfz⟩:=h.la z hzs
 have hji:=(last_lt hj).1
 have hlo:=(h.di.lo.c z hzs).1
 have hrl:=h.rl
 have eT:∀k,k≤i→(s.rs++[(0:Int)]).take k=s.rs.take k:=fun k hk=>List.take_append_of_le_length (by omega)
 have hd:=h.di.hit hz hl
 have eA:askS U ts s z=⟨s.r,s.ks.erase z++[z],N74s s.f z (s.r+sh U ts z),s.rs++[0]⟩:=if_pos hzs
 rw [eA]at hd ⊢
 refine ⟨hd,by show (s.rs++[(0:Int)]).length=_;rw [List.length_append,hrl];rfl,fun y hyk=>?_,fun y hyk k hk=>?_,?_⟩
 · show ∃j,lastIx ys y (i+1)=some j∧N74s s.f z (s.r+sh U ts z) y=((s.rs++[(0:Int)]).take (j+1)).sum+_
   by_cases e:y=z
   · refine ⟨i,if_pos (by rw [hgz,e]),?_⟩
     rw [show N74s s.f z (s.r+sh U ts z) y=s.r+sh U ts z from if_pos e,List.take_of_length_le (by rw [List.length_append];simp;omega),List.sum_append,h.di.sm,e]
     simp
   · have hys:y∈s.ks:=by
      rcases List.mem_append.mp hyk with k | k
      · exact List.mem_of_mem_erase k
      · exact absurd (List.mem_singleton.mp k) e
     obtain ⟨m,hm1,hm2⟩:=h.la y hys
     have hmi:=(last_lt hm1).1
     refine ⟨m,?_,?_⟩
     · rw [← hm1];exact if_neg (by rw [hgz];exact fun k=>e k.symm)
     · rw [show N74s s.f z (s.r+sh U ts z) y=s.f y from if_neg e,eT _ (by omega)];exact hm2
 · show ((s.rs++[(0:Int)]).take (k+1)).sum+_≤s.r
   have e:y≠z:=fun e=>hyk (by rw [e];simp)
   have hk':lastIx ys y i=some k:=by rw [← hk];exact (if_neg (by rw [hgz];exact fun k=>e k.symm)).symm
   have hki:=(last_lt hk').1
   rw [eT _ (by omega)]
   refine h.out y (fun hys=>hyk ?_) k hk'
   exact List.mem_append_left _ ((List.mem_erase_of_ne e).mpr hys)
 · have e1:slk (rm ts) ⟨s.r,s.ks.erase z++[z],N74s s.f z (s.r+sh U ts z),s.rs++[0]⟩=slk (rm ts) s+rm ts z * (s.r - (s.rs.take (j+1)).sum):=by
    show N41.sm (fun y=>rm ts y * (N74s s.f z (s.r+sh U ts z) y - s.r)) (s.ks.erase z++[z])=_
    rw [N41.sm_app]
    have a1:N41.sm (fun y=>rm ts y * (N74s s.f z (s.r+sh U ts z) y - s.r)) (s.ks.erase z)=N41.sm (fun y=>rm ts y * (s.f y - s.r)) (s.ks.erase z):=by
     unfold N41.sm
     refine congrArg List.sum (List.map_congr_left fun y hy=>?_)
     have:y≠z:=fun e=>by rw [e]at hy;exact (List.Nodup.not_mem_erase h.di.nd) hy
     show rm ts y * (N74s s.f z (s.r+sh U ts z) y - s.r)=_
     rw [show N74s s.f z (s.r+sh U ts z) y=s.f y from if_neg this]
    rw [a1,N41.sm_erase hzs,N41.sm_cons,N41.sm_nil,show N74s s.f z (s.r+sh U ts z) z=s.r+sh U ts z from if_pos rfl,hfz]
    show slk (rm ts) s - _+_=_
    grind
   have e2:N41.leastAt (N41.cst ts) (rm ts) (s.rs++[0]) U ys i=rm ts z * (s.r - (s.rs.take (j+1)).sum):=by
    unfold N41.leastAt
    rw [show ear ys i=some j by unfold ear;rw [hgz];exact hj]
    show min (N41.cst ts (ys.getD i Str.empty) * U) (rm ts (ys.getD i Str.empty) * N41.seg (s.rs++[0]) (j+1) i)=_
    unfold N41.seg
    rw [hgz,eT i (Nat.le_refl _),List.take_of_length_le (by omega),sum_cut,h.di.sm]
    refine Int.min_eq_right ?_
    rw [← sh_rm r3]
    exact Int.mul_le_mul_of_nonneg_left (by omega) (by omega)
   have e3:N41.fl (N41.cst ts) (rm ts) (s.rs++[0]) U F ys (i+1)=N41.fl (N41.cst ts) (rm ts) s.rs U F ys i+rm ts z * (s.r - (s.rs.take (j+1)).sum):=by
    show N41.fl _ _ (s.rs++[0]) U F ys i+(N41.leastAt _ _ (s.rs++[0]) U ys i - (s.rs++[(0:Int)]).getD i 0 * _)=_
    rw [fl_pre _ (by omega),e2,List.getD_eq_getElem?_getD,List.getElem?_append_right (by omega),hrl,Nat.sub_self]
    show _+(_ - 0 * _)=_
    rw [Int.zero_mul,Int.sub_zero]
   rw [e1]
   show _≤P * N41.fl _ _ (s.rs++[0]) U F ys (i+1)
   rw [e3]
   have hp:=h.psi
   have hg:0≤rm ts z * (s.r - (s.rs.take (j+1)).sum):=by
    refine Int.mul_nonneg (by omega) ?_
    rw [← h.di.sm,← sum_cut]
    exact sum_nn fun v hv=>h.di.nn v (List.mem_of_mem_drop hv)
   have h3:(F - 1) * (rm ts z * (s.r - (s.rs.take (j+1)).sum))≤P * (rm ts z * (s.r - (s.rs.take (j+1)).sum)):=Int.mul_le_mul_of_nonneg_right (by omega) hg
   rw [Int.mul_add,Int.mul_add P]
   omega
theorem PI.miss(h:PI U ts ns ys F P i s l paid)(hy:ys[i]?=some z)(hz:z∈ns)(hl:z∉l)(hF:F≤P)(hrF:rm ts z≤F):PI U ts ns ys F P (i+1) ((TD C U ts).came P (gf (TD C U ts) (rm ts) P (rm ts z) (askS U ts s z) l []).1 z) ((gf (TD C U ts) (rm ts) P (rm ts z) (askS U ts s z) l []).2.1++[z]) (paid+N41.cst ts z):=by
 have hzs:z∉s.ks:=fun k=>hl (h.di.pm.mem_iff.mp k)
 obtain ⟨s0,s1,r1,r2,r3,c1,c2⟩:=h.di.u.sh h.di.nt (h.di.sub z hz)
 have hgz:ys.getD i Str.empty=z:=by rw [List.getD_eq_getElem?_getD,hy];rfl
 have hrl:=h.rl
 have hm1:DM U ts ns z (askS U ts s z) l:=(TD C U ts).i_mid (n:=P) h.di hz hl
 obtain ⟨hI,hne,hsub,_,_⟩:=gf_pos (T:=TD C U ts) (R:=rm ts) (n:=P) (need:=rm ts z) _ _ _ [] rfl hm1 (by omega)
 have hnl:z∉(gf (TD C U ts) (rm ts) P (rm ts z) (askS U ts s z) l []).2.1:=fun k=>hl (hsub z k)
 have hdi:DI U ts ns ((TD C U ts).came P (gf (TD C U ts) (rm ts) P (rm ts z) (askS U ts s z) l []).1 z) ((gf (TD C U ts) (rm ts) P (rm ts z) (askS U ts s z) l []).2.1++[z]):=(TD C U ts).i_came (n:=P) hI hz hnl
 obtain ⟨s2,e0,e1,e2,e3,e4,e5,e6⟩:=gf_du (C:=C) (R:=rm ts) (n:=P) (need:=rm ts z) (by omega) l.length (askS U ts s z) l [] rfl hm1
 have hI2:DM U ts ns z s2 (gf (TD C U ts) (rm ts) P (rm ts z) (askS U ts s z) l []).2.1:=e0▸hI
 rw [e0]at hdi ⊢
 clear e0 hI
 have eA:askS U ts s z=⟨s.r,s.ks,s.f,s.rs++[0]⟩:=if_neg hzs
 rw [eA]at e1 e2 e3 e4 e5 e6
 change s2.f=s.f at e1
 change ∀y∈s2.ks,y∈s.ks at e2
 change ∀y∈s.ks,y∉s2.ks→s.f y≤s2.r at e3
 change s.r≤s2.r at e4
 change slk (rm ts) s2≤slk (rm ts) s - (s2.r - s.r) * (P - rm ts z+1) at e5
 have ers:s2.rs=s.rs++[s2.r - s.r]:=by
  have:=e6 s.rs 0 rfl
  rw [this]
  show _++[0+(s2.r - s.r)]=_
  rw [Int.zero_add]
 clear e6
 have hz2:z∉s2.ks:=fun k=>hzs (e2 z k)
 have eT:∀k,k≤i→s2.rs.take k=s.rs.take k:=fun k hk=>by rw [ers];exact List.take_append_of_le_length (by omega)
 have hrl2:s2.rs.length=i+1:=by rw [ers,List.length_append,hrl];rfl
 have hs2:=hI2.i.sm
 refine ⟨hdi,hrl2,fun y hyk=>?_,fun y hyk k hk=>?_,?_⟩
 · show ∃j,lastIx ys y (i+1)=some j∧N74s s2.f z (s2.r+sh U ts z) y=(s2.rs.take (j+1)).sum+_
   by_cases e:y=z
   · refine ⟨i,if_pos (by rw [hgz,e]),?_⟩
     rw [show N74s s2.f z (s2.r+sh U ts z) y=s2.r+sh U ts z from if_pos e,List.take_of_length_le (by omega),hs2,e]
   · have hys2:y∈s2.ks:=by
      rcases List.mem_append.mp (show y∈s2.ks++[z] from hyk) with k | k
      · exact k
      · exact absurd (List.mem_singleton.mp k) e
     obtain ⟨m,hm1,hm2⟩:=h.la y (e2 y hys2)
     have hmi:=(last_lt hm1).1
     refine ⟨m,?_,?_⟩
     · rw [← hm1];exact if_neg (by rw [hgz];exact fun k=>e k.symm)
     · rw [show N74s s2.f z (s2.r+sh U ts z) y=s2.f y from if_neg e,e1,eT _ (by omega)];exact hm2
 · show (s2.rs.take (k+1)).sum+_≤s2.r
   have hyk':y∉s2.ks++[z]:=hyk
   have e:y≠z:=fun e=>hyk' (by rw [e];simp)
   have hk':lastIx ys y i=some k:=by rw [← hk];exact (if_neg (by rw [hgz];exact fun k=>e k.symm)).symm
   have hki:=(last_lt hk').1
   rw [eT _ (by omega)]
   by_cases hys:y∈s.ks
   · obtain ⟨m,hm1,hm2⟩:=h.la y hys
     rw [hk']at hm1
     cases hm1
     rw [← hm2]
     exact e3 y hys (fun k=>hyk' (List.mem_append_left _ k))
   · exact Int.le_trans (h.out y hys k hk') e4
 · have a1:slk (rm ts) ((TD C U ts).came P s2 z)=slk (rm ts) s2+N41.cst ts z * U:=by
    show N41.sm (fun y=>rm ts y * (N74s s2.f z (s2.r+sh U ts z) y - s2.r)) (s2.ks++[z])=_
    rw [N41.sm_app]
    have b1:N41.sm (fun y=>rm ts y * (N74s s2.f z (s2.r+sh U ts z) y - s2.r)) s2.ks=slk (rm ts) s2:=by
     unfold slk N41.sm
     refine congrArg List.sum (List.map_congr_left fun y hy=>?_)
     have:y≠z:=fun e=>hz2 (by rw [← e];exact hy)
     show rm ts y * (N74s s2.f z (s2.r+sh U ts z) y - s2.r)=_
     rw [show N74s s2.f z (s2.r+sh U ts z) y=s2.f y from if_neg this]
    rw [b1,N41.sm_cons,N41.sm_nil,show N74s s2.f z (s2.r+sh U ts z) z=s2.r+sh U ts z from if_pos rfl,← sh_rm r3]
    grind
   have a2:N41.leastAt (N41.cst ts) (rm ts) s2.rs U ys i=N41.cst ts z * U:=by
    unfold N41.leastAt
    rw [show ear ys i=lastIx ys z i by unfold ear;rw [hgz]]
    cases hj:lastIx ys z i with
    | none=>show N41.cst ts (ys.getD i Str.empty) * U=_;rw [hgz]
    | some j=>
     show min (N41.cst ts (ys.getD i Str.empty) * U) (rm ts (ys.getD i Str.empty) * N41.seg s2.rs (j+1) i)=_
     unfold N41.seg
     have ho:=h.out z hzs j hj
     have hji:=(last_lt hj).1
     rw [hgz,eT i (Nat.le_refl _),List.take_of_length_le (by omega),sum_cut,h.di.sm]
     refine Int.min_eq_left ?_
     rw [← sh_rm r3]
     exact Int.mul_le_mul_of_nonneg_left (by omega) (by omega)
   have a3:N41.fl (N41.cst ts) (rm ts) s2.rs U F ys (i+1)=N41.fl (N41.cst ts) (rm ts) s.rs U F ys i+(N41.cst ts z * U - (s2.r - s.r) * (F - rm ts z)):=by
    show N41.fl _ _ s2.rs U F ys i+(N41.leastAt _ _ s2.rs U ys i - s2.rs.getD i 0 * (F - rm ts (ys.getD i Str.empty)))=_
    rw [a2,ers,fl_pre _ (by omega),List.getD_eq_getElem?_getD,List.getElem?_append_right (by omega),hrl,Nat.sub_self,hgz]
    rfl
   show (P - F+1) * ((paid+N41.cst ts z) * U)+(F - 1) * slk (rm ts) ((TD C U ts).came P s2 z)≤P * N41.fl (N41.cst ts) (rm ts) s2.rs U F ys (i+1)
   rw [a1,a3]
   have hp:=h.psi
   have b2:=Int.mul_le_mul_of_nonneg_left e5 (show 0≤F - 1 by omega)
   have b3:0≤(s2.r - s.r) * ((rm ts z - 1) * (P - F+1)):=Int.mul_nonneg (by omega) (Int.mul_nonneg (by omega) (by omega))
   generalize N41.fl (N41.cst ts) (rm ts) s.rs U F ys i=f0 at hp ⊢
   generalize slk (rm ts) s2=k2 at b2 ⊢
   generalize slk (rm ts) s=k1 at b2 hp
   generalize N41.cst ts z=c0
   generalize rm ts z=rz at b2 b3 ⊢
   generalize s2.r - s.r=y at b2 b3 ⊢
   have b4:P * (f0+(c0 * U - y * (F - rz))) - ((P - F+1) * ((paid+c0) * U)+(F - 1) * (k2+c0 * U))=(P * f0 - ((P - F+1) * (paid * U)+(F - 1) * k1))+((F - 1) * (k1 - y * (P - rz+1)) - (F - 1) * k2)+y * ((rz - 1) * (P - F+1)):=by grind
   omega
theorem PI.run(hU:Un U ts)(nd:(ts.map (·.1)).Nodup)(hin:∀y∈ys,y∈ts.map (·.1))(hF:F≤P)(hr:∀y∈ys,rm ts y≤F):∀i,i≤ys.length→PI U ts (ts.map (·.1)) ys F P i (gst (TD C U ts) (rm ts) P ⟨0,[],fun _=>0,[]⟩ ys i).1 (gst (TD C U ts) (rm ts) P ⟨0,[],fun _=>0,[]⟩ ys i).2 (pds (N41.cst ts) (grows (TD C U ts) (rm ts) P ⟨0,[],fun _=>0,[]⟩ ys i))
 | 0,_=>PI.start hU nd fun y h=>h
 | i+1,h=>by
  have hy:=List.getElem?_eq_getElem (show i < ys.length by omega)
  have hm:=List.mem_of_getElem? hy
  have ih:=PI.run hU nd hin hF hr i (by omega)
  rw [gst_succ hy,grows_succ hy,pds_snoc]
  generalize gst (TD C U ts) (rm ts) P ⟨0,[],fun _=>0,[]⟩ ys i=st at ih ⊢
  generalize pds _ _=pd at ih ⊢
  unfold gask
  by_cases hz:ys[i]∈st.2
  · rw [if_pos hz]
    show PI U ts _ ys F P (i+1) (askS U ts st.1 ys[i]) st.2 (pd+0)
    rw [Int.add_zero]
    exact ih.hit hy (hin _ hm) hz hF
  · rw [if_neg hz]
    exact ih.miss hy (hin _ hm) hz hF (hr _ hm)
end
noncomputable def AtD(D:Addr)(U:Int)(H:Hp)(M:List Addr)(q p:Addr)(n:Int)(s:DuS):Prop:=∃x:DuX,DuM q x=M∧DuAt D U H q p n x s
theorem AtD.keep{D:Addr}{U:Int}{H H':Hp}{M:List Addr}{q p:Addr}{n:Int}{s:DuS}(h:AtD D U H M q p n s)(k1:∀m∈M,∀o,H m=some o→H' m=some o)(k:∀v e,H v=some (.tup e)→H' v=some (.tup e)):AtD D U H' M q p n s:=by
 obtain ⟨x,e,h⟩:=h
 exact ⟨x,e,h.keep (by rw [e];exact k1) k⟩
theorem AtD.same{D:Addr}{U:Int}{H H':Hp}{M:List Addr}{q p:Addr}{n:Int}{s:DuS}(h:AtD D U H M q p n s)(m:Same H H'):AtD D U H' M q p n s:=h.keep (fun b _ o e=>m _ _ e) fun v e hv=>m _ _ hv
theorem AtD.live{D:Addr}{U:Int}{H:Hp}{M:List Addr}{q p:Addr}{n:Int}{s:DuS}(h:AtD D U H M q p n s):∀m∈M,H m≠none:=by
 obtain ⟨x,e,h⟩:=h
 obtain ⟨dx,fs,ho,_⟩:=h.o
 obtain ⟨kvs,d1,_⟩:=h.dd
 obtain ⟨us,r1,_⟩:=h.rr
 intro m hm
 rw [← e]at hm
 have hm':m=q∨m=x.dd∨m=x.rr:=by simpa [DuM] using hm
 rcases hm' with k | k | k <;> rw [k]
 · rw [ho];exact fun k=>by cases k
 · rw [d1];exact fun k=>by cases k
 · rw [r1];exact fun k=>by cases k
structure RunD(D:Addr)(U:Int)(K:PySem.W.Frag)(C S:Addr)(H0 H:Hp)(q p sh d:Addr)(M:List Addr)(n:Int)(ts:List Th)(ls:Ly)(s:DuS):Prop where
 h:AtD D U H M q p n s
 shf:ShelfAt S H sh p d n ls
 st:StockAt K C H0 p ts
 sm:Same H0 H
 n0:∀m∈M,H0 m=none
 nd:H0 d=none
 nsh:sh∉M
 ndm:d∉M
 ok:OkL (rm ts) (ts.map (·.1)) ls
section
variable {D:Addr} {U:Int} {K:PySem.W.Frag} {C S:Addr} {H0 H H' H1 H2:Hp} {q p sh d w:Addr} {M:List Addr} {n:Int} {ts:List Th} {ls:Ly} {s s':DuS}
theorem RunD.same(r:RunD D U K C S H0 H q p sh d M n ts ls s)(e:Same H H'):RunD D U K C S H0 H' q p sh d M n ts ls s:=
 ⟨r.h.same e,r.shf.same e,r.st,r.sm.trans e,r.n0,r.nd,r.nsh,r.ndm,r.ok⟩
theorem RunD.x(r:RunD D U K C S H0 H q p sh d M n ts ls s):StockX K C H p ts d:=(StockX.of r.st r.nd).same r.sm
theorem RunD.left(r:RunD D U K C S H0 H q p sh d M n ts ls s):n - lyS ls=n - N41.sm (rm ts) (lyN ls):=by rw [okl_sum (ns:=ts.map (·.1)) r.ok.r]
theorem RunD.rule(r:RunD D U K C S H0 H q p sh d M n ts ls s)(k:Kp M H H')(h:AtD D U H' M q p n s'):RunD D U K C S H0 H' q p sh d M n ts ls s':=
 ⟨h,⟨r.shf.o.imp fun _ e=>k _ _ r.nsh e,k _ _ r.ndm r.shf.d,r.shf.nd⟩,r.st,Kp.same r.sm k r.n0,r.n0,r.nd,r.nsh,r.ndm,r.ok⟩
theorem RunD.shelf{ls':Ly}(r:RunD D U K C S H0 H q p sh d M n ts ls s)(k:SameBut d H H')(hs:ShelfAt S H' sh p d n ls')(ok:OkL (rm ts) (ts.map (·.1)) ls'):RunD D U K C S H0 H' q p sh d M n ts ls' s:=
 ⟨r.h.keep (fun m hm o e=>k m o e (fun e2=>r.ndm (e2▸hm))) (fun v e hv=>k v _ hv (fun e2=>by have:=r.shf.d;rw [← e2,hv]at this;cases this)),hs,r.st,but_same r.sm r.nd k,r.n0,r.nd,r.nsh,r.ndm,ok⟩
theorem RunD.lst{zs:List V}(r:RunD D U K C S H0 H q p sh d M n ts ls s)(k:SameBut w H H')(hw:H w=some (.lst zs))(hm:w∉M)(h0:H0 w=none):RunD D U K C S H0 H' q p sh d M n ts ls s:=
 ⟨r.h.keep (fun m hm' o e=>k m o e (fun e2=>hm (e2▸hm'))) (fun v e hv=>k v _ hv (fun e2=>by rw [e2,hw]at hv;cases hv)),r.shf.butL k hw,r.st,but_same r.sm h0 k,r.n0,r.nd,r.nsh,r.ndm,r.ok⟩
theorem RunD.free{b:Addr}(r:RunD D U K C S H0 H q p sh d M n ts ls s)(hb:H b=none):b∉d::M:=fun hm=>by
 rcases List.mem_cons.mp hm with e | e
 · rw [e,r.shf.d]at hb;cases hb
 · exact r.h.live b e hb
theorem RunD.stk(r:RunD D U K C S H0 H q p sh d M n ts ls s):StockAt K C H p ts∧∀H',Kp M H H'→StockAt K C H' p ts:=⟨r.st.same r.sm,fun H' k=>r.st.same (Kp.same r.sm k r.n0)⟩
end
noncomputable def sp58_choice(D:Addr):Sp:=fun vs H Q _=>∃(q p l:Addr) (n U:Int) (x:DuX) (s:DuS),vs=[.ref q,.ref l]∧DuAt D U H q p n x s∧0 < U∧U≤10 ^ 180∧s.ks≠[]∧∀(H':Hp),Same H H'→Q (.str (lst1 s.f s.ks)) H'
noncomputable def sp58_room(D:Addr)(K:PySem.W.Frag)(C S:Addr):Sp:=fun vs H Q _=>∃(H0:Hp) (q p sh d:Addr) (M:List Addr) (n need U:Int) (ts:List Th) (ls:Ly) (s:DuS) (z:Str),vs=[.ref q,.ref sh,.int need]∧RunD D U K C S H0 H q p sh d M n ts ls s∧DM U ts (ts.map (·.1)) z s (lyN ls)∧need≤n∧ls.length≤60∧ts.length≤60∧s.rs.length≤300∧
 ∀(w:Addr) (ls':Ly) (H':Hp),Kp (d::M) H H'→H w=none→H' w=some (.lst ((gf (TD D U ts) (rm ts) n need s (lyN ls) []).2.2.map V.str))→lyN ls'=(gf (TD D U ts) (rm ts) n need s (lyN ls) []).2.1→RunD D U K C S H0 H' q p sh d M n ts ls' (gf (TD D U ts) (rm ts) n need s (lyN ls) []).1→Q (.ref w) H'
noncomputable def sp58_row(D:Addr)(K:PySem.W.Frag)(C S:Addr):Sp:=fun vs H Q _=>∃(H0:Hp) (q p sh d:Addr) (M:List Addr) (n U:Int) (ts:List Th) (ls:Ly) (s:DuS) (z:Str),vs=[.ref q,.ref sh,.str z]∧RunD D U K C S H0 H q p sh d M n ts ls s∧DI U ts (ts.map (·.1)) s (lyN ls)∧(ts.map (·.1)).Nodup∧ts.length≤60∧z∈ts.map (·.1)∧rm ts z≤n∧s.rs.length≤299∧
 ∀(t g:Addr) (ls':Ly) (H':Hp),Kp (d::M) H H'→H t=none→H g=none→H' t=some (.tup [.str (gask (TD D U ts) (rm ts) n (s,lyN ls) z).2.1,.bl (gask (TD D U ts) (rm ts) n (s,lyN ls) z).2.2.1,.ref g])→H' g=some (.lst ((gask (TD D U ts) (rm ts) n (s,lyN ls) z).2.2.2.map V.str))→lyN ls'=(gask (TD D U ts) (rm ts) n (s,lyN ls) z).1.2→RunD D U K C S H0 H' q p sh d M n ts ls' (gask (TD D U ts) (rm ts) n (s,lyN ls) z).1.1→Q (.ref t) H'
noncomputable def sp58_book(D:Addr)(K:PySem.W.Frag)(C S:Addr):Sp:=fun vs H Q _=>∃(H0:Hp) (q p a:Addr) (M:List Addr) (n U:Int) (ts:List Th) (ys:List Str) (s0:DuS),vs=[.ref q,.ref a]∧AtD D U H M q p n s0∧DI U ts (ts.map (·.1)) s0 []∧StockAt K C H0 p ts∧Same H0 H∧(∀m∈M,H0 m=none)∧(ts.map (·.1)).Nodup∧ts.length≤60∧SqL K H a (ys.map V.str)∧a∉M∧ys.length≤200∧(∀y∈ys,y∈ts.map (·.1))∧(∀y∈ys,rm ts y≤n)∧1≤n∧n≤1000000∧s0.rs.length≤50∧
 ∀(b:Addr) (as gs:List Addr) (H':Hp),Kp M H H'→H' b=some (.lst (as.map V.ref))→(∀(i:Nat) a,as[i]?=some a→∃xs,H' a=some (.tup xs))→BookAt K H' b as gs (grows (TD D U ts) (rm ts) n s0 ys ys.length)→AtD D U H' M q p n (gst (TD D U ts) (rm ts) n s0 ys ys.length).1→Q (.ref b) H'
open N41 in
noncomputable def sp58_common(K:PySem.W.Frag):Sp:=fun vs H Q _=>∃(p:Addr) (ps:List (Int×Int)) (U:Int),vs=[.ref p]∧PrAt K H p ps∧0 < U∧U≤10 ^ 180∧(∀q∈ps,0 < q.2∧q.2 ∣ U)∧∀S:Int,0 < S→S ∣ U→(∀q∈ps,q.2 ∣ S)→Q (.int S) H
open N41 in
noncomputable def sp58_floor(K:PySem.W.Frag)(C:Addr):Sp:=fun vs H Q _=>∃(p a pr:Addr) (P U:Int) (ts:List Th) (ys:List Str) (ps:List (Int×Int)),vs=[.ref p,.ref a,.int P,.ref pr]∧StockAt K C H p ts∧(ts.map (·.1)).Nodup∧SqL K H a (ys.map V.str)∧ys.length≤200∧(∀y∈ys,y∈ts.map (·.1))∧(∀y∈ys,rm ts y≤P)∧1≤P∧P≤1000000∧(∀y∈ys,0≤cst ts y∧cst ts y≤10 ^ 30∧1≤rm ts y)∧
 PrAt K H pr ps∧ps.length=ys.length∧0 < U∧U≤10 ^ 180∧(∀q∈ps,0≤q.1∧q.1≤10 ^ 240∧0 < q.2∧q.2 ∣ U)∧
 ∀(S:Int) (p':Addr) (H':Hp),0 < S→S ∣ U→(∀q∈ps,q.2 ∣ S)→Same H H'→H p'=none→
   H' p'=some (.tup [.int (rt S (fl (cst ts) (rm ts) (topsOf S ps) S P ys ys.length)).1,.int (rt S (fl (cst ts) (rm ts) (topsOf S ps) S P ys ys.length)).2])→Q (.ref p') H'
theorem nat_lt{x:Int}{a:Nat}(h0:0≤x)(h1:x≤10 ^ a)(ha:a < 1000):x.natAbs < 10 ^ 1000:=by
 have e:((10 ^ a:Nat):Int)=(10:Int) ^ a:=by norm_cast
 have h2:x.natAbs≤10 ^ a:=by
  have h3:(x.natAbs:Int)=x:=by omega
  have h4:(x.natAbs:Int)≤((10 ^ a:Nat):Int):=by rw [h3,e];exact h1
  exact Int.ofNat_le.mp h4
 exact Nat.lt_of_le_of_lt h2 (Nat.pow_lt_pow_right (by decide) ha)
theorem topw{t f:Int}(h0:0≤t)(h1:t≤10 ^ 240)(g0:0≤f)(g1:f≤10 ^ 180):0≤t * f∧t * f≤10 ^ 420:=by
 refine ⟨Int.mul_nonneg h0 g0,?_⟩
 calc t * f≤10 ^ 240 * 10 ^ 180:=Int.mul_le_mul h1 g1 g0 (by decide+kernel)
  _=10 ^ 420:=by decide+kernel
theorem segw{T:List Int}(h:∀t∈T,0≤t∧t≤10 ^ 420)(hl:T.length≤200){a b:Nat}:0≤N41.seg T a b∧N41.seg T a b≤10 ^ 423:=by
 obtain ⟨h1,h2⟩:=N41.sum_in (l:=(T.take b).drop a) (M:=10 ^ 420) (by decide+kernel) fun t ht=>h t (List.mem_of_mem_take (List.mem_of_mem_drop ht))
 have h3:(((T.take b).drop a).length:Int)≤200:=by rw [List.length_drop,List.length_take];omega
 refine ⟨h1,Int.le_trans h2 ?_⟩
 calc (((T.take b).drop a).length:Int) * 10 ^ 420≤200 * 10 ^ 420:=Int.mul_le_mul_of_nonneg_right h3 (by decide+kernel)
  _≤10 ^ 423:=by decide+kernel
theorem cst_nn{U:Int}{ts:List Th}(h:Un U ts)(y:Str):0≤N41.cst ts y:=by
 unfold N41.cst
 cases e:ts.find? fun t=>decide (t.1=y) with
 | none=>exact Int.le_refl 0
 | some t=>exact (h.c t (List.mem_of_find?_eq_some e)).1
theorem pds_nn{c:Str→Int}{rows:List N14.Row}(h:∀y,0≤c y):0≤pds c rows:=sum_nn fun t ht=>by
 obtain ⟨r,_,rfl⟩:=List.mem_map.mp ht
 exact h _
theorem pds_eq{T:RuleT}{R c:Str→Int}{n:Int}{s0:T.St}{ys:List Str}{m:Nat}:((List.range m).filter fun i=>!(grow T R n s0 ys i).2.1).map (fun i=>V.int (c (grow T R n s0 ys i).1))=(((grows T R n s0 ys m).filter fun r=>!r.2.1).map fun r=>c r.1).map V.int:=by
 unfold grows
 rw [List.filter_map,List.map_map,List.map_map]
 rfl
theorem tops_back{S U w:Int}(hU:0 < U)(hS:0 < S)(hSU:S ∣ U)(hb:(rt U w).2 ∣ S):U / S * ((rt U w).1 * S.fdiv (rt U w).2)=w:=by
 obtain ⟨c1,c2,_⟩:=rt_all (v:=w) hU
 obtain ⟨k,hk⟩:=hb
 obtain ⟨m,hm⟩:=hSU
 have e1:S.fdiv (rt U w).2=k:=by rw [Int.fdiv_eq_ediv_of_nonneg _ (by omega),hk,Int.mul_ediv_cancel_left _ (by omega)]
 have e2:U / S=m:=by rw [hm,Int.mul_ediv_cancel_left _ (by omega)]
 rw [e1,e2]
 generalize (rt U w).1=t at c1 ⊢
 generalize (rt U w).2=b at c1 c2 hk ⊢
 refine Int.eq_of_mul_eq_mul_right (a:=b) (by omega) ?_
 rw [← c1,hm,hk]
 grind
theorem tops_all{S U:Int}{rs:List Int}(hU:0 < U)(hS:0 < S)(hSU:S ∣ U)(hb:∀q∈rs.map (rt U),q.2 ∣ S):(N41.topsOf S (rs.map (rt U))).map (fun t=>U / S * t)=rs:=by
 unfold N41.topsOf
 rw [List.map_map,List.map_map]
 conv=>rhs;rw [← List.map_id rs]
 refine List.map_congr_left fun w hw=>?_
 exact tops_back hU hS hSU (hb _ (List.mem_map.mpr ⟨w,hw,rfl⟩))
theorem fl_up{c r:Str→Int}{T:List Int}{S P B:Int}{ys:List Str}(hT:∀t∈T,0≤t)(hB:0≤B):∀n,n≤T.length→(∀i,i < n→c (ys.getD i Str.empty) * S≤B∧r (ys.getD i Str.empty)≤P)→N41.fl c r T S P ys n≤n * B
 | 0,_,_=>by show (0:Int)≤_;simp
 | n+1,h,hc=>by
  have h1:=fl_up hT hB n (by omega) fun i hi=>hc i (by omega)
  obtain ⟨c1,c2⟩:=hc n (by omega)
  have h2:=N41.least_cost (c:=c) (r:=r) (T:=T) (S:=S) (ys:=ys) (n:=n)
  have h3:0≤T.getD n 0 * (P - r (ys.getD n Str.empty)):=Int.mul_nonneg (hT _ (by rw [List.getD_eq_getElem?_getD,List.getElem?_eq_getElem (show n < T.length by omega)];exact List.getElem_mem _)) (by omega)
  show N41.fl c r T S P ys n+(_ - _)≤_
  have e:((n+1:Nat):Int) * B=n * B+B:=by rw [Int.natCast_add,Int.add_mul];simp
  omega
theorem end_le{n m paid U S φ k:Int}(hU:0 < U)(hS:0 < S)(hSU:S ∣ U)(hk:0≤k)(h:m * (paid * U)+k≤n * (U / S * φ)):m * paid * S≤n * φ∧m * paid * (rt S φ).2≤n * (rt S φ).1:=by
 obtain ⟨d,hd⟩:=hSU
 have hd0:0 < d:=by
  rcases Int.lt_or_le 0 d with h1 | h1
  · exact h1
  · have:=Int.mul_nonneg_of_nonpos_of_nonpos (a:=-S) (b:=d) (by omega) h1
    have e:-S * d=-U:=by rw [hd];grind
    omega
 have e2:U / S=d:=by rw [hd,Int.mul_ediv_cancel_left _ (by omega)]
 rw [e2]at h
 have h1:m * paid * S≤n * φ:=by
  refine Int.le_of_mul_le_mul_left (a:=d) ?_ hd0
  have a1:d * (m * paid * S)=m * (paid * U):=by rw [hd];grind
  have a2:d * (n * φ)=n * (d * φ):=by grind
  omega
 refine ⟨h1,?_⟩
 obtain ⟨c1,c2,_⟩:=rt_all (v:=φ) hS
 generalize (rt S φ).1=x at c1 ⊢
 generalize (rt S φ).2=y at c1 c2 ⊢
 refine Int.le_of_mul_le_mul_left (a:=S) ?_ hS
 have a1:S * (m * paid * y)=y * (m * paid * S):=by grind
 have a2:S * (n * x)=y * (n * φ):=by
  have:S * (n * x)=n * (x * S):=by grind
  rw [this,c1];grind
 rw [a1,a2]
 exact Int.mul_le_mul_of_nonneg_left h1 (by omega)
end N58
namespace L2
theorem compL_ixf{K:PySem.W.Frag}{H1:Hp}{tail:L2.St}{tt:Blk→TT}{te:Blk→TE}{Q:VK}{a:Addr}{xs:List V}(p:Nat→Bool)(f:Nat→V)(hS:SqL K H1 a xs)(hz:xs.length≤sizeLine)
 (ht:∀b (i:Nat) x H QT,xs[i]?=some x→Same H1 H→(∀H',Same H H'→QT (p i) H')→tt b (some x::tail) H QT)
 (he:∀b (i:Nat) x H Q',xs[i]?=some x→p i=true→Same H1 H→(∀H',Same H H'→Q' (f i) H')→te b (some x::tail) H Q')
 (q:∀D H',H1 D=none→Same H1 H'→H' D=some (.lst (((List.range xs.length).filter p).map f))→Q (.ref D) H'):CompTail (none::tail) (fun _=>gName 0) tt te Q (Itl K a) H1:=by
 intro b D hD
 refine ⟨fun i m ys H=>m=xs.length - i∧i≤xs.length∧ys=((List.range i).filter p).map f∧H D=some (.lst ys)∧Same H1 H,⟨_,rfl,Nat.zero_le _,rfl,upd_same,same_new hD⟩,?_⟩
 rintro i m ys H ⟨rfl,hi,rfl,hd,sm⟩
 refine ⟨hd,?_⟩
 by_cases hlt:i < xs.length
 · have hx:=List.getElem?_eq_getElem hlt
   refine .inr ⟨⟨xs,xs[i],sm.seq hS,hx⟩,fun x H3 ⟨e3,ex⟩=>⟨kept0,?_⟩⟩
   subst e3
   have hx':=(ex xs (sm.seq hS)).symm.trans hx
   cases hx'
   have hl:(((List.range i).filter p).map f).length≤i:=by
    rw [List.length_map];exact Nat.le_trans (List.length_filter_le _ _) (by rw [List.length_range];omega)
   have htk:(List.range (i+1)).filter p=(List.range i).filter p++[i].filter p:=by rw [List.range_succ,List.filter_append]
   refine ht b i _ _ _ hx sm fun H7 s7=>?_
   by_cases hp:p i=true
   · rw [if_pos hp]
     refine he b i _ H7 _ hx hp (sm.trans s7) fun H8 s8=>?_
     have hd8:=(s7.trans s8) _ _ hd
     refine ⟨hd8,by omega,xs.length - (i+1),by omega,rfl,hlt,?_,upd_same,same_put ((sm.trans s7).trans s8) hD⟩
     rw [htk,List.filter_cons_of_pos hp,List.filter_nil,List.map_append];rfl
   · rw [if_neg hp]
     refine ⟨xs.length - (i+1),by omega,rfl,hlt,?_,s7 _ _ hd,sm.trans s7⟩
     rw [htk,List.filter_cons_of_neg hp,List.filter_nil,List.append_nil]
 · have e:i=xs.length:=by omega
   subst e
   exact .inl ⟨⟨xs,sm.seq hS,Nat.le_refl _⟩,q D H hD sm hd⟩
end L2
open PySem PySem.W PyProof.Rows
namespace L2
structure Bs(P:Program)(w:World)(K:PySem.W.Frag)(mg:Str→Option Value)(base:Heap):Prop where
 ex:∃h:Heap,K.In h∧h.Ns mainGlobals mg
theorem lc{α:Type}{us:List α}{n:Nat}(h:us.length=n+1):∃u r,us=u::r∧r.length=n:=by
 cases us with
 | nil=>cases h
 | cons u r=>exact ⟨u,r,rfl,Nat.succ.inj h⟩
theorem l0{α:Type}{us:List α}(h:us.length=0):us=[]:=by
 cases us with
 | nil=>rfl
 | cons u r=>cases h
section
variable {P:Program} {w:World} {K:PySem.W.Frag} {mg:Str→Option Value} {base:Heap} {CX:CXT} {k:Nat} {sp:Sp} {ps:List Str} {x qual n p1 p2 p3 p4 p5 p6 p7:Str} {st:Stmt} {f C:Addr} {fd:FuncData}
theorem Fun.d(F:Fun K x qual st f fd)(B:Bs P w K mg base)(a:PySem.W.nsIn K mainGlobals x=some (some (.ref f)))(o:FnOk P w K mg base CX k f fd ps sp)(b:Binds K fd ps []):Def P w K mg base CX k x ps sp:=
 let ⟨_,X,G⟩:=B.ex;⟨f,fd,o,PySem.W.mg_of X G a,F.kp,b⟩
theorem Fun.m(F:Fun K x qual st f fd)(B:Bs P w K mg base)(M:Meth K C x f)(o:FnOk P w K mg base CX k f fd ps sp)(b:Binds K fd ps []):DefM P w K mg base CX k C x ps sp:=
 ⟨f,fd,o,M,b⟩
theorem Fun.i(F:Fun K x qual st f fd)(B:Bs P w K mg base)(M:Mk K C f)(a:PySem.W.nsIn K mainGlobals n=some (some (.ref C)))(o:FnOk P w K mg base CX k f fd ps sp)(b:Binds K fd ps []):DefI P w K mg base CX k n C ps sp:=
 let ⟨_,X,G⟩:=B.ex;⟨f,fd,o,M,PySem.W.mg_of X G a,b⟩
theorem Fun.e1(F:Fun K x qual st f fd)(h:∀(kV doc pm:Value) (an:Option Addr) (cdv ct u:Value),bindArgs (PySem.W.fnOf x qual (defArgs st) (defBody st) (defScope st) .none kV doc pm an cdv ct) ⟨[u],[]⟩=pure [(p1,u)]):Binds K fd [p1] []:=
 F.binds (ps:=[p1]) fun kV doc pm an cdv ct us hl=>by
  obtain ⟨u,us,rfl,h1⟩:=lc hl
  cases l0 h1
  exact h kV doc pm an cdv ct u
theorem Fun.e2(F:Fun K x qual st f fd)(h:∀(kV doc pm:Value) (an:Option Addr) (cdv ct u v:Value),bindArgs (PySem.W.fnOf x qual (defArgs st) (defBody st) (defScope st) .none kV doc pm an cdv ct) ⟨[u,v],[]⟩=pure [(p1,u),(p2,v)]):Binds K fd [p1,p2] []:=
 F.binds (ps:=[p1,p2]) fun kV doc pm an cdv ct us hl=>by
  obtain ⟨u,us,rfl,h1⟩:=lc hl
  obtain ⟨v,us,rfl,h2⟩:=lc h1
  cases l0 h2
  exact h kV doc pm an cdv ct u v
theorem Fun.e3(F:Fun K x qual st f fd)(h:∀(kV doc pm:Value) (an:Option Addr) (cdv ct u v w:Value),bindArgs (PySem.W.fnOf x qual (defArgs st) (defBody st) (defScope st) .none kV doc pm an cdv ct) ⟨[u,v,w],[]⟩=pure [(p1,u),(p2,v),(p3,w)]):Binds K fd [p1,p2,p3] []:=
 F.binds (ps:=[p1,p2,p3]) fun kV doc pm an cdv ct us hl=>by
  obtain ⟨u,us,rfl,h1⟩:=lc hl
  obtain ⟨v,us,rfl,h2⟩:=lc h1
  obtain ⟨w,us,rfl,h3⟩:=lc h2
  cases l0 h3
  exact h kV doc pm an cdv ct u v w
theorem Fun.e4(F:Fun K x qual st f fd)(h:∀(kV doc pm:Value) (an:Option Addr) (cdv ct u v w y:Value),bindArgs (PySem.W.fnOf x qual (defArgs st) (defBody st) (defScope st) .none kV doc pm an cdv ct) ⟨[u,v,w,y],[]⟩=pure [(p1,u),(p2,v),(p3,w),(p4,y)]):Binds K fd [p1,p2,p3,p4] []:=
 F.binds (ps:=[p1,p2,p3,p4]) fun kV doc pm an cdv ct us hl=>by
  obtain ⟨u,us,rfl,h1⟩:=lc hl
  obtain ⟨v,us,rfl,h2⟩:=lc h1
  obtain ⟨w,us,rfl,h3⟩:=lc h2
  obtain ⟨y,us,rfl,h4⟩:=lc h3
  cases l0 h4
  exact h kV doc pm an cdv ct u v w y
end
theorem st_c{n:Str}{N:List Str}{v:V}{vs:List V}:start (n::N) (v::vs)=some v::start N vs:=by
 simp [start]
theorem st_n{n:Str}{N:List Str}:start (n::N) []=none::start N []:=rfl
theorem st_e:start [] []=[]:=rfl
end L2
namespace K58
open L2 K03 N1 N5 N4 N6 N12 N32 N41 N14 N20 N18 N25 NR NQ N57 N58
local macro_rules | `(tactic| walk_at "rq") => `(tactic| simp only [rd_asg, rd_var, rd_c, rd_op, rd_I0, rd_I, rd_U, rd_name, rd_ifS, rd_test, rd_b, rd_ret, rd_retN, rd_next, rd_break, rd_cont, rd_cb, rd_cons, rd_nil, rd_call, rd_not, rd_or, rd_and, rd_andV, rd_orV, rd_notV, rd_if, rd_un, rd_eq, rd_ne, rd_par, rd_tup, rd_lst, rd_never, rd_drop, rd_gcons, rd_gnil, rd_gsub, rd_chain, rd_rng1, rd_rng2, rd_ilist, rd_itup, rd_for', scal, rd_comp, rd_istr, rd_sl, rd_noPart, rd_part, rd_slS, rd_slL, rd_bm, rd_bm0, tyV_str, rd_join, rd_find, rd_split, rd_all, rd_mulS, rd_jnil, rd_jcons, rd_fstr, rd_fmt, rd_fmtR, rd_dnewK, true_implies, false_implies, Bool.false_and, Bool.true_and, Bool.and_true, Bool.and_false, Bool.false_or, Bool.true_or, Bool.or_true, Bool.or_false, rd_eqQ, rd_neQ, rd_methE, rd_makeE, rd_fld, rd_sfld, rd_din, rd_dnotin, rd_dget, rd_dput, rd_gtup, rd_inS, rd_notinS, hasS_one, blk_K, Int.zero_add, Int.toNat_natCast, upd_upd, List.map_cons, List.map_nil, List.getD_cons_zero, List.getD_cons_succ, cxOf_K, List.length_cons, List.length_nil, List.getElem?_cons_zero, List.getElem?_cons_succ, List.set_cons_zero, List.set_cons_succ, Option.some.injEq, V.int.injEq, V.bl.injEq, V.str.injEq, V.ref.injEq, V.ty.injEq, exists_eq_left', exists_eq_left, exists_and_left, exists_eq, exists_eq', List.cons.injEq, and_true, true_and, decide_eq_true_eq, Bool.not_eq_true', decide_eq_false_iff_not, reduceCtorEq, exists_const, Bool.true_eq_false, Bool.false_eq_true, if_true, if_false, ite_true, ite_false, Bool.not_true, Bool.not_false, decide_true, decide_false, Bool.not_not, false_and, and_false, exists_false, false_or, or_false, true_or, or_true, and_assoc, not_true_eq_false, not_false_eq_true, Int.reduceToNat, Nat.reduceAdd, sp_cell, sp_made, sp_is_name, sp_law, sp_is_whole, sp_within, sp_checkG, sp_initG, sp_has, sp_thingG, sp_roomG, sp32_room, sp32_thing, sp32_check, N41.sp41_asks, sp_putG, sp_castG, rd_listD, rd_values, rd_sumV, rd_remove, rd_dpop1, sp_nms, sp_sinit, sp_lying, sp_holds, sp_left, rd_ienum, rd_izip, sp_mix, sp12_names, rd_items, rd_iview, rd_comp3, rd_popAt, rd_compI, rd_comp2, rd_maxL, rd_maxV, rd_neN, rd_setL, rd_dget1, sp20_stream, sp20_names, sp20_rows, sp20_places, sp20_asks, sp20_rooms, sp20_same, rd_callS, rd_sumL, rd_dget2, rAdd, rd_augN, rd_ipI, rd_isnB, sp41_div, sp41_cost, sp57_ratio, sp57_plus, sp57_minus, sp57_under, sp57_rinit, sp57_init, sp57_owe, sp57_asked, sp57_gone, sp57_prices, rd_eqN, sp57_rows, sp57_priced, rd_thaw, rd_idict, sp41_prices, sp32_early, sp58_choice, sp58_room, sp58_row, sp58_book, sp58_common, sp58_floor, rd_disp1])
local macro_rules | `(tactic| walk_at "rd") => `(tactic| first | (dsimp only [rd_asg, rd_var, rd_c, rd_op, rd_I0, rd_I, rd_U, rd_name, rd_ifS, rd_test, rd_b, rd_ret, rd_retN, rd_next, rd_break, rd_cont, rd_cb, rd_cons, rd_nil, rd_call, rd_not, rd_or, rd_and, rd_andV, rd_orV, rd_notV, rd_if, rd_un, rd_eq, rd_ne, rd_par, rd_tup, rd_lst, rd_never, rd_drop, rd_gcons, rd_gnil, rd_gsub, rd_chain, rd_rng1, rd_rng2, rd_ilist, rd_itup, rd_for', scal, rd_comp, rd_istr, rd_sl, rd_noPart, rd_part, rd_slS, rd_slL, rd_bm, rd_bm0, tyV_str, rd_join, rd_find, rd_split, rd_all, rd_mulS, rd_jnil, rd_jcons, rd_fstr, rd_fmt, rd_fmtR, rd_dnewK, true_implies, false_implies, Bool.false_and, Bool.true_and, Bool.and_true, Bool.and_false, Bool.false_or, Bool.true_or, Bool.or_true, Bool.or_false, rd_eqQ, rd_neQ, rd_methE, rd_makeE, rd_fld, rd_sfld, rd_din, rd_dnotin, rd_dget, rd_dput, rd_gtup, rd_inS, rd_notinS, hasS_one, blk_K, Int.zero_add, Int.toNat_natCast, upd_upd, List.map_cons, List.map_nil, List.getD_cons_zero, List.getD_cons_succ, cxOf_K, List.length_cons, List.length_nil, List.getElem?_cons_zero, List.getElem?_cons_succ, List.set_cons_zero, List.set_cons_succ, Option.some.injEq, V.int.injEq, V.bl.injEq, V.str.injEq, V.ref.injEq, V.ty.injEq, exists_eq_left', exists_eq_left, exists_and_left, exists_eq, exists_eq', List.cons.injEq, and_true, true_and, decide_eq_true_eq, Bool.not_eq_true', decide_eq_false_iff_not, reduceCtorEq, exists_const, Bool.true_eq_false, Bool.false_eq_true, if_true, if_false, ite_true, ite_false, Bool.not_true, Bool.not_false, decide_true, decide_false, Bool.not_not, false_and, and_false, exists_false, false_or, or_false, true_or, or_true, and_assoc, not_true_eq_false, not_false_eq_true, Int.reduceToNat, Nat.reduceAdd, sp_cell, sp_made, sp_is_name, sp_law, sp_is_whole, sp_within, sp_checkG, sp_initG, sp_has, sp_thingG, sp_roomG, sp32_room, sp32_thing, sp32_check, N41.sp41_asks, sp_putG, sp_castG, rd_listD, rd_values, rd_sumV, rd_remove, rd_dpop1, sp_nms, sp_sinit, sp_lying, sp_holds, sp_left, rd_ienum, rd_izip, sp_mix, sp12_names, rd_items, rd_iview, rd_comp3, rd_popAt, rd_compI, rd_comp2, rd_maxL, rd_maxV, rd_neN, rd_setL, rd_dget1, sp20_stream, sp20_names, sp20_rows, sp20_places, sp20_asks, sp20_rooms, sp20_same, rd_callS, rd_sumL, rd_dget2, rAdd, rd_augN, rd_ipI, rd_isnB, sp41_div, sp41_cost, sp57_ratio, sp57_plus, sp57_minus, sp57_under, sp57_rinit, sp57_init, sp57_owe, sp57_asked, sp57_gone, sp57_prices, rd_eqN, sp57_rows, sp57_priced, rd_thaw, rd_idict, sp41_prices, sp32_early, sp58_choice, sp58_room, sp58_row, sp58_book, sp58_common, sp58_floor, rd_disp1]; try walk_at "rq") | walk_at "rq")
local macro_rules | `(tactic| walk_at "hp") => `(tactic| first | with_reducible assumption | exact upd_same | (rw [upd_ne (by first | with_reducible assumption | exact ne_of_none (by with_reducible assumption) (by with_reducible assumption))]; first | with_reducible assumption | exact upd_same))
local macro_rules | `(tactic| walk_at "sq") => `(tactic| (repeat' first | with_reducible assumption | exact SqT.of upd_same | exact SqL.of upd_same | refine' Same.tup (Same.new (by with_reducible assumption)) ?_ | refine' Same.seq (Same.new (by with_reducible assumption)) ?_))
local macro_rules | `(tactic| walk_at "isi") => `(tactic| first | exact isi_ii | exact isi_ib | exact isi_bb | exact isi_is | exact isi_ss | exact isi_si | exact isi_sb | exact isi_bi | exact isi_bs | exact isi_ni | exact isi_ns | exact isi_tupt (by walk_at "hp") | exact isi_lstl (by walk_at "hp") | exact isi_tupl (by walk_at "hp") | exact isi_lstt (by walk_at "hp") | exact isi_tups (by walk_at "hp") | exact isi_lsts (by walk_at "hp") | exact isi_tupi (by walk_at "hp") | exact isi_lsti (by walk_at "hp"))
local macro_rules | `(tactic| walk_at "slen") => `(tactic| first | omega | decide +kernel | (refine le_app ?_ ?_ <;> walk_at "slen"))
local macro_rules | `(tactic| walk_at "side") => `(tactic| first | with_reducible assumption | with_reducible exact cdiv_of (by omega) (by omega) | with_reducible exact cpow_of (by decide) (by decide) (by decide) | with_reducible exact cmul_l (by omega) (by omega) | with_reducible exact cmul_r (by omega) (by omega) | omega | decide | decide +kernel | (have := line_val; omega) | (simp only [len_app, len_one, line_val]; omega) | (rw [line_val]; walk_at "slen"; done))
local macro_rules | `(tactic| walk_at "go1") => `(tactic| first | walk_at "rd" | ((with_reducible refine And.intro ?_ ?_); (focus (walk_at "side"; done))) | ((with_reducible apply isi_go); (focus (walk_at "isi"; done))) | ((with_reducible apply ixT_of); (focus (walk_at "sq"; done)); (focus rfl)) | ((with_reducible apply ixL_of); (focus (walk_at "sq"; done)); (focus rfl)) | ((with_reducible apply len_goT); (focus (walk_at "sq"; done))) | ((with_reducible apply len_goL); (focus (walk_at "sq"; done))) | ((with_reducible apply script_go); (focus (walk_at "sq"; done)); (focus (assumption; done))) | ((with_reducible apply cell_go); (focus (walk_at "sq"; done)); (focus (decide; done)); (focus (assumption; done))) | (intro (_ : List (Addr × PySem.Obj)) (_ : PySem.Value → PySem.Shared → Prop)) | with_reducible refine seq_go fun _ _ => ?_ | (refine leaf_go (by with_reducible assumption) ?_; subst_vars))
local macro_rules | `(tactic| walk_at "go") => `(tactic| repeat walk_at "go1")
noncomputable def top(i:Nat):Stmt:=PySem.Challenge.pw_castoff_k58_whole_the_prices_of_dues.main.body.getD i (.Pass ⟨0,0,0,0⟩)
structure Txt(K:W.Frag)(mg:Str→Option Value)(Z1 Z2 Z3 Z0:Addr):Prop where
 Z4b:mg "Stock"=some (.ref Z1)
 Z8:Cls K Z1
 Z6:NoAttr K Z1 "things"
 Z4c:mg "Shelf"=some (.ref Z2)
 Z7:Cls K Z2
 Zl:NoAttr K Z2 "stock"
 Zn:NoAttr K Z2 "places"
 Z9:NoAttr K Z2 "rooms"
 Z47:mg "Rule"=some (.ref Z3)
 Z4d:Cls K Z3
 Z4e:mg "Dues"=some (.ref Z0)
 Z5:Cls K Z0
 Zg:NoAttr K Z0 "stock"
 Zm:NoAttr K Z0 "places"
 Zf:NoAttr K Z0 "reached"
 Za:NoAttr K Z0 "dues"
 Zh:NoAttr K Z0 "rises"
 Zr:mg "len"=none
 Zo:mg "isinstance"=none
 Z2n:mg "int"=none
 Z1x:mg "bool"=none
 Z2o:mg "str"=none
 Z03:mg "list"=none
 Z27:mg "tuple"=none
 Z2p:mg "all"=none
 Zz:mg "range"=none
 Z17:mg "sum"=none
 Zp:mg "enumerate"=none
 Z3d:mg "zip"=none
 Z28:mg "max"=none
 Z2q:mg "min"=none
 Z29:mg "abs"=none
 Z07:∃t,mg "LETTERS"=some (.str "abcdefghijklmnopqrstuvwxyz" t)
 Z0h:∃t,mg "FIGURES"=some (.str "0123456789" t)
 Zy:∃t,mg "MOST_SIGNS"=some (.int 8 t)
 Zv:∃t,mg "MOST_THINGS"=some (.int 60 t)
 Z04:∃t,mg "MOST_ROOM"=some (.int 1000 t)
 Zw:∃t,mg "MOST_PLACES"=some (.int 1000000 t)
 Z05:∃t,mg "MOST_ASKS"=some (.int 200 t)
local macro_rules | `(tactic| walk_at "sc") => `(tactic| exact ⟨rfl, rfl, rfl, by decide +kernel, rfl, by decide +kernel, by decide +kernel⟩)
local macro_rules | `(tactic| walk_at "st") => `(tactic| simp only [st_c, st_n, st_e])
section
variable {P:Program} {w:World} {K:W.Frag} {mg:Str→Option Value} {base:Heap} {Z1 Z2 Z3 Z0:Addr}
noncomputable abbrev Z1y:Stmt:=top 31
noncomputable abbrev Z1z:Stmt:=top 32
noncomputable abbrev Z1m:Stmt:=top 14
noncomputable abbrev Z18:Stmt:=top 15
noncomputable abbrev Z0c:Stmt:=top 23
noncomputable abbrev Z0i:Stmt:=top 33
noncomputable abbrev Z0w:Stmt:=inClass (top 34) 0
noncomputable abbrev Z19:Stmt:=inClass (top 34) 2
noncomputable abbrev Z06:Stmt:=inClass (top 34) 3
noncomputable abbrev Z08:Stmt:=inClass (top 34) 6
noncomputable abbrev Z0x:Stmt:=top 37
noncomputable abbrev Z0y:Stmt:=inClass (top 24) 0
noncomputable abbrev Z0j:Stmt:=inClass (top 24) 1
noncomputable abbrev Z0k:Stmt:=inClass (top 24) 2
noncomputable abbrev Z02:Stmt:=inClass (top 24) 3
noncomputable abbrev Z1a:Stmt:=inClass (top 24) 4
noncomputable abbrev Z0z:Stmt:=inClass (top 24) 5
noncomputable abbrev Z09:Stmt:=inClass (top 34) 5
noncomputable abbrev Z10:Stmt:=top 16
noncomputable abbrev Z1n:Stmt:=top 17
noncomputable abbrev Z11:Stmt:=top 18
noncomputable abbrev Z0l:Stmt:=top 19
noncomputable abbrev Z0m:Stmt:=top 20
noncomputable abbrev Zx:Stmt:=inClass (top 40) 0
noncomputable abbrev Z1b:Stmt:=inClass (top 45) 0
noncomputable abbrev Z1o:Stmt:=inClass (top 45) 2
noncomputable abbrev Z12:Stmt:=inClass (top 45) 1
noncomputable abbrev Z0n:Stmt:=inClass (top 45) 3
noncomputable abbrev Z1c:Stmt:=inClass (top 45) 4
noncomputable abbrev Z1d:Stmt:=inClass (top 45) 5
noncomputable abbrev Z0o:Stmt:=inClass (top 45) 8
noncomputable abbrev Z1e:Stmt:=top 41
noncomputable abbrev Z2d:Stmt:=top 42
noncomputable abbrev Z20:Stmt:=top 43
noncomputable abbrev Z0d:Stmt:=top 38
noncomputable abbrev Z0e:Stmt:=top 47
noncomputable abbrev Z0a:Stmt:=top 48
noncomputable abbrev Z1p:Stmt:=top 49
noncomputable abbrev Z2e:Stmt:=top 51
noncomputable abbrev Z1q:Stmt:=top 52
noncomputable abbrev Z21:Stmt:=top 53
noncomputable abbrev Z2f:Stmt:=top 54
noncomputable abbrev Z1r:Stmt:=top 55
noncomputable abbrev Z2g:Stmt:=top 56
noncomputable abbrev Z1s:Stmt:=top 58
noncomputable abbrev Z0v:Stmt:=top 59
theorem Z3v{f:Addr}{fd:FuncData}(F:Fun K "made_of" "made_of" Z1y f fd)(T:Txt K mg Z1 Z2 Z3 Z0):FnOk P w K mg base CX0 1 f fd ["text","signs"] (sp_made):=by
 have sc:FnScope ["text","signs"] ["text","signs"] (defScope Z1y):=by walk_at "sc"
 refine F.ok sc (fun vs H Q E h=>?_) (fun cdv A outer s H vs Q E hr h=>?_)
 · obtain ⟨_,_,rfl,_⟩:=h;rfl
 obtain ⟨z,w,rfl,hz,q⟩:=h
 refine ⟨_,(@pss_one _ _ _ (@ps_ret _ _ _ _ (pe_callB (call_all rfl) rfl T.Z2p (by first | rfl | decide+kernel) (pa_cons (pe_comp1 "sign" [1] rfl rfl (pi_str (pv 0)) (fun b=>(pe_cmpR op_inS (pv 0) (pv 1) (by with_unfolding_all rfl)))) pa_nil)))),?_⟩
 walk_at "st"
 walk_at "go"
 refine compS_pure (fun c=>V.bl (decide (c∈w.cps.toList))) hz (fun b c H' Q' hc sm q'=>?_) fun D hD=>?_
 · walk_at "go"
   exact q'
 · refine ⟨_,rfl,z.cps.toList.map fun c=>decide (c∈w.cps.toList),?_,?_⟩
   · rw [List.map_map];exact SqL.of upd_same
   · rw [List.all_map];exact q _ (Same.new hD)
theorem Z3w{f:Addr}{fd:FuncData}(F:Fun K "is_name" "is_name" Z1z f fd)(T:Txt K mg Z1 Z2 Z3 Z0)(Z22:Def P w K mg base CX0 1 "made_of" ["text","signs"] (sp_made)):FnOk P w K mg base CX0 2 f fd ["thing"] (sp_is_name K):=by
 have sc:FnScope ["thing"] ["thing"] (defScope Z1z):=by walk_at "sc"
 refine F.ok sc (fun vs H Q E h=>?_) (fun cdv A outer s H vs Q E hr h=>?_)
 · obtain ⟨_,rfl,_⟩:=h;rfl
 obtain ⟨x,rfl,hx⟩:=h
 refine ⟨_,(@pss_cons _ _ _ _ _ (ps_if (pt_not (pt_val (pe_callB call_isinst rfl T.Zo (by first | rfl | decide+kernel) (pa_cons (pv 0) (pa_cons (pe_bltn (v:= .ty "str") rfl T.Z2o (by first | rfl | decide+kernel) rfl) pa_nil)))))
  (@pss_one _ _ _ (@ps_ret _ _ _ _ pe_bl))
  pss_nil)
  (@pss_cons _ _ _ _ _ (ps_if (PW.pt (pw_or (pt_cmpR op_lt (pe_callB call_len_str rfl T.Zr PySem.boot_len (pa_cons (pv 0) pa_nil)) pe_int (nomark _)) (pw_or1 (pt_cmpR op_gt (pe_callB call_len_str rfl T.Zr PySem.boot_len (pa_cons (pv 0) pa_nil)) (pe_gint rfl T.Zy) (nomark _)))))
   (@pss_one _ _ _ (@ps_ret _ _ _ _ pe_bl))
   pss_nil)
  (@pss_one _ _ _ (@ps_ret _ _ _ _ (pe_and (pe_cmpR op_inS (@pe_ix _ _ _ _ _ _ _ ix_str (pv 0) pe_int (fun _ _=>rfl)) (pe_gstr rfl T.Z07) (by with_unfolding_all rfl)) (pe_one (pe_callD Z22 hr rfl pass0 (pa_cons (pv 0) (pa_cons (pe_op op_add_str (pe_gstr rfl T.Z07) (pe_gstr rfl T.Z0h)) pa_nil))))))))),?_⟩
 walk_at "st"
 rcases hx with ⟨z,rfl,hz,q⟩ | ⟨hi,q⟩
 · walk_at "go"
   have hl:=str_len (z:=z)
   split
   · rename_i h1
     have e:nameB z.cps.toList=false:=by unfold nameB;rw [decide_eq_false (show ¬1≤z.cps.toList.length by omega)];rfl
     rw [e]at q;exact q _ (Same.refl H)
   · rename_i h1
     refine ⟨hz,?_⟩
     split
     · have e:nameB z.cps.toList=false:=by unfold nameB;rw [decide_eq_false (show ¬z.cps.toList.length≤8 by omega),Bool.and_false];rfl
       rw [e]at q;exact q _ (Same.refl H)
     · rename_i h2
       obtain ⟨c,r,hcr⟩:∃c r,z.cps.toList=c::r:=by
        cases h:z.cps.toList with
        | nil=>rw [h]at hl;simp at hl;omega
        | cons c r=>exact ⟨c,r,rfl⟩
       have hn:nameB z.cps.toList=(decide (c∈letters) && z.cps.toList.all fun c=>decide (c∈letters++figures)):=by
        unfold nameB;rw [decide_eq_true (show 1≤z.cps.toList.length by omega),decide_eq_true (show z.cps.toList.length≤8 by omega)];rw [hcr];rfl
       rw [hn]at q
       walk_at "go"
       refine ixS_of hz (by rw [hcr];exact at_0) ?_
       walk_at "go"
       rw [let_list]
       split
       · rename_i hc
         rw [decide_eq_true hc,Bool.true_and]at q
         walk_at "go"
         rw [app_list,let_list,fig_list]
         exact q
       · rename_i hc
         rw [decide_eq_false hc,Bool.false_and]at q
         exact q _ (Same.refl H)
 · walk_at "go"
   refine ⟨_,hi,?_⟩
   walk_at "go"
   exact q
theorem Z3o{f:Addr}{fd:FuncData}(F:Fun K "is_whole" "is_whole" Z1m f fd)(T:Txt K mg Z1 Z2 Z3 Z0):FnOk P w K mg base CX0 1 f fd ["thing"] (sp_is_whole K):=by
 have sc:FnScope ["thing"] ["thing"] (defScope Z1m):=by walk_at "sc"
 refine F.ok sc (fun vs H Q E h=>?_) (fun cdv A outer s H vs Q E hr h=>?_)
 · obtain ⟨_,_,_,rfl,_⟩:=h;rfl
 obtain ⟨x,b,c,rfl,h1,h2,q⟩:=h
 refine ⟨_,(@pss_one _ _ _ (@ps_ret _ _ _ _ (pe_and (pe_callB call_isinst rfl T.Zo (by first | rfl | decide+kernel) (pa_cons (pv 0) (pa_cons (pe_bltn (v:= .ty "int") rfl T.Z2n (by first | rfl | decide+kernel) rfl) pa_nil))) (pe_one (pe_not (pe_callB call_isinst rfl T.Zo (by first | rfl | decide+kernel) (pa_cons (pv 0) (pa_cons (pe_bltn (v:= .ty "bool") rfl T.Z1x (by first | rfl | decide+kernel) rfl) pa_nil)))))))),?_⟩
 walk_at "st"
 walk_at "go"
 refine ⟨_,h1,?_⟩
 cases b
 · walk_at "go"
   exact q
 · walk_at "go"
   refine ⟨_,h2 rfl,?_⟩
   walk_at "go"
   exact q
theorem Z3e{f:Addr}{fd:FuncData}(F:Fun K "is_within" "is_within" Z18 f fd)(T:Txt K mg Z1 Z2 Z3 Z0)(Z1t:Def P w K mg base CX0 1 "is_whole" ["thing"] (sp_is_whole K)):FnOk P w K mg base CX0 2 f fd ["thing","least","most"] (sp_within K):=by
 have sc:FnScope ["thing","least","most"] ["thing","least","most"] (defScope Z18):=by walk_at "sc"
 refine F.ok sc (fun vs H Q E h=>?_) (fun cdv A outer s H vs Q E hr h=>?_)
 · obtain ⟨_,_,_,rfl,_⟩:=h;rfl
 obtain ⟨v,lo,hi,rfl,hv,q⟩:=h
 refine ⟨_,(@pss_one _ _ _ (@ps_ret _ _ _ _ (pe_and (pe_callD Z1t hr rfl pass0 (pa_cons (pv 0) pa_nil)) (pe_one (pe_chain op_le op_le (pv 1) (pv 0) (pv 2)))))),?_⟩
 walk_at "st"
 obtain ⟨b,c,h1,h2,h3,h4⟩:=num_isi (K:=K) (H:=H) hv
 walk_at "go"
 refine ⟨b,h1,c,h2,?_⟩
 split
 · rename_i h
   obtain ⟨i,rfl⟩:=h3 h
   simp only [wIn]at q
   walk_at "go"
   split
   · rename_i h'
     rw [decide_eq_true h',Bool.true_and]at q;exact q
   · rename_i h'
     rw [decide_eq_false h',Bool.false_and]at q;exact q
 · rename_i h
   have e:wIn lo hi v=false:=by
    cases v with
    | int i=>exact absurd rfl (h4 (by simpa using h) i)
    | _=>rfl
   rw [e]at q;exact q
theorem Z2r{f:Addr}{fd:FuncData}(F:Fun K "check_places" "check_places" Z0c f fd)(T:Txt K mg Z1 Z2 Z3 Z0)(Zq:Def P w K mg base CX0 2 "is_within" ["thing","least","most"] (sp_within K)):FnOk P w K mg base CX0 3 f fd ["places"] (sp32_check):=by
 have sc:FnScope ["places"] ["places"] (defScope Z0c):=by walk_at "sc"
 refine F.ok sc (fun vs H Q E h=>?_) (fun cdv A outer s H vs Q E hr h=>?_)
 · obtain ⟨_,rfl,_⟩:=h;rfl
 obtain ⟨i,rfl,h1,h2,q⟩:=h
 refine ⟨_,(@pss_one _ _ _ (ps_if (pt_not (pt_val (pe_callD Zq hr rfl pass0 (pa_cons (pv 0) (pa_cons pe_int (pa_cons (pe_gint rfl T.Zw) pa_nil))))))
  (@pss_one _ _ _ ps_never)
  pss_nil)),?_⟩
 walk_at "st"
 walk_at "go"
 rw [if_neg (by rw [wIn_ok h1 h2];decide)]
 exact ⟨rfl,q⟩
theorem Z2w{f:Addr}{fd:FuncData}(F:Fun K "check_thing" "check_thing" Z0i f fd)(T:Txt K mg Z1 Z2 Z3 Z0)(Z23:Def P w K mg base CX0 2 "is_name" ["thing"] (sp_is_name K))(Zq:Def P w K mg base CX0 2 "is_within" ["thing","least","most"] (sp_within K)):FnOk P w K mg base CX0 3 f fd ["name","cost","room","earlier"] (sp_checkG K):=by
 have sc:FnScope ["name","cost","room","earlier"] ["name","cost","room","earlier"] (defScope Z0i):=by walk_at "sc"
 refine F.ok sc (fun vs H Q E h=>?_) (fun cdv A outer s H vs Q E hr h=>?_)
 · obtain ⟨_,_,_,_,_,_,rfl,_⟩:=h;rfl
 obtain ⟨n,co,r,e,kvs,ks,rfl,he,hk,hrow,q⟩:=h
 refine ⟨_,(@pss_cons _ _ _ _ _ (ps_if (pt_not (pt_val (pe_callD Z23 hr rfl pass0 (pa_cons (pv 0) pa_nil))))
  (@pss_one _ _ _ ps_never)
  pss_nil)
  (@pss_cons _ _ _ _ _ (ps_if (pt_cmp (pc_din (hu_of hr) (pv 0) (pv 3)))
   (@pss_one _ _ _ ps_never)
   pss_nil)
  (@pss_cons _ _ _ _ _ (ps_if (pt_not (pt_val (pe_callD Zq hr rfl pass0 (pa_cons (pv 1) (pa_cons pe_int (pa_cons (pe_op op_pow pe_int pe_int) pa_nil))))))
   (@pss_one _ _ _ ps_never)
   pss_nil)
  (@pss_one _ _ _ (ps_if (pt_not (pt_val (pe_callD Zq hr rfl pass0 (pa_cons (pv 2) (pa_cons pe_int (pa_cons (pe_gint rfl T.Z04) pa_nil))))))
   (@pss_one _ _ _ ps_never)
   pss_nil))))),?_⟩
 walk_at "st"
 obtain ⟨z,c,w,rfl,rfl,rfl,nz,hb,h1,h2,h3,h4⟩:=rowR_none hrow
 have line:=line_val
 have hz8:=name_len hb
 walk_at "go"
 intro H1 sm1
 rw [hb]
 have he1:=sm1 _ _ he
 walk_at "go"
 refine ⟨_,DGet.k (k:=Sum.inr z) he1,?_⟩
 rw [key_mem hk,decide_eq_false nz]
 walk_at "go"
 refine ⟨rfl,?_⟩
 split
 · rename_i h
   exact absurd h (by rw [wIn_ok h1 h2];decide)
 · walk_at "go"
   refine ⟨rfl,?_⟩
   split
   · rename_i h
     exact absurd h (by rw [wIn_ok h3 h4];decide)
   · walk_at "go"
     exact q _ sm1
theorem Z35{f:Addr}{fd:FuncData}(F:Fun K "__init__" "Stock.__init__" Z0w f fd)(T:Txt K mg Z1 Z2 Z3 Z0)(Z0p:Def P w K mg base CX0 3 "check_thing" ["name","cost","room","earlier"] (sp_checkG K)):FnOk P w K mg base CX0 4 f fd ["self","rows"] (sp_initG K Z1):=by
 have sc:FnScope ["self","rows","name","cost","room"] ["self","rows"] (defScope Z0w):=by walk_at "sc"
 refine F.ok sc (fun vs H Q E h=>?_) (fun cdv A outer s H vs Q E hr h=>?_)
 · obtain ⟨_,_,_,_,rfl,_⟩:=h;rfl
 obtain ⟨p,dx,ra,rs,rfl,hp,hrs,hall,er,q⟩:=h
 refine ⟨_,(@pss_cons _ _ _ _ _ (ps_if (pt_cmpR op_gt (pe_callB call_len_seq rfl T.Zr PySem.boot_len (pa_cons (pv 1) pa_nil)) (pe_gint rfl T.Zv) (nomark _))
  (@pss_one _ _ _ ps_never)
  pss_nil)
  (@pss_cons _ _ _ _ _ (ps_fld (pv 0) pe_dnewK rfl)
  (@pss_one _ _ _ (ps_for PassesOwn.never rfl (pi_list (pv 1)) (pg_tup rfl (pgs_cons (pg_name (i:=2) sc.nd rfl (Or.inl rfl)) (pgs_cons (pg_name (i:=3) sc.nd rfl (Or.inl rfl)) (pgs_cons (pg_name (i:=4) sc.nd rfl (Or.inl rfl)) pgs_nil))))
   (@pss_cons _ _ _ _ _ (ps_expr (pe_callD Z0p hr rfl pass0 (pa_cons (pv 2) (pa_cons (pv 3) (pa_cons (pv 4) (pa_cons (pe_fld (pv 0) rfl) pa_nil))))))
   (@pss_one _ _ _ (ps_dput (hu_of hr) (pe_fld (pv 0) rfl) (pv 2) (pe_tup (pa_cons (pe_callB call_lenD rfl T.Zr PySem.boot_len (pa_cons (pe_fld (pv 0) rfl) pa_nil)) (pa_cons (pv 3) (pa_cons (pv 4) pa_nil)))) rfl))))))),?_⟩
 walk_at "st"
 have line:=line_val
 obtain ⟨hl60,hstk⟩:=initR_none er
 walk_at "go"
 rw [List.length_map]
 split
 · rename_i h
   exact absurd h (by omega)
 · rename_i h
   walk_at "go"
   intro d hd
   have npd:p≠d:=ne_of_none hp hd
   walk_at "go"
   refine ⟨Z1,dx,[],by rw [upd_ne npd];exact hp,T.Z8,T.Z6,by decide,?_⟩
   have sb0:SameBut p H (upd (upd H d (.dK [])) p (.ins Z1 dx (flds d))):=fun b o e n=>by rw [upd_ne n,upd_ne (ne_of_none e hd)];exact e
   have hp0:upd (upd H d (.dK [])) p (.ins Z1 dx (flds d)) p=some (.ins Z1 dx (flds d)):=upd_same
   have hd0:upd (upd H d (.dK [])) p (.ins Z1 dx (flds d)) d=some (.dK []):=by rw [upd_ne npd.symm,upd_same]
   unfold flds at sb0 hp0 hd0
   generalize upd (upd H d (HO.dK [])) p (HO.ins Z1 dx (putF (Str.ofString "things") (V.ref d) []))=H0 at sb0 hp0 hd0 ⊢
   walk_at "go"
   refine ⟨⟨_,SqL.but sb0 hp hrs⟩,?_⟩
   refine forL_by (xs:=rs.map fun t=>V.ref t.1) (fun i σ H'=>∃v1 v2 v3,σ=[some (V.ref p),some (V.ref ra),v1,v2,v3]∧SameBut p H H'∧H' p=some (.ins Z1 dx (flds d))∧MidAt K H' d (rs.take i)∧stockR (nmsOf (rs.take i)) (rs.drop i)=none) ⟨none,none,none,rfl,sb0,hp0,⟨[],hd0,rfl,fun j t e=>by simp at e⟩,by rw [List.take_zero,List.drop_zero];exact hstk⟩ (fun i σ H' _ h_=>by obtain ⟨v1,v2,v3,_,sb,_⟩:=h_;exact SqL.but sb hp hrs) ?_ ?_
   · rintro i x σ H' hx ⟨v1,v2,v3,rfl,sb,hp',⟨kvs,hd',hk,hm⟩,hst⟩
     rw [List.getElem?_map]at hx
     cases ht:rs[i]? with
     | none=>rw [ht]at hx;cases hx
     | some t=>
      rw [ht]at hx
      simp only [Option.map_some,Option.some.injEq]at hx
      subst hx
      have hi:i < rs.length:=(List.getElem?_eq_some_iff.mp ht).1
      have r1:=SqT.but sb hp (hall t (List.mem_of_getElem? ht))
      rw [stockR_step ht]at hst
      have hkl:kvs.length=i:=by
       have:=congrArg List.length hk
       simp [nmsOf]at this;omega
      cases hrow:rowR (nmsOf (rs.take i)) t.2.1 t.2.2.1 t.2.2.2 with
      | some e=>rw [hrow]at hst;cases hst
      | none=>
       rw [hrow]at hst
       obtain ⟨z,c,q',e1,e2,e3,nz,hb,_⟩:=rowR_none hrow
       walk_at "go"
       refine ⟨_,r1,rfl,?_⟩
       walk_at "go"
       refine ⟨Z1,dx,flds d,hp',T.Z8,T.Z6,_,flds_things,d,rfl,kvs,hd',_,hk,hrow,fun H1 sm1=>?_⟩
       rw [e1,e2,e3]
       have hp1:=sm1 _ _ hp'
       have hd1:=sm1 _ _ hd'
       walk_at "go"
       refine ⟨Z1,dx,flds d,hp1,T.Z8,T.Z6,_,flds_things,?_⟩
       walk_at "go"
       refine ⟨kvs,hd1,by omega,fun t2 ht2=>?_⟩
       have np2:p≠t2:=ne_of_none hp1 ht2
       have nd2:d≠t2:=ne_of_none hd1 ht2
       have hd2:upd H1 t2 (.tup [.int kvs.length,.int c,.int q']) d=some (.dK kvs):=by rw [upd_ne nd2];exact hd1
       refine ⟨Z1,dx,flds d,by rw [upd_ne np2];exact hp1,T.Z8,T.Z6,_,flds_things,d,rfl,_,DPut.k (k:=Sum.inr z) hd2 (by omega),?_,?_,?_,?_⟩
       · intro b o eb nb
         have h1:=sm1 _ _ (sb b o eb nb)
         rw [upd_ne (ne_of_none eb hd),upd_ne (ne_of_none h1 ht2)]
         exact h1
       · rw [upd_ne npd,upd_ne np2];exact hp1
       · rw [List.take_add_one,ht]
         refine MidAt.snoc hd2 hk (fun j t' e=>?_) e1 e2 e3 nz upd_same
         obtain ⟨a,q1,q2⟩:=hm j t' e
         exact ⟨a,q1,(sm1.trans (Same.new ht2)).tup q2⟩
       · rw [List.take_add_one,ht]
         have e:nmsOf (rs.take kvs.length++(some t).toList)=nmsOf (rs.take kvs.length)++[sOf t.2.1]:=by unfold nmsOf;simp
         rw [e];exact hst
   · rintro σ H' ⟨v1,v2,v3,rfl,sb,hp',⟨kvs,hd',hk,hm⟩,hst⟩
     simp only [List.length_map,List.take_length,List.drop_length]at hk hm hst
     show Q V.non H'
     refine q _ sb ⟨dx,d,kvs,hp',hd',?_,fun i t ht=>?_⟩
     · rw [hk];unfold nmsOf;rw [List.map_map,List.map_map];rfl
     · rw [List.getElem?_map]at ht
       cases hr:rs[i]? with
       | none=>rw [hr]at ht;cases ht
       | some t'=>
        rw [hr]at ht
        simp only [Option.map_some,Option.some.injEq]at ht
        subst ht
        exact hm i t' hr
theorem Z3f{f:Addr}{fd:FuncData}(F:Fun K "has" "Stock.has" Z19 f fd)(T:Txt K mg Z1 Z2 Z3 Z0):FnOk P w K mg base CX0 1 f fd ["self","name"] (sp_has K Z1):=by
 have sc:FnScope ["self","name"] ["self","name"] (defScope Z19):=by walk_at "sc"
 refine F.ok sc (fun vs H Q E h=>?_) (fun cdv A outer s H vs Q E hr h=>?_)
 · obtain ⟨_,_,_,rfl,_⟩:=h;rfl
 obtain ⟨p,ts,z,rfl,hs,q⟩:=h
 refine ⟨_,(@pss_one _ _ _ (@ps_ret _ _ _ _ (pe_cmp (pc_din (hu_of hr) (pv 1) (pe_fld (pv 0) rfl))))),?_⟩
 walk_at "st"
 obtain ⟨dx,d,kvs,h1,h2,h3,h4,h5⟩:=StockAt.has hs
 walk_at "go"
 refine ⟨Z1,dx,flds d,h1,T.Z8,T.Z6,_,flds_things,d,rfl,_,DGet.k (k:=Sum.inr z) h2,?_⟩
 rw [h4]
 exact q
theorem Z2c{f:Addr}{fd:FuncData}(F:Fun K "thing_of" "Stock.thing_of" Z06 f fd)(T:Txt K mg Z1 Z2 Z3 Z0):FnOk P w K mg base CX0 1 f fd ["self","name"] (sp32_thing K Z1):=by
 have sc:FnScope ["self","name"] ["self","name"] (defScope Z06):=by walk_at "sc"
 refine F.ok sc (fun vs H Q E h=>?_) (fun cdv A outer s H vs Q E hr h=>?_)
 · obtain ⟨_,_,_,rfl,_⟩:=h;rfl
 obtain ⟨p,ts,z,rfl,hs,nd,hz,q⟩:=h
 refine ⟨_,(@pss_cons _ _ _ _ _ (ps_if (pt_cmp (pc_dnotin (hu_of hr) (pv 1) (pe_fld (pv 0) rfl)))
  (@pss_one _ _ _ ps_never)
  pss_nil)
  (@pss_one _ _ _ (@ps_ret _ _ _ _ (pe_dget (hu_of hr) (pe_fld (pv 0) rfl) (pv 1) (fun _ _=>rfl))))),?_⟩
 walk_at "st"
 obtain ⟨dx,d,kvs,h1,h2,h3,h4,h5⟩:=StockAt.has hs
 have line:=line_val
 walk_at "go"
 refine ⟨Z1,dx,flds d,h1,T.Z8,T.Z6,_,flds_things,d,rfl,_,DGet.k (k:=Sum.inr z) h2,?_⟩
 rw [h4,decide_eq_true hz]
 obtain ⟨i,t,ht,rfl⟩:=mem_nth hz
 obtain ⟨a,e1,e2⟩:=h5 nd i t ht
 walk_at "go"
 refine ⟨Z1,dx,flds d,h1,T.Z8,T.Z6,_,flds_things,?_⟩
 walk_at "go"
 refine ⟨V.ref a,by rw [← e1];exact DGet.k (k:=Sum.inr t.1) h2,?_⟩
 exact q i t ht rfl a e2
theorem Z2h{f:Addr}{fd:FuncData}(F:Fun K "room_of" "Stock.room_of" Z08 f fd)(T:Txt K mg Z1 Z2 Z3 Z0)(Zj:DefM P w K mg base CX0 1 Z1 "thing_of" ["self","name"] (sp32_thing K Z1)):FnOk P w K mg base CX0 2 f fd ["self","name"] (sp32_room K Z1):=by
 have sc:FnScope ["self","name"] ["self","name"] (defScope Z08):=by walk_at "sc"
 refine F.ok sc (fun vs H Q E h=>?_) (fun cdv A outer s H vs Q E hr h=>?_)
 · obtain ⟨_,_,_,rfl,_⟩:=h;rfl
 obtain ⟨p,ts,z,rfl,hs,nd,hz,q⟩:=h
 refine ⟨_,(@pss_one _ _ _ (@ps_ret _ _ _ _ (@pe_ix _ _ _ _ _ _ _ ix_tup (pe_methS Zj T.Z8 hr (passS pass0) (pv 0) (pa_cons (pv 1) pa_nil)) pe_int (fun _ _=>rfl)))),?_⟩
 walk_at "st"
 obtain ⟨dx,d,kvs,h1,h2,h3,h4,h5⟩:=StockAt.has hs
 walk_at "go"
 refine ⟨dx,flds d,h1,by rfl,?_⟩
 walk_at "go"
 refine ⟨ts,hs,nd,hz,fun i t ht e a ha=>?_⟩
 subst e
 refine ixT_of ha rfl ?_
 rw [rm_at nd ht]at q
 exact q
theorem Z36{f:Addr}{fd:FuncData}(F:Fun K "check_asks" "check_asks" Z0x f fd)(T:Txt K mg Z1 Z2 Z3 Z0)(Zb:Def P w K mg base CX0 3 "check_places" ["places"] (sp32_check))(Z1f:DefM P w K mg base CX0 1 Z1 "has" ["self","name"] (sp_has K Z1))(Z4:DefM P w K mg base CX0 2 Z1 "room_of" ["self","name"] (sp32_room K Z1)):FnOk P w K mg base CX0 4 f fd ["stock","asks","places"] (N41.sp41_asks K Z1):=by
 have sc:FnScope ["stock","asks","places","number","name"] ["stock","asks","places"] (defScope Z0x):=by walk_at "sc"
 refine F.ok sc (fun vs H Q E h=>?_) (fun cdv A outer s H vs Q E hr h=>?_)
 · obtain ⟨_,_,_,_,_,rfl,_⟩:=h;rfl
 obtain ⟨p,a,pl,ts,ys,rfl,hs,nd,hS,hl,hin,hw,h1,h2,q⟩:=h
 refine ⟨_,(@pss_cons _ _ _ _ _ (ps_expr (pe_callD Zb hr rfl pass0 (pa_cons (pv 2) pa_nil)))
  (@pss_cons _ _ _ _ _ (ps_if (pt_cmpR op_gt (pe_callB call_len_seq rfl T.Zr PySem.boot_len (pa_cons (pv 1) pa_nil)) (pe_gint rfl T.Z05) (nomark _))
   (@pss_one _ _ _ ps_never)
   pss_nil)
  (@pss_cons _ _ _ _ _ (ps_for PassesOwn.never rfl (pi_enum rfl T.Zp (pa_cons (pv 1) pa_nil)) (pg_tup rfl (pgs_cons (pg_name (i:=3) sc.nd rfl (Or.inl rfl)) (pgs_cons (pg_name (i:=4) sc.nd rfl (Or.inl rfl)) pgs_nil)))
   (@pss_cons _ _ _ _ _ (ps_if (pt_not (pt_val (pe_methS Z1f T.Z8 hr (passS pass0) (pv 0) (pa_cons (pv 4) pa_nil))))
    (@pss_one _ _ _ ps_never)
    pss_nil)
   (@pss_one _ _ _ (ps_if (pt_cmpR op_gt (pe_methS Z4 T.Z8 hr (passS pass0) (pv 0) (pa_cons (pv 4) pa_nil)) (pv 2) (nomark _))
    (@pss_one _ _ _ ps_never)
    pss_nil))))
  (@pss_one _ _ _ (@ps_ret _ _ _ _ pe_bl))))),?_⟩
 walk_at "st"
 have line:=line_val
 walk_at "go"
 rw [List.length_map,if_neg (by omega)]
 walk_at "go"
 refine ⟨⟨_,hS⟩,?_⟩
 rename_i rest hrest
 refine forE_by (xs:=ys.map V.str) (fun i σ H'=>∃v3 v4,σ=[some (V.ref p),some (V.ref a),some (V.int pl),v3,v4]∧Same H H') ⟨none,none,rfl,Same.refl _⟩ (fun i σ H' _ ⟨v3,v4,_,sm⟩=>sm.seq hS) ?_ ?_
 · rintro i x σ H' t hx ⟨v3,v4,rfl,sm⟩ ht
   rw [List.getElem?_map]at hx
   cases hy:ys[i]? with
   | none=>rw [hy]at hx;cases hx
   | some y=>
    rw [hy]at hx
    cases hx
    have hyin:=hin y (List.mem_of_getElem? hy)
    walk_at "go"
    refine ⟨_,SqT.of upd_same,rfl,_,_,rfl,_,_,rfl,rfl,?_⟩
    have sm2:=sm.trans (Same.new (o:= .tup [.int i,.str y]) ht)
    generalize upd H' t (.tup [.int i,.str y])=H2 at sm2 ⊢
    have hs2:=StockAt.same sm2 hs
    obtain ⟨dx,d,kvs,g1,g2,_⟩:=StockAt.has hs2
    walk_at "go"
    refine ⟨dx,flds d,g1,by rfl,ts,hs2,?_⟩
    rw [if_neg (fun h=>h hyin)]
    walk_at "go"
    refine ⟨dx,flds d,g1,by rfl,ts,hs2,nd,hyin,?_⟩
    rw [if_neg (by have:=hw y (List.mem_of_getElem? hy);omega)]
    exact sm2
 · rintro σ H' ⟨v3,v4,rfl,sm⟩
   walk_at "go"
   exact q _ sm
theorem Z37{f:Addr}{fd:FuncData}(F:Fun K "__init__" "Shelf.__init__" Z0y f fd)(T:Txt K mg Z1 Z2 Z3 Z0)(Zb:Def P w K mg base CX0 3 "check_places" ["places"] (sp32_check)):FnOk P w K mg base CX0 4 f fd ["self","stock","places"] (sp_sinit Z2):=by
 have sc:FnScope ["self","stock","places"] ["self","stock","places"] (defScope Z0y):=by walk_at "sc"
 refine F.ok sc (fun vs H Q E h=>?_) (fun cdv A outer s H vs Q E hr h=>?_)
 · obtain ⟨_,_,_,_,rfl,_⟩:=h;rfl
 obtain ⟨s,dx,p,n,rfl,hs,h1,h2,q⟩:=h
 refine ⟨_,(@pss_cons _ _ _ _ _ (ps_expr (pe_callD Zb hr rfl pass0 (pa_cons (pv 2) pa_nil)))
  (@pss_cons _ _ _ _ _ (ps_fld (pv 0) (pv 1) rfl)
  (@pss_cons _ _ _ _ _ (ps_fld (pv 0) (pv 2) rfl)
  (@pss_one _ _ _ (ps_fld (pv 0) pe_dnewK rfl))))),?_⟩
 walk_at "st"
 walk_at "go"
 refine ⟨Z2,dx,[],hs,T.Z7,T.Zl,by decide,?_⟩
 walk_at "go"
 refine ⟨Z2,dx,_,upd_same,T.Z7,T.Zn,by simp [putF],?_⟩
 walk_at "go"
 intro d hd
 have nd:d≠s:=fun e=>by rw [e,upd_same]at hd;cases hd
 have hd0:H d=none:=by rw [upd_ne nd]at hd;exact hd
 refine ⟨Z2,dx,_,by rw [upd_ne nd.symm,upd_same],T.Z7,T.Z9,by have:=length_putF "places" (V.int n) (putF "stock" (V.ref p) []);have:=length_putF "stock" (V.ref p) [];simp at *;omega,?_⟩
 refine q _ d (fun b o e nb=>?_) hd0 ⟨⟨dx,upd_same⟩,by rw [upd_ne nd,upd_same];rfl,List.nodup_nil⟩
 rw [upd_ne nb,upd_ne (ne_of_none e hd0),upd_ne nb]
 exact e
theorem Z2x{f:Addr}{fd:FuncData}(F:Fun K "lying" "Shelf.lying" Z0j f fd)(T:Txt K mg Z1 Z2 Z3 Z0):FnOk P w K mg base CX0 1 f fd ["self"] (sp_lying Z2):=by
 have sc:FnScope ["self"] ["self"] (defScope Z0j):=by walk_at "sc"
 refine F.ok sc (fun vs H Q E h=>?_) (fun cdv A outer s H vs Q E hr h=>?_)
 · obtain ⟨_,_,_,_,_,rfl,_⟩:=h;rfl
 obtain ⟨s,p,d,n,ls,rfl,hs,q⟩:=h
 refine ⟨_,(@pss_one _ _ _ (@ps_ret _ _ _ _ (pe_callTy (call_listD rfl) rfl T.Z03 (by first | rfl | decide+kernel) (pa_cons (pe_fld (pv 0) rfl) pa_nil)))),?_⟩
 walk_at "st"
 obtain ⟨⟨dx,ho⟩,hd,_⟩:=hs
 walk_at "go"
 refine ⟨Z2,dx,_,ho,T.Z7,T.Z9,_,sfl_rooms,?_⟩
 walk_at "go"
 refine ⟨_,hd,fun l hl=>?_⟩
 rw [lyK_names]
 exact q l hl
theorem Z2y{f:Addr}{fd:FuncData}(F:Fun K "holds" "Shelf.holds" Z0k f fd)(T:Txt K mg Z1 Z2 Z3 Z0):FnOk P w K mg base CX0 1 f fd ["self","name"] (sp_holds Z2):=by
 have sc:FnScope ["self","name"] ["self","name"] (defScope Z0k):=by walk_at "sc"
 refine F.ok sc (fun vs H Q E h=>?_) (fun cdv A outer s H vs Q E hr h=>?_)
 · obtain ⟨_,_,_,_,_,_,rfl,_⟩:=h;rfl
 obtain ⟨s,p,d,n,ls,z,rfl,hs,q⟩:=h
 refine ⟨_,(@pss_one _ _ _ (@ps_ret _ _ _ _ (pe_cmp (pc_din (hu_of hr) (pv 1) (pe_fld (pv 0) rfl))))),?_⟩
 walk_at "st"
 obtain ⟨⟨dx,ho⟩,hd,_⟩:=hs
 walk_at "go"
 refine ⟨Z2,dx,_,ho,T.Z7,T.Z9,_,sfl_rooms,d,rfl,_,DGet.k (k:=Sum.inr z) hd,?_⟩
 rw [lyK_mem]
 exact q
theorem Z24{f:Addr}{fd:FuncData}(F:Fun K "room_left" "Shelf.room_left" Z02 f fd)(T:Txt K mg Z1 Z2 Z3 Z0):FnOk P w K mg base CX0 1 f fd ["self"] (sp_left Z2):=by
 have sc:FnScope ["self"] ["self"] (defScope Z02):=by walk_at "sc"
 refine F.ok sc (fun vs H Q E h=>?_) (fun cdv A outer s H vs Q E hr h=>?_)
 · obtain ⟨_,_,_,_,_,rfl,_⟩:=h;rfl
 obtain ⟨s,p,d,n,ls,rfl,hs,q⟩:=h
 refine ⟨_,(@pss_one _ _ _ (@ps_ret _ _ _ _ (pe_op op_sub (pe_fld (pv 0) rfl) (pe_callB (call_sumV rfl) rfl T.Z17 (by first | rfl | decide+kernel) (pa_cons (pe_bm0 PySem.F.plainAttrs_dict PySem.F.slot_dict_values PySem.F.type_dict_values mt_values (pe_fld (pv 0) rfl)) pa_nil))))),?_⟩
 walk_at "st"
 obtain ⟨⟨dx,ho⟩,hd,_⟩:=hs
 walk_at "go"
 refine ⟨Z2,dx,_,ho,T.Z7,T.Zn,_,sfl_places,Z2,dx,_,ho,T.Z7,T.Z9,_,sfl_rooms,?_⟩
 refine ⟨.inr (.inr (.inl ⟨rfl,.inl ⟨_,hd⟩⟩)),d,rfl,_,hd,fun v hv=>⟨d,upd_same,_,(Same.new hv) _ _ hd,_,lyK_vals,n,rfl,q _ (Same.new hv)⟩⟩
theorem Z3g{f:Addr}{fd:FuncData}(F:Fun K "put" "Shelf.put" Z1a f fd)(T:Txt K mg Z1 Z2 Z3 Z0)(Z4:DefM P w K mg base CX0 2 Z1 "room_of" ["self","name"] (sp32_room K Z1))(Zd:DefM P w K mg base CX0 1 Z2 "holds" ["self","name"] (sp_holds Z2))(Zi:DefM P w K mg base CX0 1 Z2 "room_left" ["self"] (sp_left Z2)):FnOk P w K mg base CX0 4 f fd ["self","name"] (sp_putG K Z1 Z2):=by
 have sc:FnScope ["self","name","room"] ["self","name"] (defScope Z1a):=by walk_at "sc"
 refine F.ok sc (fun vs H Q E h=>?_) (fun cdv A outer s H vs Q E hr h=>?_)
 · obtain ⟨_,_,_,_,_,_,_,_,rfl,_⟩:=h;rfl
 obtain ⟨s,p,d,n,ls,ts,z,r,rfl,hs,hx,nd,hl,hz,hr',hin,hle,q⟩:=h
 refine ⟨_,(@pss_cons _ _ _ _ _ (ps_set (i:=2) sc.nd rfl (Or.inl rfl) (pe_methS Z4 T.Z8 hr (passS pass0) (pe_fld (pv 0) rfl) (pa_cons (pv 1) pa_nil)))
  (@pss_cons _ _ _ _ _ (ps_if (pt_val (pe_methS Zd T.Z7 hr (passS pass0) (pv 0) (pa_cons (pv 1) pa_nil)))
   (@pss_one _ _ _ ps_never)
   pss_nil)
  (@pss_cons _ _ _ _ _ (ps_if (pt_cmpR op_gt (pv 2) (pe_methS0 Zi T.Z7 hr (passS pass0) (pv 0)) (nomark _))
   (@pss_one _ _ _ ps_never)
   pss_nil)
  (@pss_one _ _ _ (ps_dput (hu_of hr) (pe_fld (pv 0) rfl) (pv 1) (pv 2) rfl))))),?_⟩
 walk_at "st"
 have line:=line_val
 have hsA:=hs
 obtain ⟨⟨dx,ho⟩,hd,hnd⟩:=hs
 obtain ⟨dy,e,kvs,h1,h2,h3,h4,h5⟩:=StockAt.has hx.at
 walk_at "go"
 refine ⟨Z2,dx,_,ho,T.Z7,T.Zl,_,sfl_stock,?_⟩
 walk_at "go"
 refine ⟨dy,flds e,h1,by rfl,ts,hx.at,nd,hz,?_⟩
 rw [rm_of nd hz hr']
 walk_at "go"
 refine ⟨dx,_,ho,by rfl,?_⟩
 walk_at "go"
 refine ⟨_,_,_,_,hsA,?_⟩
 rw [if_neg (by simpa using hin)]
 walk_at "go"
 refine ⟨dx,_,ho,by rfl,_,_,_,_,hsA,fun H1 sm1=>?_⟩
 rw [if_neg (by omega)]
 walk_at "go"
 refine ⟨Z2,dx,_,sm1 _ _ ho,T.Z7,T.Z9,_,sfl_rooms,?_⟩
 have hll:(lyK ls).length < sizeLine:=by unfold lyK;rw [List.length_map];omega
 refine ⟨d,rfl,_,DPut.k (k:=Sum.inr z) (sm1 _ _ hd) hll,?_⟩
 refine q _ (fun b o e n=>?_) (hsA.put sm1 hin)
 rw [upd_ne n];exact sm1 _ _ e
theorem Z38{f:Addr}{fd:FuncData}(F:Fun K "cast" "Shelf.cast" Z0z f fd)(T:Txt K mg Z1 Z2 Z3 Z0)(Zd:DefM P w K mg base CX0 1 Z2 "holds" ["self","name"] (sp_holds Z2)):FnOk P w K mg base CX0 2 f fd ["self","name"] (sp_castG Z2):=by
 have sc:FnScope ["self","name"] ["self","name"] (defScope Z0z):=by walk_at "sc"
 refine F.ok sc (fun vs H Q E h=>?_) (fun cdv A outer s H vs Q E hr h=>?_)
 · obtain ⟨_,_,_,_,_,_,rfl,_⟩:=h;rfl
 obtain ⟨s,p,d,n,ls,z,rfl,hs,hin,q⟩:=h
 refine ⟨_,(@pss_cons _ _ _ _ _ (ps_if (pt_not (pt_val (pe_methS Zd T.Z7 hr (passS pass0) (pv 0) (pa_cons (pv 1) pa_nil))))
  (@pss_one _ _ _ ps_never)
  pss_nil)
  (@pss_one _ _ _ (ps_expr (pe_dpop1 (pe_fld (pv 0) rfl) (pv 1) ⟨rfl,rfl,rfl,rfl⟩)))),?_⟩
 walk_at "st"
 have line:=line_val
 have hsA:=hs
 obtain ⟨⟨dx,ho⟩,hd,hnd⟩:=hs
 walk_at "go"
 refine ⟨dx,_,ho,by rfl,_,_,_,_,hsA,?_⟩
 rw [if_neg (fun h=>h hin)]
 walk_at "go"
 have hv:=lyK_mem (ls:=ls) (z:=z)
 rw [decide_eq_true hin]at hv
 obtain ⟨v,hv⟩:=Option.isSome_iff_exists.mp hv
 refine ⟨Z2,dx,_,ho,T.Z7,T.Z9,_,sfl_rooms,d,rfl,.inl ⟨_,.inl hd⟩,_,hd,Sum.inr z,rfl,v,hv,?_⟩
 exact q _ (fun b o e n=>by rw [upd_ne n];exact e) hsA.cast
theorem Z2i{f:Addr}{fd:FuncData}(F:Fun K "cost_of" "Stock.cost_of" Z09 f fd)(T:Txt K mg Z1 Z2 Z3 Z0)(Zj:DefM P w K mg base CX0 1 Z1 "thing_of" ["self","name"] (sp32_thing K Z1)):FnOk P w K mg base CX0 2 f fd ["self","name"] (sp41_cost K Z1):=by
 have sc:FnScope ["self","name"] ["self","name"] (defScope Z09):=by walk_at "sc"
 refine F.ok sc (fun vs H Q E h=>?_) (fun cdv A outer s H vs Q E hr h=>?_)
 · obtain ⟨_,_,_,rfl,_⟩:=h;rfl
 obtain ⟨p,ts,z,rfl,hs,nd,hz,q⟩:=h
 refine ⟨_,(@pss_one _ _ _ (@ps_ret _ _ _ _ (@pe_ix _ _ _ _ _ _ _ ix_tup (pe_methS Zj T.Z8 hr (passS pass0) (pv 0) (pa_cons (pv 1) pa_nil)) pe_int (fun _ _=>rfl)))),?_⟩
 walk_at "st"
 obtain ⟨dx,d,kvs,h1,h2,h3,h4,h5⟩:=StockAt.has hs
 walk_at "go"
 refine ⟨dx,flds d,h1,by rfl,?_⟩
 walk_at "go"
 refine ⟨ts,hs,nd,hz,fun i t ht e a ha=>?_⟩
 subst e
 refine ixT_of ha rfl ?_
 rw [cst_at nd ht]at q
 exact q
theorem Z39{f:Addr}{fd:FuncData}(F:Fun K "divisor_of" "divisor_of" Z10 f fd)(T:Txt K mg Z1 Z2 Z3 Z0):FnOk P w K mg base CX0 1 f fd ["one","other"] (sp41_div):=by
 have sc:FnScope ["one","other","greater","lesser","rest"] ["one","other"] (defScope Z10):=by walk_at "sc"
 refine F.ok sc (fun vs H Q E h=>?_) (fun cdv A outer s H vs Q E hr h=>?_)
 · obtain ⟨_,_,rfl,_⟩:=h;rfl
 obtain ⟨i,j,rfl,q⟩:=h
 refine ⟨_,(@pss_cons _ _ _ _ _ (ps_set (i:=2) sc.nd rfl (Or.inl rfl) (pe_callB call_abs rfl T.Z29 (by first | rfl | decide+kernel) (pa_cons (pv 0) pa_nil)))
  (@pss_cons _ _ _ _ _ (ps_set (i:=3) sc.nd rfl (Or.inl rfl) (pe_callB call_abs rfl T.Z29 (by first | rfl | decide+kernel) (pa_cons (pv 1) pa_nil)))
  (@pss_cons _ _ _ _ _ (ps_while PassesOwn.never (pt_cmpR op_ne (pv 3) pe_int (nomark _))
   (@pss_cons _ _ _ _ _ (ps_set (i:=4) sc.nd rfl (Or.inl rfl) (pe_op op_mod (pv 2) (pv 3)))
   (@pss_cons _ _ _ _ _ (ps_set (i:=2) sc.nd rfl (Or.inl rfl) (pv 3))
   (@pss_one _ _ _ (ps_set (i:=3) sc.nd rfl (Or.inl rfl) (pv 4))))))
  (@pss_one _ _ _ (@ps_ret _ _ _ _ (pv 2)))))),?_⟩
 walk_at "st"
 walk_at "go"
 refine while_d (m0:=(if j < 0 then -j else j).toNat) (fun m σ H'=>∃(x y:Int) (r:Option V),σ=[some (V.int i),some (V.int j),some (V.int x),some (V.int y),r]∧H'=H∧0≤x∧0≤y∧m=y.toNat∧Int.gcd x y=Int.gcd i j) ⟨_,_,_,rfl,rfl,by split <;> omega,by split <;> omega,rfl,gcd_abs i j⟩ ?_
 rintro m σ H' ⟨x,y,r,rfl,rfl,hx,hy,rfl,hg⟩
 walk_at "go"
 split
 · rename_i hy0
   refine ⟨fun σ' H''=>∃m',m' < y.toNat∧∃(x y:Int) (r:Option V),σ'=[some (V.int i),some (V.int j),some (V.int x),some (V.int y),r]∧H''=H'∧0≤x∧0≤y∧m'=y.toNat∧Int.gcd x y=Int.gcd i j,fun _ _ h=>h,?_⟩
   have hp:0 < y:=by omega
   walk_at "go"
   have h1:=Int.emod_nonneg x (show y≠0 by omega)
   have h2:=Int.emod_lt_of_pos x hp
   exact ⟨(x % y).toNat,by omega,by omega,h1,rfl,gcd_step hx hp hg⟩
 · rename_i hy0
   have hy0:y=0:=by omega
   subst hy0
   walk_at "go"
   have hh:=gcd_zero_right' hx
   rw [hg]at hh
   rw [← hh];exact q
theorem Z3p{f:Addr}{fd:FuncData}(F:Fun K "ratio_of" "ratio_of" Z1n f fd)(T:Txt K mg Z1 Z2 Z3 Z0)(Zs:Def P w K mg base CX0 1 "divisor_of" ["one","other"] (sp41_div)):FnOk P w K mg base CX0 2 f fd ["top","bottom"] (sp57_ratio):=by
 have sc:FnScope ["top","bottom","divisor"] ["top","bottom"] (defScope Z1n):=by walk_at "sc"
 refine F.ok sc (fun vs H Q E h=>?_) (fun cdv A outer s H vs Q E hr h=>?_)
 · obtain ⟨_,_,rfl,_⟩:=h;rfl
 obtain ⟨i,j,rfl,hj,hb,q⟩:=h
 refine ⟨_,(@pss_cons _ _ _ _ _ (ps_if (pt_cmpR op_eq (pv 1) pe_int (nomark _))
  (@pss_one _ _ _ ps_never)
  pss_nil)
  (@pss_cons _ _ _ _ _ (ps_set (i:=2) sc.nd rfl (Or.inl rfl) (pe_callD Zs hr rfl pass0 (pa_cons (pv 0) (pa_cons (pv 1) pa_nil))))
  (@pss_cons _ _ _ _ _ (ps_if (pt_cmpR op_lt (pv 1) pe_int (nomark _))
   (@pss_one _ _ _ (ps_set (i:=2) sc.nd rfl (Or.inl rfl) (pe_op op_sub pe_int (pv 2))))
   pss_nil)
  (@pss_one _ _ _ (@ps_ret _ _ _ _ (pe_tup (pa_cons (pe_op op_fdivH (pv 0) (pv 2)) (pa_cons (pe_op op_fdivH (pv 1) (pv 2)) pa_nil)))))))),?_⟩
 walk_at "st"
 have line:=line_val
 have hg:0 < Int.gcd i j:=Nat.pos_of_ne_zero fun z=>by have:=(Int.gcd_eq_zero_iff.mp z).2;omega
 have hgb:Int.gcd i j≤j.natAbs:=Nat.le_of_dvd (by omega) (Nat.gcd_dvd_right _ _)
 walk_at "go"
 rw [if_neg (by omega)]
 walk_at "go"
 rw [if_neg (by omega)]
 rename_i rest hrest
 subst hrest
 walk_at "go"
 exact fun p hp=>q p hp
theorem Z3a{f:Addr}{fd:FuncData}(F:Fun K "plus_ratio" "plus_ratio" Z11 f fd)(T:Txt K mg Z1 Z2 Z3 Z0)(Ze:Def P w K mg base CX0 2 "ratio_of" ["top","bottom"] (sp57_ratio)):FnOk P w K mg base CX0 3 f fd ["one","other"] (sp57_plus):=by
 have sc:FnScope ["one","other"] ["one","other"] (defScope Z11):=by walk_at "sc"
 refine F.ok sc (fun vs H Q E h=>?_) (fun cdv A outer s H vs Q E hr h=>?_)
 · obtain ⟨_,_,_,_,_,rfl,_⟩:=h;rfl
 obtain ⟨a,b,U,x,y,rfl,ha,hb,hU,hU2,⟨hx,hy⟩,q⟩:=h
 refine ⟨_,(@pss_one _ _ _ (@ps_ret _ _ _ _ (pe_callD Ze hr rfl pass0 (pa_cons (pe_op op_add (pe_op op_mulH (@pe_ix _ _ _ _ _ _ _ ix_tup (pv 0) pe_int (fun _ _=>rfl)) (@pe_ix _ _ _ _ _ _ _ ix_tup (pv 1) pe_int (fun _ _=>rfl))) (pe_op op_mulH (@pe_ix _ _ _ _ _ _ _ ix_tup (pv 1) pe_int (fun _ _=>rfl)) (@pe_ix _ _ _ _ _ _ _ ix_tup (pv 0) pe_int (fun _ _=>rfl)))) (pa_cons (pe_op op_mulH (@pe_ix _ _ _ _ _ _ _ ix_tup (pv 0) pe_int (fun _ _=>rfl)) (@pe_ix _ _ _ _ _ _ _ ix_tup (pv 1) pe_int (fun _ _=>rfl))) pa_nil))))),?_⟩
 walk_at "st"
 have line:=line_val
 obtain ⟨a1,a2,a3,a4,a5⟩:=rt_all (v:=x) hU
 obtain ⟨b1,b2,b3,b4,b5⟩:=rt_all (v:=y) hU
 have B:(10:Nat) ^ 240 < 10 ^ 1000:=by decide+kernel
 have B2:(10:Nat) ^ 180 < 10 ^ 1000:=by decide+kernel
 have hUn:U.natAbs≤10 ^ 180:=by omega
 have c1:(rt U x).1.natAbs < 10 ^ 1000:=Nat.lt_of_le_of_lt (Nat.le_trans a4 hx) B
 have c2:(rt U x).2.natAbs < 10 ^ 1000:=Nat.lt_of_le_of_lt (Nat.le_trans a5 hUn) B2
 have d1:(rt U y).1.natAbs < 10 ^ 1000:=Nat.lt_of_le_of_lt (Nat.le_trans b4 hy) B
 have d2:(rt U y).2.natAbs < 10 ^ 1000:=Nat.lt_of_le_of_lt (Nat.le_trans b5 hUn) B2
 unfold RtA at ha hb
 clear B B2
 walk_at "go"
 have hbd:(rt U x).2 * (rt U y).2 < 10 ^ 1000:=by
  have h1:(rt U x).2≤10 ^ 180:=by omega
  have h2:(rt U y).2≤10 ^ 180:=by omega
  calc (rt U x).2 * (rt U y).2≤10 ^ 180 * 10 ^ 180:=Int.mul_le_mul h1 h2 (by omega) (by decide+kernel)
   _ < 10 ^ 1000:=by decide+kernel
 refine ixT_of (SqT.of ha) (v:=V.int (rt U x).1) rfl (ixT_of (SqT.of hb) (v:=V.int (rt U y).2) rfl ⟨_,rfl,_,rfl,⟨c1,d2⟩,ixT_of (SqT.of hb) (v:=V.int (rt U y).1) rfl (ixT_of (SqT.of ha) (v:=V.int (rt U x).2) rfl ⟨_,rfl,_,rfl,⟨d1,c2⟩,ixT_of (SqT.of ha) (v:=V.int (rt U x).2) rfl (ixT_of (SqT.of hb) (v:=V.int (rt U y).2) rfl ⟨_,rfl,_,rfl,⟨c2,d2⟩,Int.mul_pos a2 b2,hbd,?_⟩)⟩)⟩)
 rw [rt_plus hU]
 exact q
theorem Z2z{f:Addr}{fd:FuncData}(F:Fun K "minus_ratio" "minus_ratio" Z0l f fd)(T:Txt K mg Z1 Z2 Z3 Z0)(Ze:Def P w K mg base CX0 2 "ratio_of" ["top","bottom"] (sp57_ratio)):FnOk P w K mg base CX0 3 f fd ["one","other"] (sp57_minus):=by
 have sc:FnScope ["one","other"] ["one","other"] (defScope Z0l):=by walk_at "sc"
 refine F.ok sc (fun vs H Q E h=>?_) (fun cdv A outer s H vs Q E hr h=>?_)
 · obtain ⟨_,_,_,_,_,rfl,_⟩:=h;rfl
 obtain ⟨a,b,U,x,y,rfl,ha,hb,hU,hU2,⟨hx,hy⟩,q⟩:=h
 refine ⟨_,(@pss_one _ _ _ (@ps_ret _ _ _ _ (pe_callD Ze hr rfl pass0 (pa_cons (pe_op op_sub (pe_op op_mulH (@pe_ix _ _ _ _ _ _ _ ix_tup (pv 0) pe_int (fun _ _=>rfl)) (@pe_ix _ _ _ _ _ _ _ ix_tup (pv 1) pe_int (fun _ _=>rfl))) (pe_op op_mulH (@pe_ix _ _ _ _ _ _ _ ix_tup (pv 1) pe_int (fun _ _=>rfl)) (@pe_ix _ _ _ _ _ _ _ ix_tup (pv 0) pe_int (fun _ _=>rfl)))) (pa_cons (pe_op op_mulH (@pe_ix _ _ _ _ _ _ _ ix_tup (pv 0) pe_int (fun _ _=>rfl)) (@pe_ix _ _ _ _ _ _ _ ix_tup (pv 1) pe_int (fun _ _=>rfl))) pa_nil))))),?_⟩
 walk_at "st"
 have line:=line_val
 obtain ⟨a1,a2,a3,a4,a5⟩:=rt_all (v:=x) hU
 obtain ⟨b1,b2,b3,b4,b5⟩:=rt_all (v:=y) hU
 have B:(10:Nat) ^ 240 < 10 ^ 1000:=by decide+kernel
 have B2:(10:Nat) ^ 180 < 10 ^ 1000:=by decide+kernel
 have hUn:U.natAbs≤10 ^ 180:=by omega
 have c1:(rt U x).1.natAbs < 10 ^ 1000:=Nat.lt_of_le_of_lt (Nat.le_trans a4 hx) B
 have c2:(rt U x).2.natAbs < 10 ^ 1000:=Nat.lt_of_le_of_lt (Nat.le_trans a5 hUn) B2
 have d1:(rt U y).1.natAbs < 10 ^ 1000:=Nat.lt_of_le_of_lt (Nat.le_trans b4 hy) B
 have d2:(rt U y).2.natAbs < 10 ^ 1000:=Nat.lt_of_le_of_lt (Nat.le_trans b5 hUn) B2
 unfold RtA at ha hb
 clear B B2
 walk_at "go"
 have hbd:(rt U x).2 * (rt U y).2 < 10 ^ 1000:=by
  have h1:(rt U x).2≤10 ^ 180:=by omega
  have h2:(rt U y).2≤10 ^ 180:=by omega
  calc (rt U x).2 * (rt U y).2≤10 ^ 180 * 10 ^ 180:=Int.mul_le_mul h1 h2 (by omega) (by decide+kernel)
   _ < 10 ^ 1000:=by decide+kernel
 refine ixT_of (SqT.of ha) (v:=V.int (rt U x).1) rfl (ixT_of (SqT.of hb) (v:=V.int (rt U y).2) rfl ⟨_,rfl,_,rfl,⟨c1,d2⟩,ixT_of (SqT.of hb) (v:=V.int (rt U y).1) rfl (ixT_of (SqT.of ha) (v:=V.int (rt U x).2) rfl ⟨_,rfl,_,rfl,⟨d1,c2⟩,ixT_of (SqT.of ha) (v:=V.int (rt U x).2) rfl (ixT_of (SqT.of hb) (v:=V.int (rt U y).2) rfl ⟨_,rfl,_,rfl,⟨c2,d2⟩,Int.mul_pos a2 b2,hbd,?_⟩)⟩)⟩)
 rw [rt_minus hU]
 exact q
theorem Z30{f:Addr}{fd:FuncData}(F:Fun K "under_ratio" "under_ratio" Z0m f fd)(T:Txt K mg Z1 Z2 Z3 Z0):FnOk P w K mg base CX0 3 f fd ["one","other"] (sp57_under):=by
 have sc:FnScope ["one","other"] ["one","other"] (defScope Z0m):=by walk_at "sc"
 refine F.ok sc (fun vs H Q E h=>?_) (fun cdv A outer s H vs Q E hr h=>?_)
 · obtain ⟨_,_,_,_,_,rfl,_⟩:=h;rfl
 obtain ⟨a,b,U,x,y,rfl,ha,hb,hU,hU2,⟨hx,hy⟩,q⟩:=h
 refine ⟨_,(@pss_one _ _ _ (@ps_ret _ _ _ _ (pe_cmpR op_lt (pe_op op_mulH (@pe_ix _ _ _ _ _ _ _ ix_tup (pv 0) pe_int (fun _ _=>rfl)) (@pe_ix _ _ _ _ _ _ _ ix_tup (pv 1) pe_int (fun _ _=>rfl))) (pe_op op_mulH (@pe_ix _ _ _ _ _ _ _ ix_tup (pv 1) pe_int (fun _ _=>rfl)) (@pe_ix _ _ _ _ _ _ _ ix_tup (pv 0) pe_int (fun _ _=>rfl))) (nomark _)))),?_⟩
 walk_at "st"
 have line:=line_val
 obtain ⟨a1,a2,a3,a4,a5⟩:=rt_all (v:=x) hU
 obtain ⟨b1,b2,b3,b4,b5⟩:=rt_all (v:=y) hU
 have B:(10:Nat) ^ 240 < 10 ^ 1000:=by decide+kernel
 have B2:(10:Nat) ^ 180 < 10 ^ 1000:=by decide+kernel
 have hUn:U.natAbs≤10 ^ 180:=by omega
 have c1:(rt U x).1.natAbs < 10 ^ 1000:=Nat.lt_of_le_of_lt (Nat.le_trans a4 hx) B
 have c2:(rt U x).2.natAbs < 10 ^ 1000:=Nat.lt_of_le_of_lt (Nat.le_trans a5 hUn) B2
 have d1:(rt U y).1.natAbs < 10 ^ 1000:=Nat.lt_of_le_of_lt (Nat.le_trans b4 hy) B
 have d2:(rt U y).2.natAbs < 10 ^ 1000:=Nat.lt_of_le_of_lt (Nat.le_trans b5 hUn) B2
 unfold RtA at ha hb
 clear B B2
 walk_at "go"
 refine ixT_of (SqT.of ha) (v:=V.int (rt U x).1) rfl (ixT_of (SqT.of hb) (v:=V.int (rt U y).2) rfl ⟨_,rfl,_,rfl,⟨c1,d2⟩,ixT_of (SqT.of hb) (v:=V.int (rt U y).1) rfl (ixT_of (SqT.of ha) (v:=V.int (rt U x).2) rfl ⟨_,rfl,_,rfl,⟨d1,c2⟩,?_⟩)⟩)
 rw [show decide ((rt U x).1 * (rt U y).2 < (rt U y).1 * (rt U x).2)=decide (x < y) by rw [decide_eq_decide];exact rt_under hU]
 exact q
theorem Z3h{f:Addr}{fd:FuncData}(F:Fun K "__init__" "Rule.__init__" Zx f fd)(T:Txt K mg Z1 Z2 Z3 Z0)(Zb:Def P w K mg base CX0 3 "check_places" ["places"] (sp32_check)):FnOk P w K mg base CX0 4 f fd ["self","stock","places"] (sp57_rinit K Z0):=by
 have sc:FnScope ["self","stock","places"] ["self","stock","places"] (defScope Zx):=by walk_at "sc"
 refine F.ok sc (fun vs H Q E h=>?_) (fun cdv A outer s H vs Q E hr h=>?_)
 · obtain ⟨_,_,_,_,rfl,_⟩:=h;rfl
 obtain ⟨q',dx,p,n,rfl,hq,h1,h2,q⟩:=h
 refine ⟨_,(@pss_cons _ _ _ _ _ (ps_expr (pe_callD Zb hr rfl pass0 (pa_cons (pv 2) pa_nil)))
  (@pss_cons _ _ _ _ _ (ps_fld (pv 0) (pv 1) rfl)
  (@pss_one _ _ _ (ps_fld (pv 0) (pv 2) rfl)))),?_⟩
 walk_at "st"
 walk_at "go"
 refine ⟨_,dx,[],hq,T.Z5,T.Zg,by decide,?_⟩
 walk_at "go"
 refine ⟨_,dx,_,upd_same,T.Z5,T.Zm,by simp [putF],?_⟩
 walk_at "go"
 exact q _ (fun b o e nb=>by rw [upd_ne nb];exact e) upd_same
theorem Z3i{f:Addr}{fd:FuncData}(F:Fun K "__init__" "Dues.__init__" Z1b f fd)(T:Txt K mg Z1 Z2 Z3 Z0)(Z1g:DefB P w K mg base CX0 4 "Rule" Z3 ["self","stock","places"] (sp57_rinit K Z0)):FnOk P w K mg base CX0 5 f fd ["self","stock","places"] (sp57_init Z0):=by
 have sc:FnScope ["self","stock","places"] ["self","stock","places"] (defScope Z1b):=by walk_at "sc"
 refine F.ok sc (fun vs H Q E h=>?_) (fun cdv A outer s H vs Q E hr h=>?_)
 · obtain ⟨_,_,_,_,_,rfl,_⟩:=h;rfl
 obtain ⟨q',dx,p,n,U,rfl,hq,h1,h2,hU,q⟩:=h
 refine ⟨_,(@pss_cons _ _ _ _ _ (ps_expr (pe_initC Z1g hr (passS pass0) (pe_glob (v:= .ref Z3) rfl T.Z47 rfl) (pa_cons (pv 0) (pa_cons (pv 1) (pa_cons (pv 2) pa_nil)))))
  (@pss_cons _ _ _ _ _ (ps_fld (pv 0) (pe_tup (pa_cons pe_int (pa_cons pe_int pa_nil))) rfl)
  (@pss_cons _ _ _ _ _ (ps_fld (pv 0) pe_dnewK rfl)
  (@pss_one _ _ _ (ps_fld (pv 0) (@pe_lst _ _ _ _ pa_nil) rfl))))),?_⟩
 walk_at "st"
 have line:=line_val
 walk_at "go"
 refine ⟨dx,hq,h1,h2,fun H1 sb1 hq1=>?_⟩
 rename_i rest hrest
 subst hrest
 walk_at "go"
 intro rp hrp
 have n1:q'≠rp:=ne_of_none hq1 hrp
 refine ⟨Z0,dx,_,by rw [upd_ne n1];exact hq1,T.Z5,T.Zf,by show 2 < 1000;decide,?_⟩
 have hq2:upd (upd H1 rp (.tup [V.int 0,V.int 1])) q' (.ins Z0 dx (putF (Str.ofString "reached") (V.ref rp) [(Str.ofString "stock",V.ref p),(Str.ofString "places",V.int n)])) q'=some (.ins Z0 dx [(Str.ofString "stock",V.ref p),(Str.ofString "places",V.int n),(Str.ofString "reached",V.ref rp)]):=upd_same
 have hrp2:upd (upd H1 rp (.tup [V.int 0,V.int 1])) q' (.ins Z0 dx (putF (Str.ofString "reached") (V.ref rp) [(Str.ofString "stock",V.ref p),(Str.ofString "places",V.int n)])) rp=some (.tup [V.int 0,V.int 1]):=by rw [upd_ne n1.symm,upd_same]
 have sb2:SameBut q' H (upd (upd H1 rp (.tup [V.int 0,V.int 1])) q' (.ins Z0 dx (putF (Str.ofString "reached") (V.ref rp) [(Str.ofString "stock",V.ref p),(Str.ofString "places",V.int n)]))):=fun b o e nb=>by
  have e1:=sb1 _ _ e nb
  rw [upd_ne nb,upd_ne (ne_of_none e1 hrp)];exact e1
 generalize upd (upd H1 rp (.tup [V.int 0,V.int 1])) q' (.ins Z0 dx (putF (Str.ofString "reached") (V.ref rp) [(Str.ofString "stock",V.ref p),(Str.ofString "places",V.int n)]))=H2 at hq2 hrp2 sb2 ⊢
 clear sb1 hq1 hrp
 rename_i rest hrest
 subst hrest
 walk_at "go"
 intro dd hdd
 have n2:q'≠dd:=ne_of_none hq2 hdd
 have n3:rp≠dd:=ne_of_none hrp2 hdd
 refine ⟨Z0,dx,_,by rw [upd_ne n2];exact hq2,T.Z5,T.Za,by show 3 < 1000;decide,?_⟩
 have hq3:upd (upd H2 dd (.dK [])) q' (.ins Z0 dx (putF (Str.ofString "dues") (V.ref dd) [(Str.ofString "stock",V.ref p),(Str.ofString "places",V.int n),(Str.ofString "reached",V.ref rp)])) q'=some (.ins Z0 dx [(Str.ofString "stock",V.ref p),(Str.ofString "places",V.int n),(Str.ofString "reached",V.ref rp),(Str.ofString "dues",V.ref dd)]):=upd_same
 have hrp3:upd (upd H2 dd (.dK [])) q' (.ins Z0 dx (putF (Str.ofString "dues") (V.ref dd) [(Str.ofString "stock",V.ref p),(Str.ofString "places",V.int n),(Str.ofString "reached",V.ref rp)])) rp=some (.tup [V.int 0,V.int 1]):=by rw [upd_ne n1.symm,upd_ne n3];exact hrp2
 have hdd3:upd (upd H2 dd (.dK [])) q' (.ins Z0 dx (putF (Str.ofString "dues") (V.ref dd) [(Str.ofString "stock",V.ref p),(Str.ofString "places",V.int n),(Str.ofString "reached",V.ref rp)])) dd=some (.dK []):=by rw [upd_ne n2.symm,upd_same]
 have sb3:SameBut q' H (upd (upd H2 dd (.dK [])) q' (.ins Z0 dx (putF (Str.ofString "dues") (V.ref dd) [(Str.ofString "stock",V.ref p),(Str.ofString "places",V.int n),(Str.ofString "reached",V.ref rp)]))):=fun b o e nb=>by
  have e1:=sb2 _ _ e nb
  rw [upd_ne nb,upd_ne (ne_of_none e1 hdd)];exact e1
 have hdd0:H dd=none:=by
  cases k:H dd with
  | none=>rfl
  | some o=>rw [sb2 _ _ k n2.symm]at hdd;cases hdd
 generalize upd (upd H2 dd (.dK [])) q' (.ins Z0 dx (putF (Str.ofString "dues") (V.ref dd) [(Str.ofString "stock",V.ref p),(Str.ofString "places",V.int n),(Str.ofString "reached",V.ref rp)]))=H3 at hq3 hrp3 hdd3 sb3 ⊢
 clear sb2 hq2 hrp2 hdd
 rename_i rest hrest
 subst hrest
 walk_at "go"
 intro rr hrr
 have n4:q'≠rr:=ne_of_none hq3 hrr
 have hrr0:H rr=none:=by
  cases k:H rr with
  | none=>rfl
  | some o=>rw [sb3 _ _ k n4.symm]at hrr;cases hrr
 refine ⟨Z0,dx,_,by rw [upd_ne n4];exact hq3,T.Z5,T.Zh,by show 4 < 1000;decide,?_⟩
 walk_at "go"
 refine q ⟨rp,dd,rr⟩ _ (fun b o e nb=>?_) (fun b hb=>?_) ⟨⟨dx,_,upd_same,⟨by rfl,by rfl,by rfl,by rfl,by rfl,by show 5 < 500;decide,fun m hm=>?_⟩⟩,?_,⟨[],?_,rfl,fun y hy=>by cases hy⟩,⟨[],?_,rfl,fun i a v h=>by simp at h⟩,List.nodup_nil,⟨⟨by decide,by decide⟩,(fun y hy=>by cases hy),(fun v hv=>by cases hv)⟩,by decide,by decide⟩
 · have e1:=sb3 _ _ e nb
   rw [upd_ne nb,upd_ne (ne_of_none e1 hrr)];exact e1
 · simp only [List.mem_cons,List.not_mem_nil,or_false]at hb
   rcases hb with e | e <;> rw [e]
   · exact hdd0
   · exact hrr0
 · have hm':m=Str.ofString "asked"∨m=Str.ofString "owe"∨m=Str.ofString "choice"∨m=Str.ofString "gone"∨m=Str.ofString "came"∨m=Str.ofString "level"∨m=Str.ofString "due_of"∨m=Str.ofString "prices":=by simpa using hm
   rcases hm' with e | e | e | e | e | e | e | e <;> rw [e] <;> rfl
 · show _=some (HO.tup [V.int (rt U 0).1,V.int (rt U 0).2])
   rw [rt_zero hU,upd_ne n1.symm,upd_ne (ne_of_none hrp3 hrr)];exact hrp3
 · rw [upd_ne n2.symm,upd_ne (ne_of_none hdd3 hrr)];exact hdd3
 · rw [upd_ne n4.symm,upd_same];rfl
theorem Z3q{f:Addr}{fd:FuncData}(F:Fun K "owe" "Dues.owe" Z1o f fd)(T:Txt K mg Z1 Z2 Z3 Z0)(Zt:Def P w K mg base CX0 3 "plus_ratio" ["one","other"] (sp57_plus))(Ze:Def P w K mg base CX0 2 "ratio_of" ["top","bottom"] (sp57_ratio))(Zk:DefM P w K mg base CX0 2 Z1 "cost_of" ["self","name"] (sp41_cost K Z1))(Z4:DefM P w K mg base CX0 2 Z1 "room_of" ["self","name"] (sp32_room K Z1)):FnOk P w K mg base CX0 5 f fd ["self","name"] (sp57_owe K Z0 Z1):=by
 have sc:FnScope ["self","name"] ["self","name"] (defScope Z1o):=by walk_at "sc"
 refine F.ok sc (fun vs H Q E h=>?_) (fun cdv A outer s H vs Q E hr h=>?_)
 · obtain ⟨_,_,_,_,_,_,_,_,rfl,_⟩:=h;rfl
 obtain ⟨q',p,n,U,x,s,z,ts,rfl,hd,hs,nd,hz,hzk,hU,hkl,hr1,q⟩:=h
 refine ⟨_,(@pss_one _ _ _ (ps_dput (hu_of hr) (pe_fld (pv 0) rfl) (pv 1) (pe_callD Zt hr rfl pass0 (pa_cons (pe_fld (pv 0) rfl) (pa_cons (pe_callD Ze hr rfl pass0 (pa_cons (pe_methS Zk T.Z8 hr (passS pass0) (pe_fld (pv 0) rfl) (pa_cons (pv 1) pa_nil)) (pa_cons (pe_methS Z4 T.Z8 hr (passS pass0) (pe_fld (pv 0) rfl) (pa_cons (pv 1) pa_nil)) pa_nil))) pa_nil))) rfl)),?_⟩
 walk_at "st"
 have line:=line_val
 obtain ⟨dx,fs,ho,hf⟩:=hd.o
 obtain ⟨dy,e,kvs0,g1,g2,g3,g4,g5⟩:=StockAt.has hs
 obtain ⟨sh0,sh1,rm1,rm2,rm3,c1,c2⟩:=hU.sh nd hz
 obtain ⟨hr0,hr2⟩:=hd.b.1
 have hUp:=hU.p
 have hUb:=hU.b
 obtain ⟨kvs,d1,d2,d3⟩:=hd.dd
 have hkn:kvs.length≤100:=by
  have:=congrArg List.length d2
  rw [List.length_map,List.length_map]at this
  have:=hd.l.1
  omega
 walk_at "go"
 refine ⟨Z0,dx,fs,ho,T.Z5,T.Zf,_,hf.re,Z0,dx,fs,ho,T.Z5,T.Zg,_,hf.st,p,rfl,dy,flds e,g1,by rfl,p,rfl,ts,hs,nd,hz,?_⟩
 refine ⟨Z0,dx,fs,ho,T.Z5,T.Zg,_,hf.st,p,rfl,dy,flds e,g1,by rfl,p,rfl,ts,hs,nd,hz,by omega,Int.lt_of_le_of_lt rm2 (by decide+kernel),fun p1 hp1=>?_⟩
 have eS:rt (rm ts z) (cst ts z)=rt U (sh U ts z):=rt_of hUp (by omega) rm3
 rw [eS]
 have sm1:Same H (upd H p1 (.tup [V.int (rt U (sh U ts z)).1,V.int (rt U (sh U ts z)).2])):=Same.new hp1
 have h11:RtA (upd H p1 (.tup [V.int (rt U (sh U ts z)).1,V.int (rt U (sh U ts z)).2])) p1 U (sh U ts z):=upd_same
 generalize upd H p1 (.tup [V.int (rt U (sh U ts z)).1,V.int (rt U (sh U ts z)).2])=H1 at sm1 h11 ⊢
 refine ⟨x.rp,rfl,U,s.r,sm1 _ _ hd.rp,sh U ts z,h11,hUp,hUb,by omega,by omega,fun p2 hp2=>?_⟩
 have sm2:Same H1 (upd H1 p2 (.tup [V.int (rt U (s.r+sh U ts z)).1,V.int (rt U (s.r+sh U ts z)).2])):=Same.new hp2
 have h22:RtA (upd H1 p2 (.tup [V.int (rt U (s.r+sh U ts z)).1,V.int (rt U (s.r+sh U ts z)).2])) p2 U (s.r+sh U ts z):=upd_same
 generalize upd H1 p2 (.tup [V.int (rt U (s.r+sh U ts z)).1,V.int (rt U (s.r+sh U ts z)).2])=H2 at sm2 h22 ⊢
 have smA:=sm1.trans sm2
 refine ⟨Z0,dx,fs,smA _ _ ho,T.Z5,T.Za,_,hf.du,x.dd,rfl,_,DPut.k (k:=Sum.inr z) (smA _ _ d1) (by omega),?_⟩
 walk_at "go"
 exact q _ (fun b o nb e=>by rw [upd_ne (fun k=>nb (by rw [k];simp [DuM]))];exact smA _ _ e) ((hd.same smA).put (smA _ _ d1) h22 hzk ⟨by omega,by omega⟩ hkl)
theorem Z3b{f:Addr}{fd:FuncData}(F:Fun K "asked" "Dues.asked" Z12 f fd)(T:Txt K mg Z1 Z2 Z3 Z0)(Z00:DefM P w K mg base CX0 5 Z0 "owe" ["self","name"] (sp57_owe K Z0 Z1)):FnOk P w K mg base CX0 6 f fd ["self","name"] (sp57_asked K Z0 Z1):=by
 have sc:FnScope ["self","name"] ["self","name"] (defScope Z12):=by walk_at "sc"
 refine F.ok sc (fun vs H Q E h=>?_) (fun cdv A outer s H vs Q E hr h=>?_)
 · obtain ⟨_,_,_,_,_,_,_,_,rfl,_⟩:=h;rfl
 obtain ⟨q',p,n,U,x,s,z,ts,rfl,hd,hs,hst,nd,hz,hU,hrl,hr1,q⟩:=h
 refine ⟨_,(@pss_cons _ _ _ _ _ (ps_expr (pe_bm PySem.F.plainAttrs_list PySem.F.slot_list_append PySem.F.type_list_append mt_append (pe_fld (pv 0) rfl) (pa_cons (pe_tup (pa_cons pe_int (pa_cons pe_int pa_nil))) pa_nil)))
  (@pss_one _ _ _ (ps_if (pt_cmp (pc_din (hu_of hr) (pv 1) (pe_fld (pv 0) rfl)))
   (@pss_cons _ _ _ _ _ (ps_expr (pe_dpop1 (pe_fld (pv 0) rfl) (pv 1) ⟨rfl,rfl,rfl,rfl⟩))
   (@pss_one _ _ _ (ps_expr (pe_methS Z00 T.Z5 hr (passS pass0) (pv 0) (pa_cons (pv 1) pa_nil)))))
   pss_nil))),?_⟩
 walk_at "st"
 have line:=line_val
 obtain ⟨dx,fs,ho,hf⟩:=hd.o
 obtain ⟨us,r1,r2⟩:=hd.rr
 have hul:us.length < 1000:=by rw [r2.1];exact hrl
 have hUp:=hU.p
 walk_at "go"
 refine ⟨Z0,dx,fs,ho,T.Z5,T.Zh,_,hf.ri,.inl ⟨rfl,_,SqL.of r1⟩,by omega,fun p1 hp1=>?_⟩
 have sm1:Same H (upd H p1 (.tup [V.int 0,V.int 1])):=Same.new hp1
 have h11:RtA (upd H p1 (.tup [V.int 0,V.int 1])) p1 U 0:=by
  show _=some (HO.tup [V.int (rt U 0).1,V.int (rt U 0).2])
  rw [rt_zero hUp];exact upd_same
 generalize upd H p1 (.tup [V.int 0,V.int 1])=H1 at sm1 h11 ⊢
 refine ⟨x.rr,_,_,rfl,rfl,sm1 _ _ r1,by rw [List.length_map];omega,?_⟩
 rw [show us.map V.ref++[V.ref p1]=(us++[p1]).map V.ref by rw [List.map_append];rfl]
 have hd1:=(hd.same sm1).rise (us':=us++[p1]) (rs':=s.rs++[0]) ⟨by rw [List.length_append,List.length_append,r2.1];rfl,fun i a v k1 k2=>by
  by_cases hi:i < us.length
  · rw [List.getElem?_append_left hi]at k1
    rw [List.getElem?_append_left (by rw [← r2.1];exact hi)]at k2
    exact sm1 _ _ (r2.2 i a v k1 k2)
  · rw [List.getElem?_append_right (by omega)]at k1
    rw [List.getElem?_append_right (by rw [← r2.1];omega)]at k2
    have h0:i - us.length=0:=by
     have:=(List.getElem?_eq_some_iff.mp k1).1
     simp at this;omega
    rw [h0]at k1
    rw [← r2.1,h0]at k2
    cases k1
    cases k2
    exact h11⟩ (fun v hv=>by
    rcases List.mem_append.mp hv with hv | hv
    · exact hd.b.2.2 v hv
    · rw [List.mem_singleton.mp hv];exact ⟨by decide,by decide⟩) (by rw [List.length_append];simp only [List.length_cons,List.length_nil];omega)
 have kp1:Kp (DuM q' x) H (upd H1 x.rr (.lst ((us++[p1]).map V.ref))):=fun b o nb e=>by rw [upd_ne (fun k=>nb (by rw [k];simp [DuM]))];exact sm1 _ _ e
 generalize upd H1 x.rr (.lst ((us++[p1]).map V.ref))=H2 at hd1 kp1 ⊢
 obtain ⟨dx2,fs2,ho2,hf2⟩:=hd1.o
 obtain ⟨kvs,d1,d2,d3⟩:=hd1.dd
 have d2':kvs.map (·.1)=s.ks.map Sum.inr:=d2
 rename_i rest hrest
 subst hrest
 walk_at "go"
 refine ⟨Z0,dx2,fs2,ho2,T.Z5,T.Za,_,hf2.du,x.dd,rfl,_,DGet.k (k:=Sum.inr z) d1,?_⟩
 rw [keys_val d2' z]
 by_cases hzk:z∈s.ks
 · rw [if_pos (decide_eq_true hzk)]
   obtain ⟨a,k1,k2⟩:=d3 z hzk
   walk_at "go"
   refine ⟨Z0,dx2,fs2,ho2,T.Z5,T.Za,_,hf2.du,x.dd,rfl,.inl ⟨_,.inl d1⟩,_,d1,Sum.inr z,rfl,_,k1,?_⟩
   have hd2:=hd1.drop (z:=z) d1
   have kp2:Kp (DuM q' x) H (upd H2 x.dd (.dK (dropK kvs (Sum.inr z)))):=fun b o nb e=>by rw [upd_ne (fun k=>nb (by rw [k];simp [DuM]))];exact kp1 b o nb e
   generalize upd H2 x.dd (.dK (dropK kvs (Sum.inr z)))=H3 at hd2 kp2 ⊢
   obtain ⟨dx3,fs3,ho3,hf3⟩:=hd2.o
   rename_i rest hrest
   subst hrest
   walk_at "go"
   refine ⟨dx3,fs3,ho3,hf3.m _ (by simp),p,n,U,x,_,hd2,ts,hst _ kp2,nd,hz,fun h=>((List.Nodup.mem_erase_iff hd.nd).mp h).1 rfl,hU,?_,hr1,fun H4 kp hd4=>?_⟩
   · show (s.ks.erase z).length < 100
     have:=List.length_erase_of_mem hzk
     have h0:=List.length_pos_of_mem hzk
     have:=hd.l.1
     omega
   · have e:askS U ts s z=⟨s.r,s.ks.erase z++[z],N74s s.f z (s.r+sh U ts z),s.rs++[0]⟩:=if_pos hzk
     rw [e]at q
     exact q H4 (kp2.trans kp) hd4
 · rw [if_neg (by simp [hzk])]
   have e:askS U ts s z=⟨s.r,s.ks,s.f,s.rs++[0]⟩:=if_neg hzk
   rw [e]at q
   exact q H2 kp1 hd1
theorem Z31{f:Addr}{fd:FuncData}(F:Fun K "choice" "Dues.choice" Z0n f fd)(T:Txt K mg Z1 Z2 Z3 Z0)(Z0q:Def P w K mg base CX0 3 "under_ratio" ["one","other"] (sp57_under)):FnOk P w K mg base CX0 4 f fd ["self","lying"] (sp58_choice Z0):=by
 have sc:FnScope ["self","lying","names","least","name"] ["self","lying"] (defScope Z0n):=by walk_at "sc"
 refine F.ok sc (fun vs H Q E h=>?_) (fun cdv A outer s H vs Q E hr h=>?_)
 · obtain ⟨_,_,_,_,_,_,_,rfl,_⟩:=h;rfl
 obtain ⟨q',p,l,n,U,x,s,rfl,hd,hU,hU2,hne,q⟩:=h
 refine ⟨_,(@pss_cons _ _ _ _ _ (ps_set (i:=2) sc.nd rfl (Or.inl rfl) (pe_callTy (call_listD rfl) rfl T.Z03 (by first | rfl | decide+kernel) (pa_cons (pe_fld (pv 0) rfl) pa_nil)))
  (@pss_cons _ _ _ _ _ (ps_set (i:=3) sc.nd rfl (Or.inl rfl) (@pe_ix _ _ _ _ _ _ _ ix_list (pv 2) pe_int (fun _ _=>rfl)))
  (@pss_cons _ _ _ _ _ (ps_for PassesOwn.never rfl (pi_list (pv 2)) (pg_name (i:=4) sc.nd rfl (Or.inl rfl))
   (@pss_one _ _ _ (ps_if (pt_val (pe_callD Z0q hr rfl pass0 (pa_cons (pe_dget (hu_of hr) (pe_fld (pv 0) rfl) (pv 4) (fun _ _=>rfl)) (pa_cons (pe_dget (hu_of hr) (pe_fld (pv 0) rfl) (pv 3) (fun _ _=>rfl)) pa_nil))))
    (@pss_one _ _ _ (ps_set (i:=3) sc.nd rfl (Or.inl rfl) (pv 4)))
    pss_nil)))
  (@pss_one _ _ _ (@ps_ret _ _ _ _ (pv 3)))))),?_⟩
 walk_at "st"
 have line:=line_val
 obtain ⟨dx,fs,ho,hf⟩:=hd.o
 obtain ⟨kvs,d1,d2,d3⟩:=hd.dd
 have eK:kvs.map (fun p=>kV p.1)=s.ks.map V.str:=by
  have h1:kvs.map (fun p=>kV p.1)=(kvs.map (·.1)).map kV:=by rw [List.map_map];rfl
  rw [h1,d2,List.map_map];rfl
 have hbd:∀y∈s.ks,(s.f y).natAbs≤10 ^ 240:=fun y hy=>by
  obtain ⟨b1,b2⟩:=hd.b.2.1 y hy
  have:(10:Int) ^ 230≤10 ^ 240:=by decide+kernel
  omega
 have hl0:0 < s.ks.length:=List.length_pos_iff.mpr hne
 walk_at "go"
 refine ⟨Z0,dx,fs,ho,T.Z5,T.Za,_,hf.du,x.dd,rfl,_,d1,fun l1 hl1=>?_⟩
 rw [eK]
 have sm1:Same H (upd H l1 (.lst (s.ks.map V.str))):=Same.new hl1
 have h11:upd H l1 (.lst (s.ks.map V.str)) l1=some (.lst (s.ks.map V.str)):=upd_same
 generalize upd H l1 (.lst (s.ks.map V.str))=H1 at sm1 h11 ⊢
 rename_i rest hrest
 subst hrest
 walk_at "go"
 refine ixL_of (SqL.of h11) (v:=V.str (s.ks.getD 0 Str.empty)) (atI_nat (j:=0) (by rw [List.getElem?_map,getD_str hl0];rfl)) ?_
 have hz0:s.ks.getD 0 Str.empty∈s.ks:=List.mem_of_getElem? (getD_str hl0)
 have hz00:s.ks.headD Str.empty=s.ks.getD 0 Str.empty:=by cases s.ks <;> rfl
 have hq:∀z,z=s.ks.foldl (fun b y=>if s.f y < s.f b then y else b) (s.ks.getD 0 Str.empty)→lst1 s.f s.ks=z:=fun z e=>by rw [e,← hz00];rfl
 generalize s.ks.getD 0 Str.empty=z0 at hz0 hq ⊢
 clear hz00
 rename_i rest hrest
 subst hrest
 walk_at "go"
 refine ⟨⟨_,SqL.of h11⟩,?_⟩
 rename_i rest hrest
 refine forL_by (xs:=s.ks.map V.str) (fun i σ H'=>∃(z:Str) (v4:Option V),σ=[some (V.ref q'),some (V.ref l),some (V.ref l1),some (V.str z),v4]∧H'=H1∧z∈s.ks∧(s.ks.take i).foldl (fun b y=>if s.f y < s.f b then y else b) z0=z) ⟨z0,none,rfl,rfl,hz0,by rw [List.take_zero];rfl⟩ (fun i σ H' _ h_=>by obtain ⟨_,_,_,rfl,_⟩:=h_;exact SqL.of h11) ?_ ?_
 · clear hrest
   rintro i v σ H' hv ⟨z,v4,rfl,rfl,hz,hmin⟩
   have hi:i < s.ks.length:=by
    have:=(List.getElem?_eq_some_iff.mp hv).1
    rw [List.length_map]at this;exact this
   rw [List.getElem?_map,getD_str hi]at hv
   cases hv
   have hy:s.ks.getD i Str.empty∈s.ks:=List.mem_of_getElem? (getD_str hi)
   have htk:s.ks.take (i+1)=s.ks.take i++[s.ks.getD i Str.empty]:=by rw [List.take_succ,getD_str hi];rfl
   generalize s.ks.getD i Str.empty=y at hy htk ⊢
   obtain ⟨a1,e1,e2⟩:=d3 y hy
   obtain ⟨b1,g1,g2⟩:=d3 z hz
   walk_at "go"
   refine ⟨Z0,dx,fs,sm1 _ _ ho,T.Z5,T.Za,_,hf.du,x.dd,rfl,_,by rw [← e1];exact DGet.k (k:=Sum.inr y) (sm1 _ _ d1),Z0,dx,fs,sm1 _ _ ho,T.Z5,T.Za,_,hf.du,x.dd,rfl,_,by rw [← g1];exact DGet.k (k:=Sum.inr z) (sm1 _ _ d1),a1,rfl,b1,rfl,U,s.f y,sm1 _ _ e2,s.f z,sm1 _ _ g2,hU,hU2,hbd y hy,hbd z hz,?_⟩
   have hfo:(s.ks.take (i+1)).foldl (fun b y=>if s.f y < s.f b then y else b) z0=if s.f y < s.f z then y else z:=by rw [htk,List.foldl_append,hmin];rfl
   rw [hfo]
   by_cases hlt:s.f y < s.f z
   · rw [if_pos hlt,if_pos hlt]
     walk_at "go"
     exact hy
   · rw [if_neg hlt,if_neg hlt]
     exact ⟨hz,rfl⟩
 · rintro σ H' ⟨z,v4,rfl,rfl,hz,hmin⟩
   rw [List.length_map,List.take_length]at hmin
   subst hrest
   walk_at "go"
   have e:=hq z hmin.symm
   rw [e]at q
   exact q H' sm1
theorem Z3j{f:Addr}{fd:FuncData}(F:Fun K "gone" "Dues.gone" Z1c f fd)(T:Txt K mg Z1 Z2 Z3 Z0)(Zt:Def P w K mg base CX0 3 "plus_ratio" ["one","other"] (sp57_plus))(Z0r:Def P w K mg base CX0 3 "minus_ratio" ["one","other"] (sp57_minus)):FnOk P w K mg base CX0 5 f fd ["self","name"] (sp57_gone Z0):=by
 have sc:FnScope ["self","name","due"] ["self","name"] (defScope Z1c):=by walk_at "sc"
 refine F.ok sc (fun vs H Q E h=>?_) (fun cdv A outer s H vs Q E hr h=>?_)
 · obtain ⟨_,_,_,_,_,_,_,rfl,_⟩:=h;rfl
 obtain ⟨q',p,n,U,x,s,z,rfl,hd,hU,hU2,hz,hrl,hbd,q⟩:=h
 refine ⟨_,(@pss_cons _ _ _ _ _ (ps_set (i:=2) sc.nd rfl (Or.inl rfl) (pe_dpop1 (pe_fld (pv 0) rfl) (pv 1) ⟨rfl,rfl,rfl,rfl⟩))
  (@pss_cons _ _ _ _ _ (ps_asg (pe_callD Zt hr rfl pass0 (pa_cons (@pe_ix _ _ _ _ _ _ _ ix_list (pe_fld (pv 0) rfl) (pe_un un_neg pe_int) (fun _ _=>rfl)) (pa_cons (pe_callD Z0r hr rfl pass0 (pa_cons (pv 2) (pa_cons (pe_fld (pv 0) rfl) pa_nil))) pa_nil))) (pg_sub (pe_fld (pv 0) rfl) (pe_un un_neg pe_int) set_list))
  (@pss_one _ _ _ (ps_fld (pv 0) (pv 2) rfl)))),?_⟩
 walk_at "st"
 have line:=line_val
 obtain ⟨dx,fs,ho,hf⟩:=hd.o
 obtain ⟨kvs,d1,d2,d3⟩:=hd.dd
 obtain ⟨us,r1,r2⟩:=hd.rr
 obtain ⟨a,k1,k2⟩:=d3 z hz
 have B:(10:Int) ^ 230≤10 ^ 240:=by decide+kernel
 have hul:=r2.1
 walk_at "go"
 refine ⟨Z0,dx,fs,ho,T.Z5,T.Za,_,hf.du,x.dd,rfl,.inl ⟨_,.inl d1⟩,_,d1,Sum.inr z,rfl,_,k1,?_⟩
 have hd1:=hd.drop (z:=z) d1
 have ka1:RtA (upd H x.dd (.dK (dropK kvs (Sum.inr z)))) a U (s.f z):=by
  show _=_
  rw [upd_ne (ne_of k2 d1 (by intro z;cases z))];exact k2
 have kp1:Kp (DuM q' x) H (upd H x.dd (.dK (dropK kvs (Sum.inr z)))):=fun b o nb e=>by rw [upd_ne (fun k=>nb (by rw [k];simp [DuM]))];exact e
 generalize upd H x.dd (.dK (dropK kvs (Sum.inr z)))=H1 at hd1 ka1 kp1 ⊢
 obtain ⟨dx1,fs1,ho1,hf1⟩:=hd1.o
 obtain ⟨us1,p1,p2⟩:=hd1.rr
 have p2':RtsA H1 us1 U s.rs:=p2
 have hul1:=p2'.1
 obtain ⟨L,hL⟩:∃L:Nat,us1.length=L+1:=⟨us1.length - 1,by omega⟩
 have hlast:us1[L]?=some (us1[L]'(by omega)):=List.getElem?_eq_getElem (by omega)
 generalize us1[L]'(by omega)=ua at hlast
 have hrl2:s.rs[L]?=some (s.rs.getLastD 0):=by
  rw [List.getLastD_eq_getLast?,List.getLast?_eq_getElem?,show s.rs.length - 1=L by omega,List.getElem?_eq_getElem (by omega)];rfl
 have kua:=p2'.2 L ua _ hlast hrl2
 rename_i rest hrest
 subst hrest
 walk_at "go"
 have e1:us1=us1.dropLast++[ua]:=by
  refine List.ext_getElem? fun i=>?_
  by_cases hi:i < L
  · rw [List.getElem?_append_left (by rw [List.length_dropLast];omega),List.getElem?_dropLast,if_pos (by omega)]
  · by_cases hi2:i=L
    · rw [hi2,hlast,List.getElem?_append_right (by rw [List.length_dropLast];omega),List.length_dropLast,show L - (us1.length - 1)=0 by omega];rfl
    · rw [List.getElem?_eq_none (by omega),List.getElem?_eq_none (by rw [List.length_append,List.length_dropLast];simp only [List.length_cons,List.length_nil];omega)]
 obtain ⟨f0,f1⟩:=hd.b.2.1 z hz
 obtain ⟨r0,r3⟩:=hd.b.1
 obtain ⟨l0,l1⟩:=hd.b.2.2 _ (List.mem_of_getElem? hrl2)
 obtain ⟨n0,n1⟩:=hbd
 refine ⟨Z0,dx1,fs1,ho1,T.Z5,T.Zh,_,hf1.ri,ixL_of (SqL.of p1) (v:=V.ref ua) ?_ ⟨Z0,dx1,fs1,ho1,T.Z5,T.Zf,_,hf1.re,x.rp,rfl,U,s.f z,ka1,s.r,hd1.rp,hU,hU2,by omega,by omega,fun pm hpm=>?_⟩⟩
 · rw [e1,List.map_append];exact atI_last _ _
 have sm2:Same H1 (upd H1 pm (.tup [V.int (rt U (s.f z - s.r)).1,V.int (rt U (s.f z - s.r)).2])):=Same.new hpm
 have hpm2:RtA (upd H1 pm (.tup [V.int (rt U (s.f z - s.r)).1,V.int (rt U (s.f z - s.r)).2])) pm U (s.f z - s.r):=upd_same
 generalize upd H1 pm (.tup [V.int (rt U (s.f z - s.r)).1,V.int (rt U (s.f z - s.r)).2])=H2 at sm2 hpm2 ⊢
 refine ⟨ua,rfl,U,_,sm2 _ _ kua,_,hpm2,hU,hU2,by omega,by omega,fun pn hpn=>?_⟩
 unfold goneS at q
 generalize s.rs.getLastD 0+(s.f z - s.r)=nv at n0 n1 q ⊢
 have sm3:Same H2 (upd H2 pn (.tup [V.int (rt U nv).1,V.int (rt U nv).2])):=Same.new hpn
 have hpn3:RtA (upd H2 pn (.tup [V.int (rt U nv).1,V.int (rt U nv).2])) pn U nv:=upd_same
 generalize upd H2 pn (.tup [V.int (rt U nv).1,V.int (rt U nv).2])=H3 at sm3 hpn3 ⊢
 have hd3:=(hd1.same sm2).same sm3
 have kp3:Kp (DuM q' x) H H3:=fun b o nb e=>sm3 _ _ (sm2 _ _ (kp1 b o nb e))
 have p23:RtsA H3 us1 U s.rs:=(p2'.keep fun v e h=>sm2 _ _ h).keep fun v e h=>sm3 _ _ h
 refine ⟨Z0,dx1,fs1,sm3 _ _ (sm2 _ _ ho1),T.Z5,T.Zh,_,hf1.ri,x.rr,rfl,_,sm3 _ _ (sm2 _ _ p1),L,?_,?_⟩
 · unfold ixN
   rw [List.length_map,hL,if_neg (by omega),if_pos (by omega)]
   congr 1
   omega
 rw [← List.map_set]
 have hd4:=hd3.rise (p23.set (k:=L) hpn3) (fun v hv=>by
  rcases List.mem_or_eq_of_mem_set hv with h | h
  · exact hd.b.2.2 v h
  · rw [h];exact ⟨n0,n1⟩) (by rw [List.length_set];exact hd.l.2)
 have ka4:RtA (upd H3 x.rr (.lst ((us1.set L pn).map V.ref))) a U (s.f z):=by
  show _=_
  rw [upd_ne (ne_of (sm3 _ _ (sm2 _ _ ka1)) (sm3 _ _ (sm2 _ _ p1)) (by intro z;cases z))];exact sm3 _ _ (sm2 _ _ ka1)
 have kp4:Kp (DuM q' x) H (upd H3 x.rr (.lst ((us1.set L pn).map V.ref))):=fun b o nb e=>by rw [upd_ne (fun k=>nb (by rw [k];simp [DuM]))];exact kp3 b o nb e
 generalize upd H3 x.rr (.lst ((us1.set L pn).map V.ref))=H4 at hd4 ka4 kp4 ⊢
 obtain ⟨dx4,fs4,ho4,hf4⟩:=hd4.o
 rename_i rest hrest
 subst hrest
 walk_at "go"
 refine ⟨Z0,dx4,fs4,ho4,T.Z5,T.Zf,by have:=hf4.n;omega,?_⟩
 walk_at "go"
 have hd5:=hd4.reach ho4 hf4 ka4 ⟨f0,f1⟩
 have eL:L=s.rs.length - 1:=by omega
 rw [eL]at hd5
 exact q a _ (fun b o nb e=>by rw [upd_ne (fun k=>nb (by rw [k];simp [DuM]))];exact kp4 b o nb e) hd5
theorem Z3k{f:Addr}{fd:FuncData}(F:Fun K "came" "Dues.came" Z1d f fd)(T:Txt K mg Z1 Z2 Z3 Z0)(Z00:DefM P w K mg base CX0 5 Z0 "owe" ["self","name"] (sp57_owe K Z0 Z1)):FnOk P w K mg base CX0 6 f fd ["self","name"] (sp57_owe K Z0 Z1):=by
 have sc:FnScope ["self","name"] ["self","name"] (defScope Z1d):=by walk_at "sc"
 refine F.ok sc (fun vs H Q E h=>?_) (fun cdv A outer s H vs Q E hr h=>?_)
 · obtain ⟨_,_,_,_,_,_,_,_,rfl,_⟩:=h;rfl
 obtain ⟨q',p,n,U,x,s,z,ts,rfl,hd,hs,nd,hz,hzk,hU,hkl,hr1,q⟩:=h
 refine ⟨_,(@pss_one _ _ _ (ps_expr (pe_methS Z00 T.Z5 hr (passS pass0) (pv 0) (pa_cons (pv 1) pa_nil)))),?_⟩
 walk_at "st"
 have line:=line_val
 obtain ⟨dx,fs,ho,hf⟩:=hd.o
 walk_at "go"
 exact ⟨dx,fs,ho,hf.m _ (by simp),p,n,U,x,s,hd,ts,hs,nd,hz,hzk,hU,hkl,hr1,fun H' kp hd'=>q H' kp hd'⟩
theorem Z32{f:Addr}{fd:FuncData}(F:Fun K "prices" "Dues.prices" Z0o f fd)(T:Txt K mg Z1 Z2 Z3 Z0):FnOk P w K mg base CX0 1 f fd ["self"] (sp57_prices Z0):=by
 have sc:FnScope ["self"] ["self"] (defScope Z0o):=by walk_at "sc"
 refine F.ok sc (fun vs H Q E h=>?_) (fun cdv A outer s H vs Q E hr h=>?_)
 · obtain ⟨_,_,_,_,_,_,rfl,_⟩:=h;rfl
 obtain ⟨q',p,n,U,x,s,rfl,hd,q⟩:=h
 refine ⟨_,(@pss_one _ _ _ (@ps_ret _ _ _ _ (pe_callTy call_list_of rfl T.Z03 (by first | rfl | decide+kernel) (pa_cons (pe_fld (pv 0) rfl) pa_nil)))),?_⟩
 walk_at "st"
 have line:=line_val
 obtain ⟨dx,fs,ho,hf⟩:=hd.o
 obtain ⟨us,r1,r2⟩:=hd.rr
 walk_at "go"
 exact ⟨Z0,dx,fs,ho,T.Z5,T.Zh,_,hf.ri,x.rr,rfl,_,.inl (SqL.of r1),fun l hl=>q l us hl r2⟩
theorem Z3l{f:Addr}{fd:FuncData}(F:Fun K "make_room" "make_room" Z1e f fd)(T:Txt K mg Z1 Z2 Z3 Z0)(Zi:DefM P w K mg base CX0 1 Z2 "room_left" ["self"] (sp_left Z2))(Z0s:DefM P w K mg base CX0 1 Z2 "lying" ["self"] (sp_lying Z2))(Z0t:DefM P w K mg base CX0 4 Z0 "choice" ["self","lying"] (sp58_choice Z0))(Z13:DefM P w K mg base CX0 2 Z2 "cast" ["self","name"] (sp_castG Z2))(Z1h:DefM P w K mg base CX0 5 Z0 "gone" ["self","name"] (sp57_gone Z0)):FnOk P w K mg base CX0 8 f fd ["rule","shelf","room"] (sp58_room Z0 K Z1 Z2):=by
 have sc:FnScope ["rule","shelf","room","went","name"] ["rule","shelf","room"] (defScope Z1e):=by walk_at "sc"
 refine F.ok sc (fun vs H Q E h=>?_) (fun cdv A outer s H vs Q E hr h=>?_)
 · obtain ⟨_,_,_,_,_,_,_,_,_,_,_,_,_,rfl,_⟩:=h;rfl
 obtain ⟨H0,q',p,sh,d,M,n,need,U,ts,ls,s,z,rfl,hr',hm,hnn,hll,htl,hcn,q⟩:=h
 refine ⟨_,(@pss_cons _ _ _ _ _ (ps_set (i:=3) sc.nd rfl (Or.inl rfl) (@pe_lst _ _ _ _ pa_nil))
  (@pss_cons _ _ _ _ _ (ps_while PassesOwn.never (pt_cmpR op_lt (pe_methS0 Zi T.Z7 hr (passS pass0) (pv 1)) (pv 2) (nomark _))
   (@pss_cons _ _ _ _ _ (ps_set (i:=4) sc.nd rfl (Or.inl rfl) (pe_methS Z0t T.Z5 hr (passS pass0) (pv 0) (pa_cons (pe_methS0 Z0s T.Z7 hr (passS pass0) (pv 1)) pa_nil)))
   (@pss_cons _ _ _ _ _ (ps_expr (pe_methS Z13 T.Z7 hr (passS pass0) (pv 1) (pa_cons (pv 4) pa_nil)))
   (@pss_cons _ _ _ _ _ (ps_expr (pe_methS Z1h T.Z5 hr (passS pass0) (pv 0) (pa_cons (pv 4) pa_nil)))
   (@pss_one _ _ _ (ps_expr (pe_bm PySem.F.plainAttrs_list PySem.F.slot_list_append PySem.F.type_list_append mt_append (pv 3) (pa_cons (pv 4) pa_nil))))))))
  (@pss_one _ _ _ (@ps_ret _ _ _ _ (pv 3))))),?_⟩
 walk_at "st"
 have line:=line_val
 walk_at "go"
 intro w hw
 have kp0:Kp (d::M) H (upd H w (.lst [])):=Kp.of (Same.new hw)
 have hr0:=hr'.same (Same.new (o:= .lst []) hw)
 have hww:upd H w (.lst []) w=some (.lst []):=upd_same
 have nw:=hr'.free hw
 have nw0:H0 w=none:=same_none hr'.sm hw
 have nwm:w∉M:=fun h=>nw (List.mem_cons_of_mem _ h)
 have nwd:w≠d:=fun h=>nw (by rw [h];simp)
 generalize upd H w (.lst [])=H1 at kp0 hr0 hww ⊢
 rename_i rest hrest
 subst hrest
 walk_at "go"
 rename_i rest hrest
 refine while_d (m0:=ls.length) (fun m σ H5=>∃(ls':Ly) (s':DuS) (wl:List Str) (v4:Option V),σ=[some (V.ref q'),some (V.ref sh),some (V.int need),some (V.ref w),v4]∧Kp (d::M) H H5∧H5 w=some (.lst (wl.map V.str))∧RunD Z0 U K Z1 Z2 H0 H5 q' p sh d M n ts ls' s'∧DM U ts (ts.map (·.1)) z s' (lyN ls')∧gf (TD Z0 U ts) (rm ts) n need s (lyN ls) []=gf (TD Z0 U ts) (rm ts) n need s' (lyN ls') wl∧wl.length+ls'.length≤60∧s'.rs.length≤300∧m=ls'.length) ⟨ls,s,[],none,rfl,kp0,hww,hr0,hm,rfl,by simpa using hll,hcn,rfl⟩ ?_
 clear hr' hr0 hww kp0 hm
 rintro m' σ H5 ⟨ls',s',wl,v4,rfl,kp5,hw5,hr5,hm5,hf5,hl5,hcn5,rfl⟩
 have hleft:=hr5.left
 obtain ⟨⟨dx,ho⟩,hd,hnd⟩:=id hr5.shf
 walk_at "go"
 refine ⟨dx,_,ho,by rfl,_,_,_,_,hr5.shf,fun H6 sm6=>?_⟩
 have hr6:=hr5.same sm6
 have hw6:=sm6 _ _ hw5
 have kp6:=kp5.trans (Kp.of sm6)
 by_cases hlt:need≤n - N41.sm (rm ts) (lyN ls')
 · rw [if_neg (by rw [hleft];omega)]
   have e1:gf (TD Z0 U ts) (rm ts) n need s (lyN ls) []=(s',lyN ls',wl)∧True:=⟨hf5.trans (gf_end hlt),trivial⟩
   clear hf5
   subst hrest
   walk_at "go"
   exact q w ls' H6 kp6 hw (by rw [e1.1];exact hw6) (by rw [e1.1]) (by rw [e1.1];exact hr6)
 · rw [if_pos (by rw [hleft];omega)]
   clear hrest
   refine ⟨_,fun σ' H7 h=>h,?_⟩
   have hLne:lyN ls'≠[]:=fun e=>hlt (by rw [e,N41.sm_nil];omega)
   obtain ⟨⟨dx6,ho6⟩,hd6,hnd6⟩:=id hr6.shf
   obtain ⟨x6,ex6,hd6'⟩:=id hr6.h
   obtain ⟨dq,fs,hoq,hfq⟩:=id hd6'.o
   have hec:=hfq.m (Str.ofString "choice") (by simp)
   clear hleft ho hd hnd hr5 hw5 kp5 sm6
   walk_at "go"
   refine ⟨dq,_,hoq,hec,dx6,_,ho6,by rfl,_,_,_,_,hr6.shf,fun l hl=>?_⟩
   have sml:Same H6 (upd H6 l (.lst ((lyN ls').map V.str))):=Same.new hl
   have hl7:upd H6 l (.lst ((lyN ls').map V.str)) l=some (.lst ((lyN ls').map V.str)):=upd_same
   have nl:=hr6.free hl
   have hr7:=hr6.same sml
   have hw7:=sml _ _ hw6
   have kp7:=kp6.trans (Kp.of sml)
   generalize upd H6 l (.lst ((lyN ls').map V.str))=H7 at hr7 hw7 kp7 hl7 ⊢
   clear hr6 hw6 kp6 hoq ho6 hd6 hnd6 sml hl hec hd6' ex6 hfq
   obtain ⟨hf,hm8⟩:lst1 s'.f s'.ks∈lyN ls'∧DM U ts (ts.map (·.1)) z (goneS s' (lst1 s'.f s'.ks)) ((lyN ls').erase (lst1 s'.f s'.ks)):=(TD Z0 U ts).i_pick (n:=n) hm5 hLne
   have hcn6:(goneS s' (lst1 s'.f s'.ks)).rs.length≤300:=by rw [goneS_len];exact hcn5
   have hzks:=hm5.i.pm.mem_iff.mpr hf
   obtain ⟨x7,ex7,hd7⟩:=id hr7.h
   have hUn:=hm5.i.u
   refine ⟨p,n,U,x7,s',hd7,hUn.p,hUn.b,List.ne_nil_of_mem hzks,fun H8 sm8=>?_⟩
   have hr8:=hr7.same sm8
   have hw8:=sm8 _ _ hw7
   have kp08:=kp7.trans (Kp.of sm8)
   have hfin':gf (TD Z0 U ts) (rm ts) n need s (lyN ls) []=gf (TD Z0 U ts) (rm ts) n need (goneS s' (lst1 s'.f s'.ks)) ((lyN ls').erase (lst1 s'.f s'.ks)) (wl++[lst1 s'.f s'.ks])∧True:=⟨hf5.trans (gf_go (T:=TD Z0 U ts) hlt hf),trivial⟩
   clear hf5 hr7 hw7 kp7 sm8 hl7 ex7 hd7
   obtain ⟨⟨dx8,ho8⟩,hd8,hnd8⟩:=id hr8.shf
   rename_i rest2 hrest2
   subst hrest2
   walk_at "go"
   refine ⟨dx8,_,ho8,by rfl,_,_,_,_,hr8.shf,hf,fun H9 sb9 hs9=>?_⟩
   have hr9:=hr8.shelf sb9 hs9 hr8.ok.drop
   have hw9:=sb9 _ _ hw8 nwd
   obtain ⟨x9,ex9,hd9'⟩:=id hr9.h
   obtain ⟨dq9,fs9,hoq9,hf9⟩:=id hd9'.o
   have hbd:Bd (s'.rs.getLastD 0+(s'.f (lst1 s'.f s'.ks) - s'.r)):=by
    obtain ⟨c1,c2⟩:=hm5.i.lo.c _ hzks
    obtain ⟨pre,u,he,hpl⟩:=split_last (us:=s'.rs) (n:=s'.rs.length - 1) (by have:=hm5.n;omega)
    have hsm:=hm5.i.sm
    have hu:=hm5.i.nn u (by rw [he];simp)
    have hpre:=sum_nn (T:=pre) fun t ht=>hm5.i.nn t (by rw [he];exact List.mem_append_left _ ht)
    rw [he,List.sum_append]at hsm
    rw [he,List.getLastD_concat]
    simp only [List.sum_cons,List.sum_nil]at hsm
    have hb:(s'.rs.length:Int) * 10 ^ 210≤300 * 10 ^ 210:=Int.mul_le_mul_of_nonneg_right (by omega) (by decide+kernel)
    have hb2:(300:Int) * 10 ^ 210≤10 ^ 230:=by decide+kernel
    exact ⟨by omega,by omega⟩
   have hnames:=lyD_names (z:=(lst1 s'.f s'.ks)) hr8.ok.nd
   rename_i rest2 hrest2
   subst hrest2
   walk_at "go"
   refine ⟨dq9,_,hoq9,hf9.m _ (by simp),p,n,U,x9,s',hd9',hUn.p,hUn.b,hzks,hm5.n,hbd,fun ra H10 kp10 hd10=>?_⟩
   rw [ex9]at kp10
   have hh10:AtD Z0 U H10 M q' p n (goneS s' (lst1 s'.f s'.ks)):=⟨{x9 with rp:=ra},ex9,hd10⟩
   have hr10:=hr9.rule kp10 hh10
   have hw10:=kp10 _ _ nwm hw9
   have kp010:Kp (d::M) H H10:=(kp08.trans (kp_of_but sb9 (by simp))).trans (kp_cons kp10)
   clear hr8 hs9 hh10 sb9 kp10 hw8 hw9 kp08 hd8 hnd8 ho8 hoq9 hr9 hd9' hf9 ex9 hd10 hbd hUn hzks
   have hel:=List.length_erase_of_mem hf
   have hlp:0 < (lyN ls').length:=List.length_pos_of_mem hf
   have hll5:(lyN ls').length=ls'.length∧True:=⟨by unfold lyN;rw [List.length_map],trivial⟩
   have hll6:(lyD ls' (lst1 s'.f s'.ks)).length+1≤ls'.length:=by
    have e:(lyN (lyD ls' (lst1 s'.f s'.ks))).length=(lyD ls' (lst1 s'.f s'.ks)).length:=by unfold lyN;rw [List.length_map]
    rw [hnames]at e
    omega
   rw [← hnames]at hm8 hfin'
   rename_i rest2 hrest2
   subst hrest2
   walk_at "go"
   generalize hfe:lst1 s'.f s'.ks=f at hf hm8 hfin' hnames hel hr10 hll6 hcn6 ⊢
   have hwl:(wl++[f]).length=wl.length+1:=by rw [List.length_append];rfl
   refine ⟨.inl ⟨rfl,_,SqL.of hw10⟩,w,_,_,rfl,rfl,hw10,by rw [List.length_map];omega,(lyD ls' f).length,by omega,kp_new kp010 hw,lyD ls' f,_,wl++[f],by rw [upd_same,List.map_append];rfl,hr10.lst (fun b o e nb=>by rw [upd_ne nb];exact e) hw10 nwm nw0,hm8,hfin'.1,by omega,hcn6,rfl⟩
theorem Z41{f:Addr}{fd:FuncData}(F:Fun K "row_of" "row_of" Z2d f fd)(T:Txt K mg Z1 Z2 Z3 Z0)(Z14:DefM P w K mg base CX0 6 Z0 "asked" ["self","name"] (sp57_asked K Z0 Z1))(Zd:DefM P w K mg base CX0 1 Z2 "holds" ["self","name"] (sp_holds Z2))(Z1i:Def P w K mg base CX0 8 "make_room" ["rule","shelf","room"] (sp58_room Z0 K Z1 Z2))(Z4:DefM P w K mg base CX0 2 Z1 "room_of" ["self","name"] (sp32_room K Z1))(Z1j:DefM P w K mg base CX0 4 Z2 "put" ["self","name"] (sp_putG K Z1 Z2))(Z1k:DefM P w K mg base CX0 6 Z0 "came" ["self","name"] (sp57_owe K Z0 Z1)):FnOk P w K mg base CX0 9 f fd ["rule","shelf","name"] (sp58_row Z0 K Z1 Z2):=by
 have sc:FnScope ["rule","shelf","name","went"] ["rule","shelf","name"] (defScope Z2d):=by walk_at "sc"
 refine F.ok sc (fun vs H Q E h=>?_) (fun cdv A outer s H vs Q E hr h=>?_)
 · obtain ⟨_,_,_,_,_,_,_,_,_,_,_,_,rfl,_⟩:=h;rfl
 obtain ⟨H0,q',p,sh,d,M,n,U,ts,ls,s,z,rfl,hr',hi,nd,htl,hz,hzn,hcn,q⟩:=h
 refine ⟨_,(@pss_cons _ _ _ _ _ (ps_expr (pe_methS Z14 T.Z5 hr (passS pass0) (pv 0) (pa_cons (pv 2) pa_nil)))
  (@pss_cons _ _ _ _ _ (ps_if (pt_val (pe_methS Zd T.Z7 hr (passS pass0) (pv 1) (pa_cons (pv 2) pa_nil)))
   (@pss_one _ _ _ (@ps_ret _ _ _ _ (pe_tup (pa_cons (pv 2) (pa_cons pe_bl (pa_cons (@pe_lst _ _ _ _ pa_nil) pa_nil))))))
   pss_nil)
  (@pss_cons _ _ _ _ _ (ps_set (i:=3) sc.nd rfl (Or.inl rfl) (pe_callD Z1i hr rfl pass0 (pa_cons (pv 0) (pa_cons (pv 1) (pa_cons (pe_methS Z4 T.Z8 hr (passS pass0) (pe_fld (pv 1) rfl) (pa_cons (pv 2) pa_nil)) pa_nil)))))
  (@pss_cons _ _ _ _ _ (ps_expr (pe_methS Z1j T.Z7 hr (passS pass0) (pv 1) (pa_cons (pv 2) pa_nil)))
  (@pss_cons _ _ _ _ _ (ps_expr (pe_methS Z1k T.Z5 hr (passS pass0) (pv 0) (pa_cons (pv 2) pa_nil)))
  (@pss_one _ _ _ (@ps_ret _ _ _ _ (pe_tup (pa_cons (pv 2) (pa_cons pe_bl (pa_cons (pv 3) pa_nil))))))))))),?_⟩
 walk_at "st"
 have line:=line_val
 obtain ⟨x0,ex0,hd0⟩:=id hr'.h
 obtain ⟨dq,fs,hoq,hf0⟩:=id hd0.o
 obtain ⟨hsk,hskp⟩:=hr'.stk
 have hUn:=hi.u
 have hrb:s.r≤10 ^ 229:=by
  have h1:=hi.lo.b
  have hb:(s.rs.length:Int) * 10 ^ 210≤300 * 10 ^ 210:=Int.mul_le_mul_of_nonneg_right (by omega) (by decide+kernel)
  have hb2:(300:Int) * 10 ^ 210≤10 ^ 229:=by decide+kernel
  omega
 walk_at "go"
 refine ⟨dq,_,hoq,hf0.m _ (by simp),p,n,U,x0,s,hd0,ts,hsk,(fun H' k=>hskp H' (by rw [← ex0];exact k)),nd,hz,hUn,by omega,hrb,fun H1 kp1 hd1=>?_⟩
 rw [ex0]at kp1
 have hh1:AtD Z0 U H1 M q' p n (askS U ts s z):=⟨x0,ex0,hd1⟩
 have hr1:=hr'.rule kp1 hh1
 obtain ⟨⟨dx,ho⟩,hd,hnd⟩:=id hr1.shf
 have fresh:∀b,H1 b=none→H b=none:=fun b e=>kp_none kp1 (fun hm=>hr1.free e (List.mem_cons_of_mem _ hm)) e
 have hlsl:(lyN ls).length≤60:=by
  have:=N25.nd_len hr1.ok.nd hr1.ok.s
  rw [List.length_map]at this
  omega
 clear hoq hf0 hsk hskp
 rename_i rest hrest
 subst hrest
 walk_at "go"
 refine ⟨dx,_,ho,by rfl,_,_,_,_,hr1.shf,?_⟩
 by_cases hzL:z∈lyN ls
 · have e:gask (TD Z0 U ts) (rm ts) n (s,lyN ls) z=((askS U ts s z,lyN ls),(z,true,[])):=by unfold gask;rw [if_pos hzL]
   rw [if_pos hzL]
   rw [e]at q
   refine ⟨by omega,fun g hg=>⟨by omega,fun t ht=>?_⟩⟩
   have s1:Same H1 (upd H1 g (.lst [])):=Same.new hg
   have k1:upd H1 g (.lst []) g=some (.lst (([]:List Str).map V.str)):=upd_same
   generalize upd H1 g (.lst [])=H2 at s1 k1 ht ⊢
   have s2:Same H2 (upd H2 t (.tup [V.str z,V.bl true,V.ref g])):=Same.new ht
   exact q t g ls _ (kp_cons (kp1.trans (Kp.of (s1.trans s2)))) (fresh t (same_none s1 ht)) (fresh g hg) upd_same (s2 _ _ k1) rfl (hr1.same (s1.trans s2))
 rw [if_neg hzL]
 have eh:gask (TD Z0 U ts) (rm ts) n (s,lyN ls) z=(((TD Z0 U ts).came n (gf (TD Z0 U ts) (rm ts) n (rm ts z) (askS U ts s z) (lyN ls) []).1 z,(gf (TD Z0 U ts) (rm ts) n (rm ts z) (askS U ts s z) (lyN ls) []).2.1++[z]),(z,false,(gf (TD Z0 U ts) (rm ts) n (rm ts z) (askS U ts s z) (lyN ls) []).2.2)):=by unfold gask;rw [if_neg hzL]
 rw [eh]at q
 clear eh
 have hm1:DM U ts (ts.map (·.1)) z (askS U ts s z) (lyN ls):=(TD Z0 U ts).i_mid (n:=n) hi hz hzL
 obtain ⟨hI,hne,hsub,hnd2,hwl⟩:=gf_pos (T:=TD Z0 U ts) (R:=rm ts) (n:=n) (need:=rm ts z) _ _ _ [] rfl hm1 hzn
 obtain ⟨dy,e,kvs,h1,h2,h3,h4,h5⟩:=StockAt.has hr1.x.at
 rename_i rest hrest
 subst hrest
 walk_at "go"
 refine ⟨Z2,dx,_,ho,T.Z7,T.Zl,_,sfl_stock,_,rfl,dy,flds e,h1,by rfl,_,rfl,ts,hr1.x.at,nd,hz,H0,p,d,M,n,U,ts,ls,_,hr1,z,hm1,hzn,by unfold lyN at hlsl;rw [List.length_map]at hlsl;exact hlsl,htl,by rw [askS_len];omega,fun g ls2 H2 kp2 hg hg2 hln2 hr2=>?_⟩
 obtain ⟨⟨dx2,ho2⟩,hd2,hnd2'⟩:=id hr2.shf
 have kp02:Kp (d::M) H H2:=(kp_cons kp1).trans kp2
 have ngo:=hr1.free hg
 have ngd:g≠d:=fun h=>ngo (by rw [h];simp)
 have ngm:g∉M:=fun h=>ngo (List.mem_cons_of_mem _ h)
 have hnl:z∉lyN ls2:=fun h=>hzL (hsub z (by rw [← hln2];exact h))
 have hlen2:ls2.length≤60:=by
  have e1:(lyN ls2).length=ls2.length:=by unfold lyN;rw [List.length_map]
  rw [hln2]at e1
  omega
 have hleft2:=hr2.left
 rw [hln2]at hleft2
 have hcnt:(gf (TD Z0 U ts) (rm ts) n (rm ts z) (askS U ts s z) (lyN ls) []).1.rs.length≤300:=Nat.le_trans (gfin_cnt (T:=TD Z0 U ts) (R:=rm ts) (n:=n) (need:=rm ts z) (lyN ls).length (askS U ts s z) (lyN ls) []) (by show (askS U ts s z).rs.length≤300;rw [askS_len];omega)
 generalize gf (TD Z0 U ts) (rm ts) n (rm ts z) (askS U ts s z) (lyN ls) []=F at hr2 hg2 q hne hI hleft2 hln2 hcnt
 obtain ⟨s2,l2,w2⟩:=F
 simp only at hr2 hg2 q hne hI hleft2 hln2 hcnt
 clear hr1 hh1 kp1 h1 h2 h3 h4 h5 ho hd hnd hsub hnd2 hwl
 rename_i rest hrest
 subst hrest
 walk_at "go"
 refine ⟨dx2,_,ho2,by rfl,_,_,_,_,hr2.shf,ts,hr2.x,nd,by omega,hz,rm ts z,fun t ht e=>?_,hnl,by omega,fun H3 sb3 hs3=>?_⟩
 · obtain ⟨i,hi'⟩:=List.getElem?_of_mem ht
   rw [← e,rm_at nd hi']
 have hr3:=hr2.shelf sb3 hs3 (hr2.ok.put hnl hz)
 obtain ⟨x3,ex3,hd3⟩:=id hr3.h
 obtain ⟨dq3,fs3,hoq3,hf3⟩:=id hd3.o
 obtain ⟨hsk3,hskp3⟩:=hr3.stk
 have hg3:=sb3 _ _ hg2 ngd
 have hl3:lyN (ls2++[(z,rm ts z)])=l2++[z]∧True:=⟨by unfold lyN at hln2 ⊢;rw [List.map_append,hln2];rfl,trivial⟩
 rw [hln2]at hnl
 rename_i rest hrest
 subst hrest
 walk_at "go"
 have hI':DM U ts (ts.map (·.1)) z s2 l2:=hI
 have hks2:z∉s2.ks:=fun k=>hnl (hI'.i.pm.mem_iff.mp k)
 have hkl2:s2.ks.length < 100:=by
  have h1:=N25.nd_len hI'.i.nd hI'.i.kn
  rw [List.length_map]at h1
  omega
 have hrb2:s2.r≤10 ^ 229:=by
  have h1:=hI'.i.lo.b
  have hb:(s2.rs.length:Int) * 10 ^ 210≤300 * 10 ^ 210:=Int.mul_le_mul_of_nonneg_right (by omega) (by decide+kernel)
  have hb2:(300:Int) * 10 ^ 210≤10 ^ 229:=by decide+kernel
  omega
 refine ⟨dq3,_,hoq3,hf3.m _ (by simp),p,n,U,x3,s2,hd3,ts,hsk3,nd,hz,hks2,hUn,hkl2,hrb2,fun H4 kp4 hd4=>?_⟩
 rw [ex3]at kp4
 have hh4:AtD Z0 U H4 M q' p n ((TD Z0 U ts).came n s2 z):=⟨x3,ex3,hd4⟩
 have hr4:=hr3.rule kp4 hh4
 have hg4:=kp4 _ _ ngm hg3
 have kp04:Kp (d::M) H H4:=(kp02.trans (kp_of_but sb3 (by simp))).trans (kp_cons kp4)
 rename_i rest hrest
 subst hrest
 walk_at "go"
 intro t ht
 exact q t g _ _ (kp04.trans (Kp.of (Same.new ht))) (kp_none kp04 (hr4.free ht) ht) (fresh g hg) upd_same (Same.new ht _ _ hg4) hl3.1 (hr4.same (Same.new ht))
theorem Z3x{f:Addr}{fd:FuncData}(F:Fun K "book_of" "book_of" Z20 f fd)(T:Txt K mg Z1 Z2 Z3 Z0)(Zu:Def P w K mg base CX0 4 "check_asks" ["stock","asks","places"] (N41.sp41_asks K Z1))(Z15:DefI P w K mg base CX0 4 "Shelf" Z2 ["self","stock","places"] (sp_sinit Z2))(Z2j:Def P w K mg base CX0 9 "row_of" ["rule","shelf","name"] (sp58_row Z0 K Z1 Z2)):FnOk P w K mg base CX0 10 f fd ["rule","asks"] (sp58_book Z0 K Z1 Z2):=by
 have sc:FnScope ["rule","asks","shelf"] ["rule","asks"] (defScope Z20):=by walk_at "sc"
 refine F.ok sc (fun vs H Q E h=>?_) (fun cdv A outer s H vs Q E hr h=>?_)
 · obtain ⟨_,_,_,_,_,_,_,_,_,_,rfl,_⟩:=h;rfl
 obtain ⟨H0,q',p,a,M,n,U,ts,ys,s0,rfl,hh,hi0,hsto,sm0,hm0,nd,htl,ha,ham,hlen,hin,hrm,hn1,hn2,hc0,q⟩:=h
 refine ⟨_,(@pss_cons _ _ _ _ _ (ps_expr (pe_callD Zu hr rfl pass0 (pa_cons (pe_fld (pv 0) rfl) (pa_cons (pv 1) (pa_cons (pe_fld (pv 0) rfl) pa_nil)))))
  (@pss_cons _ _ _ _ _ (ps_set (i:=2) sc.nd rfl (Or.inr rfl) (pe_makeS Z15 hr rfl (passS pass0) (pa_cons (pe_fld (pv 0) rfl) (pa_cons (pe_fld (pv 0) rfl) pa_nil))))
  (@pss_one _ _ _ (@ps_ret _ _ _ _ (pe_comp1 "name" [0,2] rfl rfl (pi_list (pv 1)) (fun b=>(pe_callD Z2j hr rfl pass0 (pa_cons (pv 1) (pa_cons (pv 2) (pa_cons (pv 0) pa_nil)))))))))),?_⟩
 walk_at "st"
 have line:=line_val
 obtain ⟨x0,ex0,hd0'⟩:=id hh
 obtain ⟨dq,fs,hoq,hf0⟩:=id hd0'.o
 have hst_:=hf0.st
 have hpl_:=hf0.pl
 walk_at "go"
 refine ⟨Z0,dq,_,hoq,T.Z5,T.Zg,_,hst_,Z0,dq,_,hoq,T.Z5,T.Zm,_,hpl_,p,rfl,n,rfl,ts,hsto.same sm0,nd,ys,ha,hlen,hin,hrm,hn1,hn2,fun H1 sm1=>?_⟩
 have hh1:=hh.same sm1
 have ha1:=sm1.seq ha
 obtain ⟨x1,ex1,hd1'⟩:=id hh1
 obtain ⟨dq1,fs1,hoq1,hf1⟩:=id hd1'.o
 have hst1:=hf1.st
 have hpl1:=hf1.pl
 clear hd1' hd0' hf0 hf1 ex0 ex1
 clear hoq hst_ hpl_
 rename_i rest hrest
 subst hrest
 walk_at "go"
 refine ⟨Z0,dq1,_,hoq1,T.Z5,T.Zg,_,hst1,Z0,dq1,_,hoq1,T.Z5,T.Zm,_,hpl1,fun sh dx hsh hdx hne=>⟨dx,p,rfl,n,rfl,upd_same,hn1,hn2,fun H2 d sb hdn hs2=>?_⟩⟩
 have sm2:=new_same hsh hdx sb
 have hd0:=new_none hdn
 have hd1:H0 d=none:=same_none (sm0.trans sm1) hd0
 have nsh:sh∉M:=fun h=>hh1.live _ h hsh
 have ndm:d∉M:=fun h=>hh1.live _ h hd0
 have hr2:RunD Z0 U K Z1 Z2 H0 H2 q' p sh d M n ts [] s0:=⟨hh1.same sm2,hs2,hsto,(sm0.trans sm1).trans sm2,hm0,hd1,nsh,ndm,OkL.nil⟩
 have ha2:=sm2.seq ha1
 clear hdn sb hdx hsh hne hh1 hoq1 hs2 hst1 hpl1
 rename_i rest hrest
 subst hrest
 walk_at "go"
 refine ⟨⟨_,ha2⟩,?_⟩
 have kpM:∀{H':Hp},Kp (d::M) H2 H'→Kp M H1 H':=fun {H'} k b o nb e=>k b o (fun hm=>by
  rcases List.mem_cons.mp hm with e1 | e1
  · rw [e1,hd0]at e;cases e
  · exact nb e1) (sm2 _ _ e)
 refine comp_by ys.length fun b D hD=>⟨fun i zs H'=>∃(as gs:List Addr) (ls':Ly),zs=as.map V.ref∧as.length=i∧gs.length=i∧i≤ys.length∧H' D=some (.lst zs)∧Kp (d::M) H2 H'∧lyN ls'=(gst (TD Z0 U ts) (rm ts) n s0 ys i).2∧RunD Z0 U K Z1 Z2 H0 H' q' p sh d M n ts ls' (gst (TD Z0 U ts) (rm ts) n s0 ys i).1∧∀(j:Nat) a g,as[j]?=some a→gs[j]?=some g→a∉d::M∧g∉d::M∧a≠D∧g≠D∧H' a=some (.tup [.str (grow (TD Z0 U ts) (rm ts) n s0 ys j).1,.bl (grow (TD Z0 U ts) (rm ts) n s0 ys j).2.1,.ref g])∧H' g=some (.lst ((grow (TD Z0 U ts) (rm ts) n s0 ys j).2.2.map V.str)),⟨[],[],[],rfl,rfl,rfl,Nat.zero_le _,upd_same,Kp.of (Same.new hD),rfl,hr2.same (Same.new hD),by simp⟩,?_,?_,?_⟩
 · rintro i zs H' ⟨as,gs,ls',_,_,_,_,h,_⟩
   exact h
 · rintro zs H' ⟨as,gs,ls',rfl,e1,e2,_,hDD,kp,hln,hr3,hall⟩
   have ha3:=SqL_kp ha1 (kpM kp) ham
   refine ⟨⟨_,ha3,by rw [List.length_map];exact Nat.le_refl _⟩,?_⟩
   have hrl:=grows_len (T:=(TD Z0 U ts)) (R:=rm ts) (n:=n) (s0:=s0) (ys:=ys) (i:=ys.length)
   have hra:∀j,j < ys.length→(grows (TD Z0 U ts) (rm ts) n s0 ys ys.length)[j]?=some (grow (TD Z0 U ts) (rm ts) n s0 ys j):=fun j hj=>by unfold grows;rw [List.getElem?_map,List.getElem?_range hj];rfl
   refine q D as gs H' ((Kp.of sm1).trans (kpM kp)) hDD (fun i a hi=>?_) ⟨SqL.of hDD,by rw [e1,hrl],by rw [e2,hrl],fun i a g r h1 h2 h3=>?_⟩ hr3.h
   · have hil:i < as.length:=(List.getElem?_eq_some_iff.mp hi).1
     obtain ⟨_,_,_,_,k1,_⟩:=hall i a _ hi (List.getElem?_eq_getElem (show i < gs.length by omega))
     exact ⟨_,k1⟩
   · have hil:i < as.length:=(List.getElem?_eq_some_iff.mp h1).1
     obtain ⟨_,_,_,_,k1,k2⟩:=hall i a g h1 h2
     rw [hra i (by omega)]at h3
     cases h3
     exact ⟨SqT.of k1,SqL.of k2⟩
 · rintro i zs H' hi ⟨as,gs,ls',rfl,e1,e2,_,hDD,kp,hln,hr3,hall⟩
   have ha3:=SqL_kp ha1 (kpM kp) ham
   have hz:=List.getElem?_eq_getElem hi
   generalize ys[i]'hi=z at hz
   refine ⟨⟨_,V.str z,ha3,by rw [List.getElem?_map,hz];rfl⟩,fun x H3 ⟨e3,ex⟩=>?_⟩
   subst e3
   have hx:=ex _ ha3
   rw [List.getElem?_map,hz]at hx
   cases hx
   have hsi:=gst_inv (T:=TD Z0 U ts) (R:=rm ts) hi0 hin hrm i (by omega)
   have hzm:=List.mem_of_getElem? hz
   have e1':=Nat.le_of_eq e1
   have e1'':=Nat.le_of_eq e1.symm
   have e2':=Nat.le_of_eq e2
   have e2'':=Nat.le_of_eq e2.symm
   clear e1 e2
   have hrowi:=grow_at (T:=(TD Z0 U ts)) (R:=rm ts) (n:=n) (s0:=s0) hz
   have hss:=gst_succ (T:=(TD Z0 U ts)) (R:=rm ts) (n:=n) (s0:=s0) hz
   have hpair:(gst (TD Z0 U ts) (rm ts) n s0 ys i)=((gst (TD Z0 U ts) (rm ts) n s0 ys i).1,lyN ls')∧True:=⟨by rw [hln],trivial⟩
   walk_at "go"
   refine ⟨H0,p,d,M,n,U,ts,ls',_,hr3,by rw [hln];exact hsi.i,nd,htl,hin z hzm,hrm z hzm,Nat.le_trans (gst_cnt (T:=TD Z0 U ts) (R:=rm ts) (n:=n) (s0:=s0) (ys:=ys) i (by omega)) (by show s0.rs.length+i≤299;omega),fun t g ls2 H4 kp4 ht hg ht4 hg4 hln4 hr4=>?_⟩
   rw [← hpair.1]at ht4 hg4 hln4 hr4
   have hD3:D∉d::M:=hr2.free hD
   have hDD4:=kp4 _ _ hD3 hDD
   have htD:t≠D:=fun e=>by rw [e,hDD]at ht;cases ht
   have hgD:g≠D:=fun e=>by rw [e,hDD]at hg;cases hg
   refine compNext hDD4 (by rw [List.length_map];omega) hi ⟨as++[t],by rw [List.map_append];rfl,by rw [List.length_append];simp only [List.length_cons,List.length_nil];omega,gs++[g],by rw [List.length_append];simp only [List.length_cons,List.length_nil];omega,hi,upd_same,kp_new (kp.trans kp4) hD,ls2,by rw [hss];exact hln4,?_,fun j a' g' h1 h2=>?_⟩
   · rw [hss]
     exact hr4.lst (fun b o e nb=>by rw [upd_ne nb];exact e) hDD4 (fun h=>hD3 (List.mem_cons_of_mem _ h)) (same_none hr2.sm hD)
   · rcases at_snoc h1 with ⟨l1,c1⟩ | ⟨l1,c1⟩
     · rcases at_snoc h2 with ⟨l2,c2⟩ | ⟨l2,c2⟩
       · obtain ⟨n1,n2,n3,n4,k1,k2⟩:=hall j a' g' c1 c2
         refine ⟨n1,n2,n3,n4,?_,?_⟩
         · rw [upd_ne n3];exact kp4 _ _ n1 k1
         · rw [upd_ne n4];exact kp4 _ _ n2 k2
       · omega
     · rcases at_snoc h2 with ⟨l2,c2⟩ | ⟨l2,c2⟩
       · omega
       · rw [c1,c2,show j=i by omega,hrowi]
         refine ⟨hr3.free ht,hr3.free hg,htD,hgD,?_,?_⟩
         · rw [upd_ne htD];exact ht4
         · rw [upd_ne hgD];exact hg4
theorem Z2s{f:Addr}{fd:FuncData}(F:Fun K "earlier_asks" "earlier_asks" Z0d f fd)(T:Txt K mg Z1 Z2 Z3 Z0):FnOk P w K mg base CX0 1 f fd ["asks"] (sp32_early K):=by
 have sc:FnScope ["asks","last","told","number","name"] ["asks"] (defScope Z0d):=by walk_at "sc"
 refine F.ok sc (fun vs H Q E h=>?_) (fun cdv A outer s H vs Q E hr h=>?_)
 · obtain ⟨_,_,rfl,_⟩:=h;rfl
 obtain ⟨a,ys,rfl,hS,hl,q⟩:=h
 refine ⟨_,(@pss_cons _ _ _ _ _ (ps_set (i:=1) sc.nd rfl (Or.inl rfl) pe_dnewK)
  (@pss_cons _ _ _ _ _ (ps_set (i:=2) sc.nd rfl (Or.inl rfl) (@pe_lst _ _ _ _ pa_nil))
  (@pss_cons _ _ _ _ _ (ps_for PassesOwn.never rfl (pi_enum rfl T.Zp (pa_cons (pv 0) pa_nil)) (pg_tup rfl (pgs_cons (pg_name (i:=3) sc.nd rfl (Or.inl rfl)) (pgs_cons (pg_name (i:=4) sc.nd rfl (Or.inl rfl)) pgs_nil)))
   (@pss_cons _ _ _ _ _ (ps_expr (pe_bm PySem.F.plainAttrs_list PySem.F.slot_list_append PySem.F.type_list_append mt_append (pv 2) (pa_cons (pe_dget1 (hu_of hr) (pv 1) (pv 4) ⟨rfl,rfl,rfl,rfl⟩) pa_nil)))
   (@pss_one _ _ _ (ps_dput (hu_of hr) (pv 1) (pv 4) (pv 3) rfl))))
  (@pss_one _ _ _ (@ps_ret _ _ _ _ (pv 2)))))),?_⟩
 walk_at "st"
 have line:=line_val
 walk_at "go"
 intro d hd
 walk_at "go"
 intro p hp
 walk_at "go"
 have ndp:d≠p:=ne_of_none upd_same hp
 have sm0:Same H (upd (upd H d (.dK [])) p (.lst [])):=(Same.new hd).trans (Same.new hp)
 have hd0:upd (upd H d (.dK [])) p (.lst []) d=some (.dK []):=by rw [upd_ne ndp];exact upd_same
 have hp0:upd (upd H d (.dK [])) p (.lst []) p=some (.lst []):=upd_same
 have hpH:=none_of (Same.new hd) hp
 generalize upd (upd H d (.dK [])) p (.lst [])=H1 at sm0 hd0 hp0 ⊢
 clear hp
 refine ⟨⟨_,sm0.seq hS⟩,?_⟩
 rename_i rest hrest
 refine forE_by (xs:=ys.map V.str) (fun i σ H'=>∃(kvs:List (Key×V)) (v3 v4:Option V),σ=[some (V.ref a),some (V.ref d),some (V.ref p),v3,v4]∧Same H H'∧H' d=some (.dK kvs)∧kvs.length≤i∧(∀z,valV kvs (Sum.inr z)=(lastIx ys z i).map fun j=>V.int (j:Int))∧H' p=some (.lst ((List.range i).map (earV ys))))
  ⟨[],none,none,rfl,sm0,hd0,Nat.le_refl _,fun z=>rfl,hp0⟩ (fun i σ H' _ ⟨kvs,v3,v4,_,sm,_⟩=>sm.seq hS) ?_ ?_
 · rintro i x σ H' t hx ⟨kvs,v3,v4,rfl,sm,g1,g2,g3,g4⟩ ht
   rw [List.getElem?_map]at hx
   cases hy:ys[i]? with
   | none=>rw [hy]at hx;cases hx
   | some y=>
    rw [hy]at hx
    cases hx
    have hyD:ys.getD i Str.empty=y:=by rw [List.getD_eq_getElem?_getD,hy];rfl
    have hil:i < ys.length:=(List.getElem?_eq_some_iff.mp hy).1
    walk_at "go"
    refine ⟨_,SqT.of upd_same,rfl,_,_,rfl,_,_,rfl,rfl,?_⟩
    have smt:Same H' (upd H' t (.tup [.int i,.str y])):=Same.new ht
    have sm2:=sm.trans smt
    have f1:=smt _ _ g1
    have f4:=smt _ _ g4
    generalize upd H' t (.tup [.int i,.str y])=H2 at sm2 f1 f4 ⊢
    clear smt ht g1 g4 sm
    walk_at "go"
    refine ⟨.inl ⟨rfl,_,SqL.of f4⟩,.inl ⟨kvs,.inl f1⟩,_,DGet.k (k:=Sum.inr y) f1,?_⟩
    refine ⟨p,_,_,rfl,rfl,f4,by rw [List.length_map,List.length_range];omega,?_⟩
    rw [g3 y,← hyD,ear_val]
    walk_at "go"
    have f1':upd H2 p (.lst ((List.range i).map (earV ys)++[earV ys i])) d=some (.dK kvs):=by rw [upd_ne ndp];exact f1
    refine ⟨_,DPut.k (k:=Sum.inr (ys.getD i Str.empty)) f1' (by omega),same_upd (same_upd sm2 hpH) hd,_,upd_same,?_,last_put g3,?_⟩
    · have:=length_putK kvs (Sum.inr (ys.getD i Str.empty):Key) (V.int (i:Int));omega
    · rw [upd_ne ndp.symm,upd_same,List.range_succ,List.map_append];rfl
 · rintro σ H' ⟨kvs,v3,v4,rfl,sm,g1,g2,g3,g4⟩
   rw [List.length_map]at g4
   walk_at "go"
   exact q p _ hpH sm g4
theorem Z2t{f:Addr}{fd:FuncData}(F:Fun K "check_prices" "check_prices" Z0e f fd)(T:Txt K mg Z1 Z2 Z3 Z0):FnOk P w K mg base CX0 1 f fd ["asks","prices"] (sp41_prices K):=by
 have sc:FnScope ["asks","prices","top","bottom"] ["asks","prices"] (defScope Z0e):=by walk_at "sc"
 refine F.ok sc (fun vs H Q E h=>?_) (fun cdv A outer s H vs Q E hr h=>?_)
 · obtain ⟨_,_,_,_,rfl,_⟩:=h;rfl
 obtain ⟨a,p,ys,ps,rfl,hS,hP,hl,hq,q⟩:=h
 refine ⟨_,(@pss_cons _ _ _ _ _ (ps_if (pt_cmpR op_ne (pe_callB call_len_seq rfl T.Zr PySem.boot_len (pa_cons (pv 1) pa_nil)) (pe_callB call_len_seq rfl T.Zr PySem.boot_len (pa_cons (pv 0) pa_nil)) (nomark _))
  (@pss_one _ _ _ ps_never)
  pss_nil)
  (@pss_one _ _ _ (ps_for PassesOwn.never rfl (pi_list (pv 1)) (pg_tup rfl (pgs_cons (pg_name (i:=2) sc.nd rfl (Or.inl rfl)) (pgs_cons (pg_name (i:=3) sc.nd rfl (Or.inl rfl)) pgs_nil)))
   (@pss_one _ _ _ (ps_if (pt_cmpR op_lt (pv 2) pe_int (nomark _))
    (@pss_one _ _ _ ps_never)
    pss_nil))))),?_⟩
 walk_at "st"
 have line:=line_val
 obtain ⟨as,h1,h2,h3⟩:=hP.ex
 walk_at "go"
 rw [if_neg (by rw [List.length_map,List.length_map];omega)]
 rename_i rest hrest
 subst hrest
 walk_at "go"
 refine ⟨⟨_,h1⟩,?_⟩
 refine forL_by (xs:=as.map V.ref) (fun i σ H'=>∃(v2 v3:Option V),σ=[some (V.ref a),some (V.ref p),v2,v3]∧H'=H) ⟨none,none,rfl,rfl⟩ (fun i σ H' _ h_=>by obtain ⟨v2,v3,_,rfl⟩:=h_;exact h1) ?_ ?_
 · rintro i v σ H' hv ⟨v2,v3,rfl,rfl⟩
   have hi:i < as.length:=by
    have:=(List.getElem?_eq_some_iff.mp hv).1
    rw [List.length_map]at this;exact this
   obtain ⟨qq,hqq⟩:∃qq,ps[i]?=some qq:=⟨_,List.getElem?_eq_getElem (by omega)⟩
   rw [List.getElem?_map,List.getElem?_eq_getElem hi]at hv
   cases hv
   have ht:=h3 i _ qq (List.getElem?_eq_getElem hi) hqq
   have h0:=hq qq (List.mem_of_getElem? hqq)
   walk_at "go"
   refine ⟨_,ht,rfl,_,_,rfl,_,_,rfl,rfl,?_⟩
   walk_at "go"
   rw [if_neg (by omega)]
   trivial
 · rintro σ H' ⟨v2,v3,rfl,rfl⟩
   walk_at "go"
   exact q
theorem Z2k{f:Addr}{fd:FuncData}(F:Fun K "common_bottom" "common_bottom" Z0a f fd)(T:Txt K mg Z1 Z2 Z3 Z0)(Zs:Def P w K mg base CX0 1 "divisor_of" ["one","other"] (sp41_div)):FnOk P w K mg base CX0 2 f fd ["ratios"] (sp58_common K):=by
 have sc:FnScope ["ratios","told","top","bottom"] ["ratios"] (defScope Z0a):=by walk_at "sc"
 refine F.ok sc (fun vs H Q E h=>?_) (fun cdv A outer s H vs Q E hr h=>?_)
 · obtain ⟨_,_,_,rfl,_⟩:=h;rfl
 obtain ⟨p,ps,U,rfl,hP,hU,hUb,hq,q⟩:=h
 refine ⟨_,(@pss_cons _ _ _ _ _ (ps_set (i:=1) sc.nd rfl (Or.inl rfl) pe_int)
  (@pss_cons _ _ _ _ _ (ps_for PassesOwn.never rfl (pi_list (pv 0)) (pg_tup rfl (pgs_cons (pg_name (i:=2) sc.nd rfl (Or.inl rfl)) (pgs_cons (pg_name (i:=3) sc.nd rfl (Or.inl rfl)) pgs_nil)))
   (@pss_one _ _ _ (ps_set (i:=1) sc.nd rfl (Or.inl rfl) (pe_op op_mulH (pe_op op_fdivH (pv 1) (pe_callD Zs hr rfl pass0 (pa_cons (pv 1) (pa_cons (pv 3) pa_nil)))) (pv 3)))))
  (@pss_one _ _ _ (@ps_ret _ _ _ _ (pv 1))))),?_⟩
 walk_at "st"
 have line:=line_val
 obtain ⟨as,h1,h2,h3⟩:=hP.ex
 walk_at "go"
 refine ⟨⟨_,h1⟩,?_⟩
 refine forL_by (xs:=as.map V.ref) (fun i σ H'=>∃(S:Int) (v2 v3:Option V),σ=[some (V.ref p),some (V.int S),v2,v3]∧H'=H∧0 < S∧S ∣ U∧∀j q,j < i→ps[j]?=some q→q.2 ∣ S) ⟨1,none,none,rfl,rfl,by decide,Int.one_dvd U,fun j q h=>by omega⟩ (fun i σ H' _ h_=>by obtain ⟨S,v2,v3,_,rfl,_⟩:=h_;exact h1) ?_ ?_
 · rintro i v σ H' hv ⟨S,v2,v3,rfl,rfl,hS,hSU,hall⟩
   have hi:i < as.length:=by
    have:=(List.getElem?_eq_some_iff.mp hv).1
    rw [List.length_map]at this;exact this
   obtain ⟨qq,hqq⟩:∃qq,ps[i]?=some qq:=⟨_,List.getElem?_eq_getElem (by omega)⟩
   rw [List.getElem?_map,List.getElem?_eq_getElem hi]at hv
   cases hv
   have ht:=h3 i _ qq (List.getElem?_eq_getElem hi) hqq
   obtain ⟨hb,hbU⟩:=hq qq (List.mem_of_getElem? hqq)
   obtain ⟨l1,l2,l3,l4⟩:=lcm_step hS hb hSU hbU
   obtain ⟨g1,g2,g3,g4,g5⟩:=gcd_bounds hS hb
   have hSl:=Int.le_of_dvd hU hSU
   have hbl:=Int.le_of_dvd hU hbU
   walk_at "go"
   refine ⟨_,ht,rfl,_,_,rfl,_,_,rfl,rfl,qq.2,rfl,by omega,by omega,qq.2,rfl,⟨by omega,by omega⟩,l1,l2,fun j q2 hj hq2=>?_⟩
   by_cases e:j < i
   · exact Int.dvd_trans (hall j q2 e hq2) l4
   · have ej:j=i:=by omega
     rw [ej,hqq]at hq2
     cases hq2
     exact l3
 · rintro σ H' ⟨S,v2,v3,rfl,rfl,hS,hSU,hall⟩
   walk_at "go"
   refine q S hS hSU fun qq hqq=>?_
   obtain ⟨j,hj⟩:=List.mem_iff_getElem?.mp hqq
   exact hall j qq (by rw [List.length_map,h2];exact (List.getElem?_eq_some_iff.mp hj).1) hj
theorem Z3r{f:Addr}{fd:FuncData}(F:Fun K "floor_of" "floor_of" Z1p f fd)(T:Txt K mg Z1 Z2 Z3 Z0)(Zu:Def P w K mg base CX0 4 "check_asks" ["stock","asks","places"] (N41.sp41_asks K Z1))(Z0f:Def P w K mg base CX0 1 "check_prices" ["asks","prices"] (sp41_prices K))(Z0b:Def P w K mg base CX0 2 "common_bottom" ["ratios"] (sp58_common K))(Z0g:Def P w K mg base CX0 1 "earlier_asks" ["asks"] (sp32_early K))(Z4:DefM P w K mg base CX0 2 Z1 "room_of" ["self","name"] (sp32_room K Z1))(Zk:DefM P w K mg base CX0 2 Z1 "cost_of" ["self","name"] (sp41_cost K Z1))(Ze:Def P w K mg base CX0 2 "ratio_of" ["top","bottom"] (sp57_ratio)):FnOk P w K mg base CX0 5 f fd ["stock","asks","places","prices"] (sp58_floor K Z1):=by
 have sc:FnScope ["stock","asks","places","prices","common","tops","told","number","earlier","room","least"] ["stock","asks","places","prices"] (defScope Z1p):=by walk_at "sc"
 refine F.ok sc (fun vs H Q E h=>?_) (fun cdv A outer s H vs Q E hr h=>?_)
 · obtain ⟨_,_,_,_,_,_,_,_,rfl,_⟩:=h;rfl
 obtain ⟨p,a,pr,P,U,ts,ys,ps,rfl,hs,nd,hS,hl,hin,hw,hP1,hP2,hcr,hP,hpl,hU,hUb,hq,q⟩:=h
 refine ⟨_,(@pss_cons _ _ _ _ _ (ps_expr (pe_callD Zu hr rfl pass0 (pa_cons (pv 0) (pa_cons (pv 1) (pa_cons (pv 2) pa_nil)))))
  (@pss_cons _ _ _ _ _ (ps_expr (pe_callD Z0f hr rfl pass0 (pa_cons (pv 1) (pa_cons (pv 3) pa_nil))))
  (@pss_cons _ _ _ _ _ (ps_set (i:=4) sc.nd rfl (Or.inr rfl) (pe_callD Z0b hr rfl pass0 (pa_cons (pv 3) pa_nil)))
  (@pss_cons _ _ _ _ _ (ps_comp2 (i:=5) "top" "bottom" [4] sc.nd rfl rfl rfl rfl (pi_list (pv 3)) (fun b=>(pe_op op_mulH (pv 0) (pe_op op_fdivH (pv 2) (pv 1)))))
  (@pss_cons _ _ _ _ _ (ps_set (i:=6) sc.nd rfl (Or.inl rfl) pe_int)
  (@pss_cons _ _ _ _ _ (ps_for PassesOwn.never rfl (pi_enum rfl T.Zp (pa_cons (pe_callD Z0g hr rfl pass0 (pa_cons (pv 1) pa_nil)) pa_nil)) (pg_tup rfl (pgs_cons (pg_name (i:=7) sc.nd rfl (Or.inl rfl)) (pgs_cons (pg_name (i:=8) sc.nd rfl (Or.inl rfl)) pgs_nil)))
   (@pss_cons _ _ _ _ _ (ps_set (i:=9) sc.nd rfl (Or.inl rfl) (pe_methS Z4 T.Z8 hr (passS pass0) (pv 0) (pa_cons (@pe_ix _ _ _ _ _ _ _ ix_list (pv 1) (pv 7) (fun _ _=>rfl)) pa_nil)))
   (@pss_cons _ _ _ _ _ (ps_set (i:=10) sc.nd rfl (Or.inl rfl) (pe_op op_mulH (pe_methS Zk T.Z8 hr (passS pass0) (pv 0) (pa_cons (@pe_ix _ _ _ _ _ _ _ ix_list (pv 1) (pv 7) (fun _ _=>rfl)) pa_nil)) (pv 4)))
   (@pss_cons _ _ _ _ _ (ps_if (pt_cmpR op_notN (pv 8) pe_non (nomark _))
    (@pss_one _ _ _ (ps_set (i:=10) sc.nd rfl (Or.inl rfl) (pe_callB (call_min2 rfl) rfl T.Z2q (by first | rfl | decide+kernel) (pa_cons (pv 10) (pa_cons (pe_op op_mulH (pv 9) (pe_callB (call_sumL rfl) rfl T.Z17 (by first | rfl | decide+kernel) (pa_cons (pe_slice sl_list (pv 5) (po_some (pe_op op_add (pv 8) pe_int)) (po_some (pv 7))) pa_nil))) pa_nil)))))
    pss_nil)
   (@pss_one _ _ _ (ps_aug (i:=6) sc.nd rfl (Or.inl rfl) (pe_op op_sub (pv 10) (pe_op op_mulH (@pe_ix _ _ _ _ _ _ _ ix_list (pv 5) (pv 7) (fun _ _=>rfl)) (pe_op op_sub (pv 2) (pv 9)))) ip_add))))))
  (@pss_one _ _ _ (@ps_ret _ _ _ _ (pe_callD Ze hr rfl pass0 (pa_cons (pv 6) (pa_cons (pv 4) pa_nil))))))))))),?_⟩
 walk_at "st"
 have line:=line_val
 walk_at "go"
 refine ⟨ts,hs,nd,ys,hS,hl,hin,hw,hP1,hP2,fun H1 sm1=>?_⟩
 have hS1:=sm1.seq hS
 have hs1:=StockAt.same sm1 hs
 have hP1':=hP.same sm1
 walk_at "go"
 refine ⟨ys,hS1,ps,hP1',hpl,(fun q hq'=>(hq q hq').1),?_⟩
 walk_at "go"
 refine ⟨ps,hP1',U,hU,hUb,(fun q hq'=>(hq q hq').2.2),fun S hS0 hSU hSall=>?_⟩
 have hSl:=Int.le_of_dvd hU hSU
 walk_at "go"
 obtain ⟨as,g1,g2,g3⟩:=hP1'.ex
 have hT:∀t∈topsOf S ps,0≤t∧t≤10 ^ 420:=fun t ht=>by
  unfold topsOf at ht
  obtain ⟨qq,hqq,rfl⟩:=List.mem_map.mp ht
  obtain ⟨a1,a2,a3,a4⟩:=hq qq hqq
  obtain ⟨b1,b2⟩:=fdiv_in hS0 a3
  exact topw a1 a2 b1 (by omega)
 have hTl:(topsOf S ps).length=ys.length:=by rw [tops_len];exact hpl
 refine ⟨⟨_,g1⟩,?_⟩
 refine compL_2 (fun i=>V.int (ps.getD i (0,1)).1) (fun i=>V.int (ps.getD i (0,1)).2) (fun _=>true) (fun i=>V.int ((topsOf S ps).getD i 0)) g1 (by omega) (fun i c hc=>?_) (fun b i H2 QT hi sm qt=>?_) (fun b i H2 Q' hi _ sm q'=>?_) fun D H2 hD sm2 hD2=>?_
 · have hi:=(List.getElem?_eq_some_iff.mp hc).1
   exact g3 i c _ hc (by rw [List.getD_eq_getElem?_getD,List.getElem?_eq_getElem (by omega)];rfl)
 · exact qt H2 (Same.refl H2)
 · have hpi:ps[i]?=some (ps.getD i (0,1)):=by rw [List.getD_eq_getElem?_getD,List.getElem?_eq_getElem (by omega)];rfl
   rw [tops_get hpi]at q'
   obtain ⟨a1,a2,a3,a4⟩:=hq _ (List.mem_of_getElem? hpi)
   obtain ⟨b1,b2⟩:=fdiv_in hS0 a3
   have a5:=Int.le_of_dvd hU a4
   generalize ps.getD i (0,1)=qq at q' a1 a2 a3 a4 b1 b2 a5 ⊢
   walk_at "go"
   have n1:qq.2.natAbs < 10 ^ 1000:=nat_lt (a:=180) (by omega) (by omega) (by decide)
   have n2:qq.1.natAbs < 10 ^ 1000:=nat_lt (a:=240) a1 a2 (by decide)
   have n3:(S.fdiv qq.2).natAbs < 10 ^ 1000:=nat_lt (a:=180) b1 (by omega) (by decide)
   exact ⟨⟨n2,n3⟩,q' _ (Same.refl H2)⟩
 rw [tops_list (by rw [g2])]at hD2
 have sm02:=sm1.trans sm2
 have hS2:=sm2.seq hS1
 have hs2:=StockAt.same sm2 hs1
 have q1:=fun p' H'=>q S p' H' hS0 hSU hSall
 clear hS1 hs1 hP1' g1 g2 g3 sm1 sm2 hP hSall hS hs q
 generalize topsOf S ps=T' at hT hTl hD2 q1 ⊢
 rename_i rest hrest
 subst hrest
 walk_at "go"
 refine ⟨ys,hS2,hl,fun e H3 hen sm3 he3=>?_⟩
 have hS3:=sm3.seq hS2
 have hs3:=StockAt.same sm3 hs2
 have hD3:=sm3 _ _ hD2
 have sm03:=sm02.trans sm3
 clear hS2 hs2 hD2 sm02 sm3
 refine ⟨⟨_,SqL.of he3⟩,?_⟩
 refine forE_by (xs:=(List.range ys.length).map (earV ys)) (fun i σ H'=>∃(v7 v8 v9 v10:Option V),σ=[some (V.ref p),some (V.ref a),some (V.int P),some (V.ref pr),some (V.int S),some (V.ref D),some (V.int (fl (cst ts) (rm ts) T' S P ys i)),v7,v8,v9,v10]∧Same H3 H') ⟨none,none,none,none,rfl,Same.refl H3⟩ (fun i σ H' _ h_=>by obtain ⟨_,_,_,_,_,sm⟩:=h_;exact SqL.of (sm _ _ he3)) ?_ ?_
 · rintro i x σ H' t hx ⟨v7,v8,v9,v10,rfl,sm⟩ ht
   have hi:i < ys.length:=by
    have:=(List.getElem?_eq_some_iff.mp hx).1
    rw [List.length_map,List.length_range]at this;exact this
   rw [List.getElem?_map,List.getElem?_range hi]at hx
   cases hx
   have hyy:ys.getD i Str.empty∈ys:=by rw [List.getD_eq_getElem?_getD,List.getElem?_eq_getElem hi];exact List.getElem_mem hi
   have hyts:=hin _ hyy
   obtain ⟨c0,c1,r1⟩:=hcr _ hyy
   have r2:=hw _ hyy
   have hg:atI (ys.map V.str) (i:Int)=some (V.str (ys.getD i Str.empty)):=by
    refine atI_nat ?_
    rw [List.getElem?_map,List.getD_eq_getElem?_getD,List.getElem?_eq_getElem hi];rfl
   have hTi:0≤T'.getD i 0∧T'.getD i 0≤10 ^ 420:=hT _ (by rw [List.getD_eq_getElem?_getD,List.getElem?_eq_getElem (by omega)];exact List.getElem_mem (by omega))
   have hgT:atI (T'.map V.int) (i:Int)=some (V.int (T'.getD i 0)):=atI_nat (getMap (by omega))
   walk_at "go"
   refine ⟨_,SqT.of upd_same,rfl,_,_,rfl,_,_,rfl,rfl,?_⟩
   have sm2:=sm.trans (Same.new (o:= .tup [.int i,earV ys i]) ht)
   generalize upd H' t (.tup [.int i,earV ys i])=H6 at sm2 ⊢
   clear sm ht
   have hS6:=sm2.seq hS3
   have hs6:=StockAt.same sm2 hs3
   have hD6:=sm2 _ _ hD3
   obtain ⟨dx',d',kvs',g1,g2,_⟩:=StockAt.has hs6
   walk_at "go"
   refine ⟨dx',flds d',g1,by rfl,?_⟩
   refine ixL_of hS6 hg ⟨ts,_,rfl,hs6,nd,hyts,?_⟩
   walk_at "go"
   refine ⟨dx',flds d',g1,by rfl,?_⟩
   refine ixL_of hS6 hg ⟨ts,_,rfl,hs6,nd,hyts,⟨nat_lt (a:=30) c0 c1 (by decide),nat_lt (a:=180) (by omega) (by omega) (by decide)⟩,?_⟩
   rename_i rest hrest
   subst hrest
   walk_at "go"
   rename_i rest2 hrest2
   have key:∀(L:Int) (H7:Hp),Same H3 H7→leastAt (cst ts) (rm ts) T' S ys i=L→rest2 [some (V.ref p),some (V.ref a),some (V.int P),some (V.ref pr),some (V.int S),some (V.ref D),some (V.int (fl (cst ts) (rm ts) T' S P ys i)),some (V.int i),some (earV ys i),some (V.int (rm ts (ys.getD i Str.empty))),some (V.int L)] H7:=by
    intro L H7 sm7 eL
    rw [← eL]
    clear eL
    subst hrest2
    walk_at "go"
    refine ixL_of (SqL.of (sm7 _ _ hD3)) hgT ?_
    walk_at "go"
    exact ⟨⟨nat_lt (a:=420) hTi.1 hTi.2 (by decide),nat_lt (a:=10) (by omega) (by omega) (by decide)⟩,rfl,sm7⟩
   clear hrest2
   have hsg:=segw hT (by omega) (a:=0) (b:=i)
   cases he:ear ys i with
   | none=>
    have e1:earV ys i= .non:=by unfold earV;rw [he];rfl
    rw [if_neg (by rw [e1];simp)]
    exact key _ H6 sm2 (by unfold leastAt;rw [he])
   | some b=>
    have e1:earV ys i= .int b:=by unfold earV;rw [he];rfl
    have hb:=(last_lt he).1
    have hsg:=segw hT (by omega) (a:=b+1) (b:=i)
    rw [if_pos (by rw [e1];simp)]
    refine ⟨b,e1,_,SqL.of hD6,fun p1 hp1=>?_⟩
    rw [show ((b:Int)+1)=((b+1:Nat):Int) by omega,cut_seg (by omega) (by omega)]
    have hm:=mul_in (r:=rm ts (ys.getD i Str.empty)) (m:=seg T' (b+1) i) (by omega) (by omega) hsg.1
    refine ⟨(T'.take i).drop (b+1),SqL.of upd_same,⟨nat_lt (a:=10) (by omega) (by omega) (by decide),nat_lt (x:=seg T' (b+1) i) (a:=423) hsg.1 hsg.2 (by decide)⟩,?_⟩
    rw [min_if]
    exact key _ _ (sm2.trans (Same.new hp1)) (by unfold leastAt;rw [he];rfl)
 · rintro σ H' ⟨v7,v8,v9,v10,rfl,sm⟩
   rw [List.length_map,List.length_range]
   walk_at "go"
   intro p' hp'
   refine q1 p' _ (sm03.trans (sm.trans (Same.new hp'))) ?_ upd_same
   cases e:H p' with
   | none=>rfl
   | some o=>rw [sm _ _ (sm03 _ _ e)]at hp';cases hp'
theorem Z42{f:Addr}{fd:FuncData}(F:Fun K "_law_cell" "_law_cell" Z2e f fd)(T:Txt K mg Z1 Z2 Z3 Z0):FnOk P w K mg base CX0 1 f fd ["_law_script","_law_k"] (sp_cell K):=by
 have sc:FnScope ["_law_script","_law_k"] ["_law_script","_law_k"] (defScope Z2e):=by walk_at "sc"
 refine F.ok sc (fun vs H Q E h=>?_) (fun cdv A outer s H vs Q E hr h=>?_)
 · obtain ⟨_,_,_,rfl,_⟩:=h;rfl
 obtain ⟨a,ns,k,rfl,hS,h0,hl,q⟩:=h
 refine ⟨_,(@pss_cons _ _ _ _ _ (ps_if (pt_cmpR op_lt (pv 1) (pe_callB call_len_seq rfl T.Zr PySem.boot_len (pa_cons (pv 0) pa_nil)) (nomark _))
  (@pss_one _ _ _ (@ps_ret _ _ _ _ (@pe_ix _ _ _ _ _ _ _ ix_list (pv 0) (pv 1) (fun _ _=>rfl))))
  pss_nil)
  (@pss_one _ _ _ (@ps_ret _ _ _ _ pe_int))),?_⟩
 walk_at "st"
 walk_at "go"
 rw [List.length_map]
 split
 · rename_i hk
   exact ixL_of hS (atI_of h0 (getMap (by omega))) q
 · rename_i hk
   rw [List.getD_eq_getElem?_getD,List.getElem?_eq_none (by omega)]at q
   walk_at "go"
   exact q
theorem Z3s{f:Addr}{fd:FuncData}(F:Fun K "_law_stream" "_law_stream" Z1q f fd)(T:Txt K mg Z1 Z2 Z3 Z0):FnOk P w K mg base CX0 1 f fd ["_law_cell_here","_law_many"] (sp20_stream):=by
 have sc:FnScope ["_law_cell_here","_law_many","_law_found","_law_number","_law_k"] ["_law_cell_here","_law_many"] (defScope Z1q):=by walk_at "sc"
 refine F.ok sc (fun vs H Q E h=>?_) (fun cdv A outer s H vs Q E hr h=>?_)
 · obtain ⟨_,_,rfl,_⟩:=h;rfl
 obtain ⟨c,m,rfl,hm,q⟩:=h
 refine ⟨_,(@pss_cons _ _ _ _ _ (ps_set (i:=2) sc.nd rfl (Or.inl rfl) (@pe_lst _ _ _ _ pa_nil))
  (@pss_cons _ _ _ _ _ (ps_set (i:=3) sc.nd rfl (Or.inl rfl) (pe_op op_add (pe_op op_mod (pv 0) pe_int) pe_int))
  (@pss_cons _ _ _ _ _ (ps_for PassesOwn.never rfl (pi_range1 rfl T.Zz (pa_cons (pv 1) pa_nil)) (pg_name (i:=4) sc.nd rfl (Or.inl rfl))
   (@pss_cons _ _ _ _ _ (ps_set (i:=3) sc.nd rfl (Or.inl rfl) (pe_op op_mod (pe_op op_add (pe_op op_add (pe_op op_mul (pv 3) pe_int) (pe_op op_mul pe_int (pv 4))) pe_int) pe_int))
   (@pss_one _ _ _ (ps_expr (pe_bm PySem.F.plainAttrs_list PySem.F.slot_list_append PySem.F.type_list_append mt_append (pv 2) (pa_cons (pe_op op_fdiv (pv 3) pe_int) pa_nil))))))
  (@pss_one _ _ _ (@ps_ret _ _ _ _ (pv 2)))))),?_⟩
 walk_at "st"
 have line:=line_val
 have hx0:=Int.emod_nonneg c (show (2147483629:Int)≠0 by decide)
 have hx1:=Int.emod_lt_of_pos c (show (0:Int) < 2147483629 by decide)
 walk_at "go"
 intro p hp
 rename_i rest hrest
 subst hrest
 walk_at "go"
 refine forR_by (fun k σ H'=>∃(nu:Int) (v4:Option V) (xs:List Int),σ=[some (V.int c),some (V.int m),some (V.ref p),some (V.int nu),v4]∧0≤nu∧nu < 10 ^ 10∧H'=upd H p (.lst (xs.map V.int))∧xs.length≤k∧k≤xs.length∧∀x∈xs,0≤x) ⟨_,none,[],rfl,by omega,by omega,rfl,Nat.le_refl _,Nat.le_refl _,by simp⟩ ?_ ?_
 · rintro k σ H' hk ⟨nu,v4,xs,rfl,h0,h1,rfl,hl1,hl2,hxs⟩
   walk_at "go"
   have hy0:=Int.emod_nonneg (nu * 48271+7919 * (k:Int)+1) (show (2147483647:Int)≠0 by decide)
   have hy1:=Int.emod_lt_of_pos (nu * 48271+7919 * (k:Int)+1) (show (0:Int) < 2147483647 by decide)
   generalize (nu * 48271+7919 * (k:Int)+1) % 2147483647=u at hy0 hy1 ⊢
   refine ⟨.inl ⟨rfl,_,SqL.of upd_same⟩,cdiv_of (by decide) (by decide),p,_,_,rfl,rfl,upd_same,by rw [List.length_map];omega,by omega,by omega,xs++[u / 5],?_,by rw [List.length_append];simp only [List.length_cons,List.length_nil];omega,by rw [List.length_append];simp only [List.length_cons,List.length_nil];omega,fun x hx=>?_⟩
   · rw [upd_upd,List.map_append];rfl
   · rcases List.mem_append.mp hx with hx | hx
     · exact hxs x hx
     · rw [List.mem_singleton.mp hx];omega
 · rintro σ H' ⟨nu,v4,xs,rfl,h0,h1,rfl,hl1,hl2,hxs⟩
   walk_at "go"
   exact q p xs _ hp (Same.new hp) upd_same (by omega) hxs
theorem Z3y{f:Addr}{fd:FuncData}(F:Fun K "_law_names" "_law_names" Z21 f fd)(T:Txt K mg Z1 Z2 Z3 Z0):FnOk P w K mg base CX0 1 f fd ["_law_cell_here","_law_many"] (sp20_names):=by
 have sc:FnScope ["_law_cell_here","_law_many","_law_signs","_law_tail","_law_size","_law_at","_law_base","_law_names_here","_law_k","_law_sign"] ["_law_cell_here","_law_many"] (defScope Z21):=by walk_at "sc"
 refine F.ok sc (fun vs H Q E h=>?_) (fun cdv A outer s H vs Q E hr h=>?_)
 · obtain ⟨_,_,rfl,_⟩:=h;rfl
 obtain ⟨c,m,rfl,hm,q⟩:=h
 refine ⟨_,(@pss_cons _ _ _ _ _ (ps_set (i:=2) sc.nd rfl (Or.inr rfl) pe_str)
  (@pss_cons _ _ _ _ _ (ps_set (i:=3) sc.nd rfl (Or.inr rfl) (pe_bm PySem.F.plainAttrs_str PySem.F.slot_str_join PySem.F.type_str_join mt_join pe_str (pa_cons (pe_comp1 "_law_k" [2,0] rfl rfl (pi_range2 rfl T.Zz (pa_cons pe_int (pa_cons pe_int pa_nil))) (fun b=>(@pe_ix _ _ _ _ _ _ _ ix_str (pv 1) (pe_op op_mod (pe_op op_add (pe_op op_fdiv (pv 2) pe_int) (pe_op op_mulH (pe_op op_mul pe_int (pv 0)) (pv 0))) pe_int) (fun _ _=>rfl)))) pa_nil)))
  (@pss_cons _ _ _ _ _ (ps_if (pt_cmpR op_eq (pe_op op_mod (pv 0) pe_int) pe_int (nomark _))
   (@pss_one _ _ _ (@ps_ret _ _ _ _ (pe_comp1 "_law_k" [2,3,0] rfl rfl (pi_range1 rfl T.Zz (pa_cons (pv 1) pa_nil)) (fun b=>(pe_op op_add_str (@pe_ix _ _ _ _ _ _ _ ix_str (pv 1) (pe_op op_mod (pe_op op_add (pe_op op_fdiv (pv 3) pe_int) (pe_op op_fdiv (pv 0) pe_int)) pe_int) (fun _ _=>rfl)) (pe_slice sl_str (pv 2) po_none (po_some (pe_op op_mod (pv 0) pe_int))))))))
   pss_nil)
  (@pss_cons _ _ _ _ _ (ps_set (i:=4) sc.nd rfl (Or.inl rfl) (pe_op op_add pe_int (pe_op op_mod (pe_op op_fdiv (pv 0) pe_int) pe_int)))
  (@pss_cons _ _ _ _ _ (ps_set (i:=5) sc.nd rfl (Or.inl rfl) (pe_op op_mod (pe_op op_fdiv (pv 0) pe_int) (pv 4)))
  (@pss_cons _ _ _ _ _ (ps_set (i:=6) sc.nd rfl (Or.inl rfl) (pe_op op_add_str (@pe_ix _ _ _ _ _ _ _ ix_str (pv 2) (pe_op op_mod (pe_op op_fdiv (pv 0) pe_int) pe_int) (fun _ _=>rfl)) (pe_slice sl_str (pv 3) po_none (po_some (pe_op op_sub (pv 4) pe_int)))))
  (@pss_cons _ _ _ _ _ (ps_set (i:=7) sc.nd rfl (Or.inl rfl) (@pe_lst _ _ _ _ pa_nil))
  (@pss_cons _ _ _ _ _ (ps_for PassesOwn.never rfl (pi_range1 rfl T.Zz (pa_cons (pv 1) pa_nil)) (pg_name (i:=8) sc.nd rfl (Or.inl rfl))
   (@pss_cons _ _ _ _ _ (ps_set (i:=9) sc.nd rfl (Or.inl rfl) (@pe_ix _ _ _ _ _ _ _ ix_str (pv 2) (pe_op op_mod (pe_op op_add (pe_op op_fdiv (pv 0) pe_int) (pv 8)) pe_int) (fun _ _=>rfl)))
   (@pss_one _ _ _ (ps_expr (pe_bm PySem.F.plainAttrs_list PySem.F.slot_list_append PySem.F.type_list_append mt_append (pv 7) (pa_cons (pe_op op_add_str (pe_op op_add_str (pe_op op_add_str (pe_slice sl_str (pv 6) po_none (po_some (pv 5))) (pv 9)) (pe_slice sl_str (pv 6) (po_some (pe_op op_add (pv 5) pe_int)) po_none)) (pe_slice sl_str pe_str po_none (po_some (pe_op op_fdiv (pv 8) pe_int)))) pa_nil))))))
  (@pss_one _ _ _ (@ps_ret _ _ _ _ (pv 7))))))))))),?_⟩
 walk_at "st"
 have line:=line_val
 have bl:=both_length
 walk_at "go"
 refine compR_pure (n:=7) (fun k=>V.str ⟨#[bc ((c / 36+5 * k * k) % 36)]⟩) (by omega) (fun b k H' Q' hk sm q'=>?_) fun D hD=>?_
 · walk_at "go"
   refine ⟨⟨by omega,by omega⟩,by decide,ixS_of (by omega) (ix_bc _ (by decide) (by decide)) q'⟩
 have etl:(List.range 7).map (fun i:Nat=>V.str ⟨#[bc ((c / 36+5 * (1+(i:Int)) * (1+(i:Int))) % 36)]⟩)=(((List.range 7).map fun j:Nat=>bc ((c / 36+5 * (1+(j:Int)) * (1+(j:Int))) % 36)).map fun c=>(⟨#[c]⟩:Str)).map V.str:=by
  rw [List.map_map,List.map_map];rfl
 rw [etl]
 clear etl
 have htl:((List.range 7).map fun j:Nat=>bc ((c / 36+5 * (1+(j:Int)) * (1+(j:Int))) % 36)).length=7∧True:=⟨by rw [List.length_map,List.length_range],trivial⟩
 have hnm1:∀k,nm1 (c / 4) (fun j:Nat=>c / 36+5 * (1+(j:Int)) * (1+(j:Int))) k=bc ((c / 4+k / 8) % 26)::((List.range 7).map fun j:Nat=>bc ((c / 36+5 * (1+(j:Int)) * (1+(j:Int))) % 36)).take (k % 8):=fun k=>rfl
 have hnd:((List.range m).map fun k=>tx (nm1 (c / 4) (fun j:Nat=>c / 36+5 * (1+(j:Int)) * (1+(j:Int))) k)).Nodup:=tx_nodup fun a b ha hb e=>nm1_inj (by omega) (by omega) e
 have hnn:∀k,nameB (nm1 (c / 4) (fun j:Nat=>c / 36+5 * (1+(j:Int)) * (1+(j:Int))) k)=true:=fun k=>nm1_name
 have htc:∀x∈(List.range 7).map (fun j:Nat=>bc ((c / 36+5 * (1+(j:Int)) * (1+(j:Int))) % 36)),x∈letters++figures:=fun x hx=>by
  obtain ⟨j,_,rfl⟩:=List.mem_map.mp hx
  exact bc_both
 generalize nm1 (c / 4) (fun j:Nat=>c / 36+5 * (1+(j:Int)) * (1+(j:Int)))=N at hnm1 hnd hnn
 generalize (List.range 7).map (fun j:Nat=>bc ((c / 36+5 * (1+(j:Int)) * (1+(j:Int))) % 36))=tl at htl hnm1 htc ⊢
 have hsum:((tl.map fun c=>(⟨#[c]⟩:Str)).map (·.length)).sum≤7:=by
  rw [List.map_map,show ((·.length)∘fun c=>(⟨#[c]⟩:Str))=fun _=>1 from rfl,List.map_const',htl.1]
  decide
 refine ⟨D,rfl,tl.map fun c=>(⟨#[c]⟩:Str),SqL.of upd_same,?_,?_⟩
 · have e0:(Str.ofString "").length=0:=by decide+kernel
   rw [e0];omega
 rw [N20.join_ones]
 have smD:Same H (upd H D (.lst ((tl.map fun c=>(⟨#[c]⟩:Str)).map V.str))):=Same.new hD
 generalize upd H D (.lst ((tl.map fun c=>(⟨#[c]⟩:Str)).map V.str))=H1 at smD ⊢
 clear hD hsum
 rename_i rest hrest
 subst hrest
 walk_at "go"
 split
 · walk_at "go"
   have hzl:(tx tl).length=7∧True:=⟨by rw [T_len];exact htl.1,trivial⟩
   refine compR_pure (fun k=>V.str (tx (N k.toNat))) (by omega) (fun b k H' Q' hk sm q'=>?_) fun D hD=>?_
   · have hl7:=htl.1
     walk_at "go"
     refine ixS_of (by omega) (ix_bc _ (by decide) (by decide)) ⟨by decide,by omega,_,rfl,?_⟩
     rw [slice_to (by omega) (by omega)]
     refine ⟨by rw [len_one,T_len,List.length_take];omega,?_⟩
     rw [T_one,T_app,show ((k:Int) % 8).toNat=k % 8 by omega]
     rw [Int.zero_add,Int.toNat_natCast,hnm1]at q'
     exact q'
   · have e:(List.range m).map (fun k:Nat=>V.str (tx (N (0+(k:Int)).toNat)))=((List.range m).map fun k=>tx (N k)).map V.str:=by
      rw [List.map_map]
      refine List.map_congr_left fun k _=>?_
      rw [Int.zero_add,Int.toNat_natCast]
      rfl
     rw [e]
     refine q D ((List.range m).map fun k=>tx (N k)) _ (same_none smD hD) (smD.trans (Same.new hD)) upd_same (by simp) hnd fun y hy=>?_
     obtain ⟨k,_,rfl⟩:=List.mem_map.mp hy
     rw [T_list]
     exact hnn k
 · clear hnm1 hnd hnn N
   have hs1:1≤(1+c / 4 % 6).toNat:=by omega
   have hs6:(1+c / 4 % 6).toNat≤6:=by omega
   have h8:(1+c / 4 % 6)=((1+c / 4 % 6).toNat:Int):=by omega
   walk_at "go"
   rw [h8]
   clear h8
   generalize (1+c / 4 % 6).toNat=sz at hs1 hs6 ⊢
   have ha0:=Int.emod_nonneg (c / 24) (show (sz:Int)≠0 by omega)
   have ha1:=Int.emod_lt_of_pos (c / 24) (show (0:Int) < sz by omega)
   generalize c / 24 % (sz:Int)=at0 at ha0 ha1 ⊢
   obtain ⟨at',rfl⟩:∃at':Nat,at0=at':=⟨at0.toNat,by omega⟩
   have hl7:=htl.1
   have hzl:(tx tl).length=7∧True:=⟨by rw [T_len];exact htl.1,trivial⟩
   refine ixS_of (by omega) (ix_bc _ (by decide) (by decide)) ⟨by omega,_,rfl,?_⟩
   rw [slice_to (by omega) (by omega),show ((sz:Int) - 1).toNat=sz - 1 by omega]
   refine ⟨by rw [len_one,T_len,List.length_take];omega,?_⟩
   rw [T_one,T_app]
   have hBl:([bc (c / 36 % 26)]++tl.take (sz - 1)).length=sz∧True:=⟨by rw [List.length_append,List.length_take];simp only [List.length_cons,List.length_nil];omega,trivial⟩
   have hBc:∀x∈[bc (c / 36 % 26)]++tl.take (sz - 1),x∈letters++figures:=fun x hx=>by
    rcases List.mem_append.mp hx with hx | hx
    · rw [List.mem_singleton.mp hx];exact List.mem_append_left _ bc_let
    · exact htc x (List.mem_of_mem_take hx)
   have hBh:∃d r,[bc (c / 36 % 26)]++tl.take (sz - 1)=d::r∧d∈letters:=⟨_,_,rfl,bc_let⟩
   generalize [bc (c / 36 % 26)]++tl.take (sz - 1)=B at hBl hBc hBh ⊢
   have hB1:=hBl.1
   rename_i rest hrest
   subst hrest
   walk_at "go"
   intro p hp
   rename_i rest hrest
   subst hrest
   walk_at "go"
   rename_i rest hrest
   refine forR_by (fun k σ H'=>∃(v8 v9:Option V),σ=[some (V.int c),some (V.int m),some (V.str (Str.ofString "abcdefghijklmnopqrstuvwxyz0123456789")),some (V.str (tx tl)),some (V.int sz),some (V.int at'),some (V.str (tx B)),some (V.ref p),v8,v9]∧H'=upd H1 p (.lst (((List.range k).map fun k=>tx (nm3 B at' (c / 1296) k)).map V.str))) ⟨none,none,rfl,rfl⟩ ?_ ?_
   · clear hrest
     rintro k σ H' hk ⟨v8,v9,rfl,rfl⟩
     have hlen:(((List.range k).map fun k=>tx (nm3 B at' (c / 1296) k)).map V.str).length=k∧True:=⟨by simp,trivial⟩
     have hlen1:=hlen.1
     have hBt:(tx B).length=sz∧True:=⟨by rw [T_len];exact hB1,trivial⟩
     have hBt1:=hBt.1
     rw [List.range_succ,List.map_append,List.map_append]
     generalize hz:(((List.range k).map fun k=>tx (nm3 B at' (c / 1296) k)).map V.str)=zs at hlen1 ⊢
     clear hz hlen hBt
     walk_at "go"
     refine ixS_of (by omega) (ix_bc _ (by decide) (by decide)) ?_
     rename_i rest hrest
     subst hrest
     walk_at "go"
     have e1:Txt.slice (tx B) none (some (at':Int))=tx (B.take at'):=slice_to (by omega) (by omega)
     have e2:Txt.slice (tx B) (some ((at':Int)+1)) none=tx (B.drop (at'+1)):=by
      have:=slice_from (l:=B) (n:=(at':Int)+1) (by omega) (by omega)
      rw [show ((at':Int)+1).toNat=at'+1 by omega]at this
      exact this
     have e3:Txt.slice (Str.ofString "zz") none (some ((k:Int) / 26))=tx (List.replicate (k / 26) 122):=zz_slice (by omega)
     rw [e1,e2,e3]
     have z2:(Str.ofString "zz").length=2:=by decide+kernel
     have l1:(tx (B.take at')).length≤6:=by rw [T_len,List.length_take];omega
     have l2:(tx (B.drop (at'+1))).length≤6:=by rw [T_len,List.length_drop];omega
     have l3:(tx (List.replicate (k / 26) 122)).length≤6:=by rw [T_len,List.length_replicate];omega
     refine ⟨.inl ⟨rfl,_,SqL.of upd_same⟩,by omega,by rw [len_one];omega,by omega,by rw [len_app,len_one];omega,cdiv_of (by decide) (by decide),by omega,by rw [len_app,len_app,len_one];omega,p,_,_,rfl,rfl,upd_same,by omega,?_⟩
     rw [upd_upd,T_one,T_app,T_app,T_app]
     rfl
   · rintro σ H' ⟨v8,v9,rfl,rfl⟩
     subst hrest
     walk_at "go"
     exact q p ((List.range m).map fun k=>tx (nm3 B at' (c / 1296) k)) _ (same_none smD hp) (smD.trans (Same.new hp)) upd_same (by simp) (tx_nodup fun a b ha hb e=>nm3_inj (by omega) e) (fun y hy=>by
      obtain ⟨k,hk,rfl⟩:=List.mem_map.mp hy
      rw [T_list]
      exact nm3_name (by omega) (by omega) (by have:=List.mem_range.mp hk;omega) hBc hBh)
theorem Z43{f:Addr}{fd:FuncData}(F:Fun K "_law_rows" "_law_rows" Z2f f fd)(T:Txt K mg Z1 Z2 Z3 Z0)(Zc:Def P w K mg base CX0 1 "_law_cell" ["_law_script","_law_k"] (sp_cell K))(Z25:Def P w K mg base CX0 1 "_law_names" ["_law_cell_here","_law_many"] (sp20_names))(Z01:Def P w K mg base CX0 1 "_law_stream" ["_law_cell_here","_law_many"] (sp20_stream)):FnOk P w K mg base CX0 2 f fd ["_law_script"] (sp57_rows K):=by
 have sc:FnScope ["_law_script","_law_cell_here","_law_many","_law_names_here","_law_wide","_law_xs"] ["_law_script"] (defScope Z2f):=by walk_at "sc"
 refine F.ok sc (fun vs H Q E h=>?_) (fun cdv A outer s H vs Q E hr h=>?_)
 · obtain ⟨_,_,rfl,_⟩:=h;rfl
 obtain ⟨a,ns,rfl,hS,hl,q⟩:=h
 refine ⟨_,(@pss_cons _ _ _ _ _ (ps_set (i:=1) sc.nd rfl (Or.inl rfl) (pe_callD Zc hr rfl pass0 (pa_cons (pv 0) (pa_cons pe_int pa_nil))))
  (@pss_cons _ _ _ _ _ (ps_set (i:=2) sc.nd rfl (Or.inr rfl) (pe_op op_add pe_int (pe_op op_mod (pv 1) pe_int)))
  (@pss_cons _ _ _ _ _ (ps_if (pt_cmpR op_eq (pe_op op_mod (pe_op op_fdiv (pv 1) pe_int) pe_int) pe_int (nomark _))
   (@pss_one _ _ _ (ps_set (i:=2) sc.nd rfl (Or.inr rfl) (pe_op op_add pe_int (pe_op op_mod (pe_op op_fdiv (pv 1) pe_int) pe_int))))
   pss_nil)
  (@pss_cons _ _ _ _ _ (ps_set (i:=3) sc.nd rfl (Or.inr rfl) (pe_callD Z25 hr rfl pass0 (pa_cons (pe_callD Zc hr rfl pass0 (pa_cons (pv 0) (pa_cons pe_int pa_nil))) (pa_cons (pv 2) pa_nil))))
  (@pss_cons _ _ _ _ _ (ps_set (i:=4) sc.nd rfl (Or.inr rfl) (@pe_ix _ _ _ _ _ _ _ ix_list (@pe_lst _ _ _ _ (pa_cons pe_int (pa_cons pe_int (pa_cons pe_int pa_nil)))) (pe_op op_mod (pe_callD Zc hr rfl pass0 (pa_cons (pv 0) (pa_cons pe_int pa_nil))) pe_int) (fun _ _=>rfl)))
  (@pss_cons _ _ _ _ _ (ps_set (i:=5) sc.nd rfl (Or.inr rfl) (pe_callD Z01 hr rfl pass0 (pa_cons (pe_callD Zc hr rfl pass0 (pa_cons (pv 0) (pa_cons pe_int pa_nil))) (pa_cons (pe_op op_mul pe_int (pv 2)) pa_nil))))
  (@pss_one _ _ _ (@ps_ret _ _ _ _ (pe_comp1 "_law_k" [3,5,4,2] rfl rfl (pi_range1 rfl T.Zz (pa_cons (pv 2) pa_nil)) (fun b=>(pe_tup (pa_cons (@pe_ix _ _ _ _ _ _ _ ix_list (pv 1) (pv 0) (fun _ _=>rfl)) (pa_cons (pe_op op_mod (@pe_ix _ _ _ _ _ _ _ ix_list (pv 2) (pv 0) (fun _ _=>rfl)) pe_int) (pa_cons (pe_op op_add pe_int (pe_op op_mod (@pe_ix _ _ _ _ _ _ _ ix_list (pv 2) (pe_op op_add (pv 4) (pv 0)) (fun _ _=>rfl)) (pv 3))) pa_nil)))))))))))))),?_⟩
 walk_at "st"
 have line:=line_val
 walk_at "go"
 rename_i rest hrest
 have key:∀m:Nat,1≤m→m≤60→rest [some (V.ref a),some (V.int (ns.getD 0 0)),some (V.int m),none,none,none] H:=by
  intro m hm1 hm2
  subst hrest
  walk_at "go"
  refine ⟨m,rfl,hm2,fun np ys H1 hnp sm1 hny hyl ynd hyn=>?_⟩
  have hyl1:=Nat.le_of_eq hyl
  have hyl2:=Nat.le_of_eq hyl.symm
  have hnames:∀xs w,(mkTs ys xs m w).map (·.1)=ys:=fun xs w=>mkTs_names hyl
  clear hyl
  have hS1:=sm1.seq hS
  rename_i rest hrest
  subst hrest
  walk_at "go"
  intro wp hwp
  refine ⟨ns,(Same.new hwp).seq hS1,by decide,hl,by decide,?_⟩
  obtain ⟨v,hv,hM⟩:=atI_in (xs:=[V.int 1,V.int 4,V.int 1000]) (i:=ns.getD 2 0 % 3) (by omega) (by simp;omega)
  refine ixL_of (SqL.of upd_same) hv ?_
  obtain ⟨mo,rfl,hmo1,hmo2⟩:∃mo:Int,v=V.int mo∧1≤mo∧mo≤1000:=by
   simp only [List.mem_cons,List.not_mem_nil,or_false]at hM
   rcases hM with rfl | rfl | rfl
   · exact ⟨1,rfl,by decide,by decide⟩
   · exact ⟨4,rfl,by decide,by decide⟩
   · exact ⟨1000,rfl,by decide,by decide⟩
  have sm2:=sm1.trans (Same.new (o:= .lst [V.int 1,V.int 4,V.int 1000]) hwp)
  have hny2:=Same.new (o:= .lst [V.int 1,V.int 4,V.int 1000]) hwp _ _ hny
  generalize upd H1 wp (.lst [V.int 1,V.int 4,V.int 1000])=H2 at sm2 hny2 ⊢
  clear hv hM hny hS1 sm1 hwp hnp
  have hS2:=sm2.seq hS
  rename_i rest hrest
  subst hrest
  walk_at "go"
  refine ⟨2 * m,by omega,by omega,fun xp xs H3 hxp sm3 hx3 hxl hx0=>?_⟩
  have hxl2:=Nat.le_of_eq hxl.symm
  clear hxl
  have sm03:=sm2.trans sm3
  have hny3:=sm3 _ _ hny2
  rename_i rest hrest
  subst hrest
  walk_at "go"
  refine compR_mk (n:=m) (fun i y H=>∃t,y=V.ref t∧SqT K H t [.str ((mkTs ys xs m mo).getD i th0).1,.int ((mkTs ys xs m mo).getD i th0).2.1,.int ((mkTs ys xs m mo).getD i th0).2.2]) (fun i y H H' l zs ⟨t,e,h⟩ hl sb=>⟨t,e,SqT.butL sb hl h⟩) (by omega) (fun b i H4 Q' hi sm4 q'=>?_) fun D yl H4 hD sm4 hD4 hyl4 hall=>?_
  · have hny4:=sm4 _ _ hny3
    have hx4:=sm4 _ _ hx3
    rw [mkTs_at hi]at q'
    have g1:=N41.getD_s (ys:=ys) (k:=i) (by omega)
    have g2:=int_at (xs:=xs) (i:=i) (by omega)
    have g3:=int_at (xs:=xs) (i:=m+i) (by omega)
    walk_at "go"
    refine ixL_of (SqL.of hny4) (v:=V.str (ys.getD i Str.empty)) (atI_nat (by rw [List.getElem?_map,g1];rfl)) ?_
    refine ixL_of (SqL.of hx4) (v:=V.int (xs.getD i 0)) (atI_nat (by rw [List.getElem?_map,g2];rfl)) ⟨_,rfl,by decide,?_⟩
    rw [show (m:Int)+(i:Int)=((m+i:Nat):Int) by omega]
    refine ixL_of (SqL.of hx4) (v:=V.int (xs.getD (m+i) 0)) (atI_nat (by rw [List.getElem?_map,g3];rfl)) ⟨_,rfl,by omega,by omega,fun p hp=>?_⟩
    exact q' _ _ (Same.new hp) ⟨p,rfl,SqT.of upd_same⟩
  · have hok:∀t∈mkTs ys xs m mo,nameB t.1.cps.toList=true∧0≤t.2.1∧t.2.1≤10 ^ 30∧1≤t.2.2∧t.2.2≤1000:=fun t ht=>by
     have hin:t.1∈ys:=by rw [← hnames xs mo];exact List.mem_map.mpr ⟨t,ht,rfl⟩
     have hnn:=hyn _ hin
     unfold mkTs at ht
     obtain ⟨k,_,rfl⟩:=List.mem_map.mp ht
     have f0:=Int.emod_nonneg (xs.getD (m+k) 0) (show mo≠0 by omega)
     have f1:=Int.emod_lt_of_pos (xs.getD (m+k) 0) (show 0 < mo by omega)
     exact ⟨hnn,by show 0≤xs.getD k 0 % 1000;omega,by show xs.getD k 0 % 1000≤10 ^ 30;omega,by show 1≤1+xs.getD (m+k) 0 % mo;omega,by show 1+xs.getD (m+k) 0 % mo≤1000;omega⟩
    obtain ⟨as,rfl,hR⟩:=rows_ts (K:=K) hD4 (by rw [hyl4,mkTs_len]) (by rw [mkTs_len];exact hm2) (by rw [hnames];exact ynd) hok hall
    exact q D as _ _ (sm03.trans sm4) hD4 hR (by rw [mkTs_len];exact hm1) fun t ht=>by
     unfold mkTs at ht
     obtain ⟨k,_,rfl⟩:=List.mem_map.mp ht
     show xs.getD k 0 % 1000 < 1000
     omega
 clear hrest
 split
 · have k:=key (20+ns.getD 0 0 / 72 % 41).toNat (by omega) (by omega)
   rw [show (((20+ns.getD 0 0 / 72 % 41).toNat:Nat):Int)=20+ns.getD 0 0 / 72 % 41 by omega]at k
   exact ⟨cdiv_of (by decide) (by decide),by decide,k⟩
 · have k:=key (1+ns.getD 0 0 % 8).toNat (by omega) (by omega)
   rw [show (((1+ns.getD 0 0 % 8).toNat:Nat):Int)=1+ns.getD 0 0 % 8 by omega]at k
   exact k
theorem Z3t{f:Addr}{fd:FuncData}(F:Fun K "_law_places" "_law_places" Z1r f fd)(T:Txt K mg Z1 Z2 Z3 Z0):FnOk P w K mg base CX0 1 f fd ["_law_rows_here","_law_cell_here"] (sp20_places K):=by
 have sc:FnScope ["_law_rows_here","_law_cell_here","_law_rooms_here"] ["_law_rows_here","_law_cell_here"] (defScope Z1r):=by walk_at "sc"
 refine F.ok sc (fun vs H Q E h=>?_) (fun cdv A outer s H vs Q E hr h=>?_)
 · obtain ⟨_,_,_,_,rfl,_⟩:=h;rfl
 obtain ⟨r,c,as,ts,rfl,hR,h1,q⟩:=h
 refine ⟨_,(@pss_cons _ _ _ _ _ (ps_comp1 (i:=2) "_law_row" [] sc.nd rfl rfl rfl rfl (pi_list (pv 0)) (fun b=>(@pe_ix _ _ _ _ _ _ _ ix_tup (pv 0) pe_int (fun _ _=>rfl))))
  (@pss_cons _ _ _ _ _ (ps_if (pt_cmpR op_eq (pe_op op_mod (pe_op op_fdiv (pv 1) pe_int) pe_int) pe_int (nomark _))
   (@pss_one _ _ _ (@ps_ret _ _ _ _ (pe_op op_pow pe_int pe_int)))
   pss_nil)
  (@pss_one _ _ _ (@ps_ret _ _ _ _ (pe_op op_add (pe_callB (call_maxL rfl) rfl T.Z28 (by first | rfl | decide+kernel) (pa_cons (pv 2) pa_nil)) (pe_op op_mod (pv 1) (pe_callB (call_sumL rfl) rfl T.Z17 (by first | rfl | decide+kernel) (pa_cons (pv 2) pa_nil)))))))),?_⟩
 walk_at "st"
 have line:=line_val
 have hn:=hR.n
 have hm:=hR.m
 walk_at "go"
 refine ⟨⟨_,hR.l⟩,?_⟩
 refine compL_ix (fun i=>V.int (ts.getD i th0).2.2) hR.l (by rw [List.length_map];omega) (fun b i x H' Q' hx sm q'=>?_) fun D hD=>?_
 · rw [List.getElem?_map]at hx
   cases ha:as[i]? with
   | none=>rw [ha]at hx;cases hx
   | some p=>
   rw [ha]at hx
   cases hx
   have hi:i < ts.length:=by rw [← hn];exact (List.getElem?_eq_some_iff.mp ha).1
   have hT:=sm.tup (hR.at_ i p _ ha (th_at hi))
   walk_at "go"
   exact q'
 have eD:(List.range (as.map V.ref).length).map (fun i=>V.int (ts.getD i th0).2.2)=(ts.map (·.2.2)).map V.int:=by
  rw [List.length_map,hn,List.map_map]
  refine List.ext_getElem? fun i=>?_
  rw [List.getElem?_map,List.getElem?_map]
  by_cases hi:i < ts.length
  · rw [List.getElem?_range hi,th_at hi];rfl
  · rw [List.getElem?_eq_none (by rw [List.length_range];omega),List.getElem?_eq_none (by omega)];rfl
 rw [eD]
 clear eD
 have smD:Same H (upd H D (.lst ((ts.map (·.2.2)).map V.int))):=Same.new hD
 have hDD:upd H D (.lst ((ts.map (·.2.2)).map V.int)) D=some (.lst ((ts.map (·.2.2)).map V.int)):=upd_same
 generalize upd H D (.lst ((ts.map (·.2.2)).map V.int))=H1 at smD hDD ⊢
 clear hD
 have hrb:∀x∈ts.map (·.2.2),1≤x∧x≤1000:=fun x hx=>by
  obtain ⟨t,ht,rfl⟩:=List.mem_map.mp hx
  exact (hR.ok t ht).2.2.2
 have hsum:(ts.map (·.2.2)).sum≤60000∧1≤(ts.map (·.2.2)).sum:=by
  have hlen:(ts.map (·.2.2)).length=ts.length:=List.length_map ..
  have:=sum_bounds hrb
  omega
 rename_i rest hrest
 subst hrest
 walk_at "go"
 split
 · refine ⟨cpow_of (by decide) (by decide) (by decide),?_⟩
   refine q _ _ smD ?_ ?_ ?_
   · decide
   · decide
   · intro t ht
     have:=(hR.ok t ht).2.2.2.2
     show t.2.2≤1000000
     omega
 · rename_i rest hrest
   walk_at "go"
   refine ⟨ts.map (·.2.2),SqL.of hDD,fun e=>by have:=congrArg List.length e;rw [List.length_map,List.length_nil]at this;omega,fun v hv hmax=>⟨ts.map (·.2.2),SqL.of hDD,by omega,?_⟩⟩
   have hvb:=hrb v hv
   have f0:=Int.emod_nonneg c (show (ts.map (·.2.2)).sum≠0 by omega)
   have f1:=Int.emod_lt_of_pos c (show 0 < (ts.map (·.2.2)).sum by omega)
   exact q _ _ smD (by omega) (by omega) (fun t ht=>by have:=hmax _ (List.mem_map.mpr ⟨t,ht,rfl⟩);omega)
theorem Z44{f:Addr}{fd:FuncData}(F:Fun K "_law_asks" "_law_asks" Z2g f fd)(T:Txt K mg Z1 Z2 Z3 Z0)(Zc:Def P w K mg base CX0 1 "_law_cell" ["_law_script","_law_k"] (sp_cell K))(Z01:Def P w K mg base CX0 1 "_law_stream" ["_law_cell_here","_law_many"] (sp20_stream)):FnOk P w K mg base CX0 2 f fd ["_law_script","_law_rows_here"] (sp20_asks K):=by
 have sc:FnScope ["_law_script","_law_rows_here","_law_most","_law_picks"] ["_law_script","_law_rows_here"] (defScope Z2g):=by walk_at "sc"
 refine F.ok sc (fun vs H Q E h=>?_) (fun cdv A outer s H vs Q E hr h=>?_)
 · obtain ⟨_,_,_,_,_,rfl,_⟩:=h;rfl
 obtain ⟨a,r,ns,as,ts,rfl,hS,hl,hR,h1,q⟩:=h
 refine ⟨_,(@pss_cons _ _ _ _ _ (ps_set (i:=2) sc.nd rfl (Or.inl rfl) pe_int)
  (@pss_cons _ _ _ _ _ (ps_if (pt_cmpR op_eq (pe_op op_mod (pe_callD Zc hr rfl pass0 (pa_cons (pv 0) (pa_cons pe_int pa_nil))) pe_int) pe_int (nomark _))
   (@pss_one _ _ _ (ps_set (i:=2) sc.nd rfl (Or.inl rfl) pe_int))
   pss_nil)
  (@pss_cons _ _ _ _ _ (ps_set (i:=3) sc.nd rfl (Or.inl rfl) (pe_op op_cat (pe_slice sl_list (pv 0) (po_some pe_int) (po_some pe_int)) (pe_callD Z01 hr rfl pass0 (pa_cons (pe_callD Zc hr rfl pass0 (pa_cons (pv 0) (pa_cons pe_int pa_nil))) (pa_cons (pe_op op_mod (pe_callD Zc hr rfl pass0 (pa_cons (pv 0) (pa_cons pe_int pa_nil))) (pv 2)) pa_nil)))))
  (@pss_one _ _ _ (@ps_ret _ _ _ _ (pe_comp1 "_law_pick" [1] rfl rfl (pi_list (pv 3)) (fun b=>(@pe_ix _ _ _ _ _ _ _ ix_tup (@pe_ix _ _ _ _ _ _ _ ix_list (pv 1) (pe_op op_mod (pv 0) (pe_callB call_len_seq rfl T.Zr PySem.boot_len (pa_cons (pv 1) pa_nil))) (fun _ _=>rfl)) pe_int (fun _ _=>rfl))))))))),?_⟩
 walk_at "st"
 have line:=line_val
 have hn:=hR.n
 have hm:=hR.m
 walk_at "go"
 rename_i rest hrest
 have key:∀mo:Int,1≤mo→mo≤139→rest [some (V.ref a),some (V.ref r),some (V.int mo),none] H:=by
  intro mo hm1 hm2
  subst hrest
  walk_at "go"
  obtain ⟨cs,hcs,hcl⟩:=cut_8_68 ns
  refine ⟨_,hS,fun p hp=>?_⟩
  rw [hcs]
  have s1:Same H (upd H p (.lst (cs.map V.int))):=Same.new hp
  have k1:upd H p (.lst (cs.map V.int)) p=some (.lst (cs.map V.int)):=upd_same
  generalize upd H p (.lst (cs.map V.int))=H1 at s1 k1 ⊢
  have f0:=Int.emod_nonneg (ns.getD 5 0) (show mo≠0 by omega)
  have f1:=Int.emod_lt_of_pos (ns.getD 5 0) (show 0 < mo by omega)
  refine ⟨ns,s1.seq hS,by decide,hl,ns,s1.seq hS,by decide,hl,by omega,(ns.getD 5 0 % mo).toNat,by omega,by omega,fun p1 xs H2 hp1 s2 k2 hxl hx0=>?_⟩
  have hxl1:xs.length≤138:=by rw [hxl];omega
  clear hxl
  refine ⟨p,p1,_,_,rfl,rfl,s2 _ _ k1,k2,by rw [List.length_map,List.length_map];omega,fun p2 hp2=>?_⟩
  rw [cat_ints]
  have hpl:(cs++xs).length≤200:=by rw [List.length_append];omega
  have s3:=(s1.trans s2).trans (Same.new (o:= .lst ((cs++xs).map V.int)) hp2)
  have k3:upd H2 p2 (.lst ((cs++xs).map V.int)) p2=some (.lst ((cs++xs).map V.int)):=upd_same
  generalize upd H2 p2 (.lst ((cs++xs).map V.int))=H3 at s3 k3 ⊢
  generalize cs++xs=ps at hpl k3
  clear k1 k2 s1 s2 hp2 hp hcs
  have hR3:=hR.same s3
  rename_i rest hrest
  subst hrest
  walk_at "go"
  refine ⟨⟨_,SqL.of k3⟩,?_⟩
  refine compL_pure (pickV ts) (SqL.of k3) (by rw [List.length_map];omega) (fun b x H4 Q' hx sm4 q'=>?_) fun D hD=>?_
  · obtain ⟨c,hc,rfl⟩:=List.mem_map.mp hx
    have hR4:=hR3.same sm4
    have g0:=Int.emod_nonneg c (show (ts.length:Int)≠0 by omega)
    have g1:=Int.emod_lt_of_pos c (show (0:Int) < ts.length by omega)
    have ht:=th_at (ts:=ts) (i:=(c % (ts.length:Int)).toNat) (by omega)
    have ha:=List.getElem?_eq_getElem (l:=as) (i:=(c % (ts.length:Int)).toNat) (by omega)
    have hT:=hR4.at_ _ _ _ ha ht
    walk_at "go"
    refine ⟨_,.inl hR4.l,?_⟩
    rw [List.length_map,hn]
    refine ⟨by omega,?_⟩
    refine ixL_of hR4.l (v:=V.ref _) (by rw [show c % (ts.length:Int)=(((c % (ts.length:Int)).toNat:Nat):Int) by omega];exact atI_nat (by rw [List.getElem?_map,ha];rfl)) ?_
    exact ⟨_,_,0,_,rfl,rfl,hT,rfl,q'⟩
  · rw [pickV_list]
    exact q D _ _ (s3.trans (Same.new hD)) upd_same (by rw [List.length_map];exact hpl) (fun y hy=>by
     obtain ⟨c,hc,rfl⟩:=List.mem_map.mp hy
     have g0:=Int.emod_nonneg c (show (ts.length:Int)≠0 by omega)
     have g1:=Int.emod_lt_of_pos c (show (0:Int) < ts.length by omega)
     exact List.mem_map.mpr ⟨_,List.mem_of_getElem? (th_at (ts:=ts) (i:=(c % (ts.length:Int)).toNat) (by omega)),rfl⟩)
 clear hrest
 split
 · exact key 139 (by decide) (by decide)
 · exact key 30 (by decide) (by decide)
theorem Z3u{f:Addr}{fd:FuncData}(F:Fun K "_law_priced" "_law_priced" Z1s f fd)(T:Txt K mg Z1 Z2 Z3 Z0):FnOk P w K mg base CX0 1 f fd ["_law_rows_here","_law_cell_here"] (sp57_priced K):=by
 have sc:FnScope ["_law_rows_here","_law_cell_here","_law_priced_here","_law_name","_law_cost","_law_room","_law_great"] ["_law_rows_here","_law_cell_here"] (defScope Z1s):=by walk_at "sc"
 refine F.ok sc (fun vs H Q E h=>?_) (fun cdv A outer s H vs Q E hr h=>?_)
 · obtain ⟨_,_,_,_,rfl,_⟩:=h;rfl
 obtain ⟨r,c,as,ts,rfl,hR,ht1,hc,q⟩:=h
 refine ⟨_,(@pss_cons _ _ _ _ _ (ps_set (i:=2) sc.nd rfl (Or.inl rfl) (@pe_lst _ _ _ _ pa_nil))
  (@pss_cons _ _ _ _ _ (ps_for PassesOwn.never rfl (pi_list (pv 0)) (pg_tup rfl (pgs_cons (pg_name (i:=3) sc.nd rfl (Or.inl rfl)) (pgs_cons (pg_name (i:=4) sc.nd rfl (Or.inl rfl)) (pgs_cons (pg_name (i:=5) sc.nd rfl (Or.inl rfl)) pgs_nil))))
   (@pss_cons _ _ _ _ _ (ps_if (pt_cmpR op_eq (pe_op op_mod (pv 1) pe_int) pe_int (nomark _))
    (@pss_one _ _ _ (ps_set (i:=4) sc.nd rfl (Or.inl rfl) (pe_op op_mod (pv 4) pe_int)))
    pss_nil)
   (@pss_cons _ _ _ _ _ (ps_if (pt_cmpR op_eq (pe_op op_mod (pv 1) pe_int) pe_int (nomark _))
    (@pss_cons _ _ _ _ _ (ps_set (i:=6) sc.nd rfl (Or.inl rfl) (pe_op op_mod (pe_op op_pow (pe_op op_mulH (pv 4) (pe_op op_add pe_int (pe_op op_mod (pe_op op_fdiv (pv 1) pe_int) pe_int))) pe_int) (pe_op op_add (pe_op op_pow pe_int pe_int) pe_int)))
    (@pss_one _ _ _ (ps_set (i:=4) sc.nd rfl (Or.inl rfl) (@pe_ix _ _ _ _ _ _ _ ix_list (@pe_lst _ _ _ _ (pa_cons (pe_op op_mod (pv 4) pe_int) (pa_cons (pv 6) pa_nil))) (pe_op op_mod (pe_op op_fdiv (pv 4) pe_int) pe_int) (fun _ _=>rfl)))))
    pss_nil)
   (@pss_cons _ _ _ _ _ (ps_if (pt_cmpR op_eq (pe_op op_mod (pv 1) pe_int) pe_int (nomark _))
    (@pss_one _ _ _ (ps_set (i:=4) sc.nd rfl (Or.inl rfl) (pe_op op_add pe_int (pe_op op_mod (pe_op op_fdiv (pv 1) pe_int) pe_int))))
    pss_nil)
   (@pss_one _ _ _ (ps_expr (pe_bm PySem.F.plainAttrs_list PySem.F.slot_list_append PySem.F.type_list_append mt_append (pv 2) (pa_cons (pe_tup (pa_cons (pv 3) (pa_cons (pv 4) (pa_cons (pv 5) pa_nil)))) pa_nil))))))))
  (@pss_one _ _ _ (@ps_ret _ _ _ _ (pv 2))))),?_⟩
 walk_at "st"
 have line:=line_val
 have hn:=hR.n
 have hm:=hR.m
 walk_at "go"
 intro p hp
 have sm0:Same H (upd H p (.lst [])):=Same.new hp
 have hp0:upd H p (.lst []) p=some (.lst (([]:List Addr).map V.ref)):=upd_same
 generalize upd H p (.lst [])=H0 at sm0 hp0 ⊢
 rename_i rest hrest
 subst hrest
 walk_at "go"
 refine ⟨⟨_,sm0.seq hR.l⟩,?_⟩
 rename_i rest hrest
 refine forL_by (xs:=as.map V.ref) (fun i σ H'=>∃(as':List Addr) (ts':List Th) (v3 v4 v5 v6:Option V),σ=[some (V.ref r),some (V.int c),some (V.ref p),v3,v4,v5,v6]∧Same H H'∧H' p=some (.lst (as'.map V.ref))∧RowsAt K H' p as' ts'∧ts'.map (·.1)=(ts.take i).map (·.1)) ⟨[],[],none,none,none,none,rfl,sm0,hp0,⟨SqL.of hp0,rfl,by decide,(fun i a t h=>by simp at h),(fun t ht=>by cases ht),List.nodup_nil⟩,rfl⟩ (fun i σ H' _ h_=>by obtain ⟨_,_,_,_,_,_,_,sm,_⟩:=h_;exact sm.seq hR.l) ?_ ?_
 · clear hrest
   rintro i u σ H' hu ⟨as',ts',v3,v4,v5,v6,rfl,sm,hp',hR',hnm⟩
   rw [List.getElem?_map]at hu
   cases ha:as[i]? with
   | none=>rw [ha]at hu;cases hu
   | some pa=>
   rw [ha]at hu
   cases hu
   have hi:i < ts.length:=by rw [← hn];exact (List.getElem?_eq_some_iff.mp ha).1
   have ht:=th_at hi
   have hT:=sm.tup (hR.at_ i pa _ ha ht)
   have hok:=hR.ok _ (List.mem_of_getElem? ht)
   have hc1:=hc _ (List.mem_of_getElem? ht)
   have htk:(ts.take (i+1)).map (·.1)=(ts.take i).map (·.1)++[(ts.getD i th0).1]:=by rw [List.take_succ,ht,List.map_append];rfl
   have hno:(ts.getD i th0).1∉(ts.take i).map (·.1):=fun hmem=>by
    have nd:=hR.nd
    rw [← List.take_append_drop i ts,List.map_append,List.nodup_append]at nd
    refine nd.2.2 _ hmem _ ?_ rfl
    rw [List.drop_eq_getElem_cons hi,List.map_cons]
    rw [List.getElem?_eq_getElem hi]at ht
    rw [← Option.some.inj ht]
    exact List.mem_cons_self ..
   have hl':ts'.length=i:=by
    have:=congrArg List.length hnm
    rw [List.length_map,List.length_map,List.length_take]at this
    omega
   generalize ts.getD i th0=t at hT hno ht hok hc1 htk
   obtain ⟨k1,k2,k3,k4,k5⟩:=hok
   walk_at "go"
   refine ⟨_,hT,rfl,_,_,rfl,_,_,rfl,_,_,rfl,rfl,?_⟩
   walk_at "go"
   rename_i rest hrest
   have key:∀w:Int,0≤w→w < 1000→rest [some (V.ref r),some (V.int c),some (V.ref p),some (V.str t.1),some (V.int w),some (V.int t.2.2),v6] H':=by
    intro w hw0 hw1
    subst hrest
    walk_at "go"
    rename_i rest hrest
    have key2:∀(w:Int) (v6:Option V) (H2:Hp),0≤w→w≤10 ^ 30→Same H' H2→rest [some (V.ref r),some (V.int c),some (V.ref p),some (V.str t.1),some (V.int w),some (V.int t.2.2),v6] H2:=by
     intro w v6 H2 hw0 hw1 sm2
     subst hrest
     walk_at "go"
     rename_i rest hrest
     have key3:∀(w:Int),0≤w→w≤10 ^ 30→rest [some (V.ref r),some (V.int c),some (V.ref p),some (V.str t.1),some (V.int w),some (V.int t.2.2),v6] H2:=by
      intro w hw0 hw1
      subst hrest
      walk_at "go"
      refine ⟨.inl ⟨rfl,_,SqL.of (sm2 _ _ hp')⟩,by omega,fun ta hta=>?_⟩
      have sm3:Same H2 (upd H2 ta (.tup [V.str t.1,V.int w,V.int t.2.2])):=Same.new hta
      have hta3:upd H2 ta (.tup [V.str t.1,V.int w,V.int t.2.2]) ta=some (.tup [V.str t.1,V.int w,V.int t.2.2]):=upd_same
      generalize upd H2 ta (.tup [V.str t.1,V.int w,V.int t.2.2])=H3 at sm3 hta3 ⊢
      have sm23:=sm2.trans sm3
      have hp3:=sm23 _ _ hp'
      have hal:as'.length≤60:=by rw [hR'.n];exact hR'.m
      refine ⟨p,_,_,rfl,rfl,hp3,by rw [List.length_map];omega,?_⟩
      rw [show as'.map V.ref++[V.ref ta]=(as'++[ta]).map V.ref by rw [List.map_append];rfl]
      have sb4:SameBut p H3 (upd H3 p (.lst ((as'++[ta]).map V.ref))):=sameBut_upd
      have npt:ta≠p:=fun e=>by rw [e,hp3]at hta3;cases hta3
      refine ⟨fun b o e=>?_,as'++[ta],upd_same,ts'++[(t.1,w,t.2.2)],(hR'.same sm23).snoc (t:=(t.1,w,t.2.2)) hp3 sb4 upd_same (SqT.of (by rw [upd_ne npt];exact hta3)) ⟨k1,hw0,hw1,k4,k5⟩ (by rw [hnm];exact hno) (by omega),?_⟩
      · rw [upd_ne (ne_of_none e hp)];exact sm23 _ _ (sm _ _ e)
      · rw [htk,List.map_append,hnm];rfl
     clear hrest
     split
     · exact ⟨cdiv_of (by decide) (by decide),by decide,key3 _ (by omega) (by omega)⟩
     · exact key3 w hw0 hw1
    clear hrest
    split
    · walk_at "go"
      have u0:=Int.emod_nonneg (c / 4) (show (1000:Int)≠0 by decide)
      have u1:=Int.emod_lt_of_pos (c / 4) (show (0:Int) < 1000 by decide)
      generalize c / 4 % 1000=u at u0 u1 ⊢
      have hT9:(10000:Nat) < 10 ^ 1000:=by decide+kernel
      have hp1:0≤w * (7919+u):=Int.mul_nonneg hw0 (by omega)
      have hp2:w * (7919+u)≤1000 * 9000:=Int.mul_le_mul (by omega) (by omega) (by omega) (by decide)
      refine ⟨⟨Nat.lt_trans (by omega) hT9,Nat.lt_trans (by omega) hT9⟩,cpow_of (by decide) (by decide) (by omega),cpow_of (by decide) (by decide) (by decide),by decide,?_⟩
      have e0:=Int.emod_nonneg ((w * (7919+u)) ^ 5) (show (10 ^ 30+1:Int)≠0 by decide)
      have e1:=Int.emod_lt_of_pos ((w * (7919+u)) ^ 5) (show (0:Int) < 10 ^ 30+1 by decide)
      generalize (w * (7919+u)) ^ 5 % (10 ^ 30+1)=gr at e0 e1 ⊢
      clear hp1 hp2 hT9
      rename_i rest2 hrest2
      subst hrest2
      walk_at "go"
      intro l hl
      refine ⟨cdiv_of (by decide) (by decide),by decide,?_⟩
      have h2:w / 10 % 2=0∨w / 10 % 2=1:=by omega
      rcases h2 with e | e <;> rw [e]
      · exact ixL_of (SqL.of upd_same) (v:=V.int (w % 10)) rfl (key2 _ _ _ (by omega) (by omega) (Same.new hl))
      · exact ixL_of (SqL.of upd_same) (v:=V.int gr) rfl (key2 _ _ _ (by omega) (by omega) (Same.new hl))
    · exact key2 w v6 H' hw0 (by omega) (Same.refl _)
   clear hrest
   split
   · exact ⟨by decide,key _ (by omega) (by omega)⟩
   · exact key _ k2 hc1
 · rintro σ H' ⟨as',ts',v3,v4,v5,v6,rfl,sm,hp',hR',hnm⟩
   rw [List.length_map,hn,List.take_length]at hnm
   subst hrest
   walk_at "go"
   refine q p as' ts' H' sm hp' hR' ?_
   have:=congrArg List.length hnm
   rw [List.length_map,List.length_map]at this
   omega
theorem Z48{f:Addr}{fd:FuncData}(F:Fun K "law" "law" Z0v f fd)(T:Txt K mg Z1 Z2 Z3 Z0)(Z2l:Def P w K mg base CX0 2 "_law_rows" ["_law_script"] (sp57_rows K))(Z1u:Def P w K mg base CX0 1 "_law_priced" ["_law_rows_here","_law_cell_here"] (sp57_priced K))(Zc:Def P w K mg base CX0 1 "_law_cell" ["_law_script","_law_k"] (sp_cell K))(Z1v:Def P w K mg base CX0 1 "_law_places" ["_law_rows_here","_law_cell_here"] (sp20_places K))(Z2m:Def P w K mg base CX0 2 "_law_asks" ["_law_script","_law_rows_here"] (sp20_asks K))(Z16:DefI P w K mg base CX0 4 "Stock" Z1 ["self","rows"] (sp_initG K Z1))(Z1l:DefI P w K mg base CX0 5 "Dues" Z0 ["self","stock","places"] (sp57_init Z0))(Z26:Def P w K mg base CX0 10 "book_of" ["rule","asks"] (sp58_book Z0 K Z1 Z2))(Z0u:DefM P w K mg base CX0 1 Z0 "prices" ["self"] (sp57_prices Z0))(Z1w:Def P w K mg base CX0 5 "floor_of" ["stock","asks","places","prices"] (sp58_floor K Z1)):FnOk P w K mg base CX0 11 f fd ["_law_script"] (sp_law K):=by
 have sc:FnScope ["_law_script","_law_rows_here","_law_costs","_law_name","_law_cost","_law_room","_law_places_here","_law_widest","_law_fewer","_law_asks_here","_law_stock","_law_rule","_law_book","_law_prices","_law_paid","_law_found"] ["_law_script"] (defScope Z0v):=by walk_at "sc"
 refine F.ok sc (fun vs H Q E h=>?_) (fun cdv A outer s H vs Q E hr h=>?_)
 · obtain ⟨_,_,rfl,_⟩:=h;rfl
 obtain ⟨a,ns,rfl,hS,hl,q⟩:=h
 refine ⟨_,(@pss_cons _ _ _ _ _ (ps_set (i:=1) sc.nd rfl (Or.inl rfl) (pe_callD Z1u hr rfl pass0 (pa_cons (pe_callD Z2l hr rfl pass0 (pa_cons (pv 0) pa_nil)) (pa_cons (pe_callD Zc hr rfl pass0 (pa_cons (pv 0) (pa_cons pe_int pa_nil))) pa_nil))))
  (@pss_cons _ _ _ _ _ (ps_set (i:=2) sc.nd rfl (Or.inr rfl) pe_dnewK)
  (@pss_cons _ _ _ _ _ (ps_for PassesOwn.never rfl (pi_list (pv 1)) (pg_tup rfl (pgs_cons (pg_name (i:=3) sc.nd rfl (Or.inl rfl)) (pgs_cons (pg_name (i:=4) sc.nd rfl (Or.inl rfl)) (pgs_cons (pg_name (i:=5) sc.nd rfl (Or.inl rfl)) pgs_nil))))
   (@pss_one _ _ _ (ps_dput (hu_of hr) (pv 2) (pv 3) (pv 4) rfl)))
  (@pss_cons _ _ _ _ _ (ps_set (i:=6) sc.nd rfl (Or.inl rfl) (pe_callD Z1v hr rfl pass0 (pa_cons (pv 1) (pa_cons (pe_callD Zc hr rfl pass0 (pa_cons (pv 0) (pa_cons pe_int pa_nil))) pa_nil))))
  (@pss_cons _ _ _ _ _ (ps_set (i:=7) sc.nd rfl (Or.inl rfl) (pe_callB (call_maxL rfl) rfl T.Z28 (by first | rfl | decide+kernel) (pa_cons (pe_comp1 "_law_row" [] rfl rfl (pi_list (pv 1)) (fun b=>(@pe_ix _ _ _ _ _ _ _ ix_tup (pv 0) pe_int (fun _ _=>rfl)))) pa_nil)))
  (@pss_cons _ _ _ _ _ (ps_set (i:=8) sc.nd rfl (Or.inl rfl) (pe_op op_add (pv 7) (pe_op op_mod (pe_callD Zc hr rfl pass0 (pa_cons (pv 0) (pa_cons pe_int pa_nil))) (pe_op op_add (pe_op op_sub (pv 6) (pv 7)) pe_int))))
  (@pss_cons _ _ _ _ _ (ps_set (i:=9) sc.nd rfl (Or.inl rfl) (pe_slice sl_list (pe_callD Z2m hr rfl pass0 (pa_cons (pv 0) (pa_cons (pv 1) pa_nil))) po_none (po_some pe_int)))
  (@pss_cons _ _ _ _ _ (ps_set (i:=10) sc.nd rfl (Or.inl rfl) (pe_makeS Z16 hr rfl (passS pass0) (pa_cons (pe_callTy call_list_of rfl T.Z03 (by first | rfl | decide+kernel) (pa_cons (pv 1) pa_nil)) pa_nil)))
  (@pss_cons _ _ _ _ _ (ps_set (i:=11) sc.nd rfl (Or.inl rfl) (pe_makeS Z1l hr rfl (passS pass0) (pa_cons (pv 10) (pa_cons (pv 6) pa_nil))))
  (@pss_cons _ _ _ _ _ (ps_set (i:=12) sc.nd rfl (Or.inl rfl) (pe_callD Z26 hr rfl pass0 (pa_cons (pv 11) (pa_cons (pe_callTy call_list_of rfl T.Z03 (by first | rfl | decide+kernel) (pa_cons (pv 9) pa_nil)) pa_nil))))
  (@pss_cons _ _ _ _ _ (ps_set (i:=13) sc.nd rfl (Or.inl rfl) (pe_methS0 Z0u T.Z5 hr (passS pass0) (pv 11)))
  (@pss_cons _ _ _ _ _ (ps_if (PW.pt (pw_or (pt_cmpR op_ne (pe_callB call_len_seq rfl T.Zr PySem.boot_len (pa_cons (pv 13) pa_nil)) (pe_callB call_len_seq rfl T.Zr PySem.boot_len (pa_cons (pv 9) pa_nil)) (nomark _)) (pw_or1 (pt_cmpR op_gt (pe_callB call_len_seq rfl T.Zr PySem.boot_len (pa_cons (pe_compI "_law_price" [] rfl rfl (pi_list (pv 13)) (fun b=>(pt_cmpR op_lt (@pe_ix _ _ _ _ _ _ _ ix_tup (pv 0) pe_int (fun _ _=>rfl)) pe_int (nomark _))) (fun b=>(pv 0))) pa_nil)) pe_int (nomark _)))))
   (@pss_one _ _ _ (@ps_ret _ _ _ _ pe_bl))
   pss_nil)
  (@pss_cons _ _ _ _ _ (ps_set (i:=14) sc.nd rfl (Or.inl rfl) (pe_callB (call_sumL rfl) rfl T.Z17 (by first | rfl | decide+kernel) (pa_cons (pe_compI "_law_row" [2] rfl rfl (pi_list (pv 12)) (fun b=>(pt_not (pt_val (@pe_ix _ _ _ _ _ _ _ ix_tup (pv 0) pe_int (fun _ _=>rfl))))) (fun b=>(pe_dget (hu_of hr) (pv 1) (@pe_ix _ _ _ _ _ _ _ ix_tup (pv 0) pe_int (fun _ _=>rfl)) (fun _ _=>rfl)))) pa_nil)))
  (@pss_cons _ _ _ _ _ (ps_set (i:=15) sc.nd rfl (Or.inl rfl) (pe_callD Z1w hr rfl pass0 (pa_cons (pv 10) (pa_cons (pe_callTy call_list_of rfl T.Z03 (by first | rfl | decide+kernel) (pa_cons (pv 9) pa_nil)) (pa_cons (pv 8) (pa_cons (pv 13) pa_nil))))))
  (@pss_one _ _ _ (@ps_ret _ _ _ _ (pe_cmpR op_ge (pe_op op_mulH (pv 6) (@pe_ix _ _ _ _ _ _ _ ix_tup (pv 15) pe_int (fun _ _=>rfl))) (pe_op op_mulH (pe_op op_mulH (pe_op op_add (pe_op op_sub (pv 6) (pv 8)) pe_int) (pv 14)) (@pe_ix _ _ _ _ _ _ _ ix_tup (pv 15) pe_int (fun _ _=>rfl))) (nomark _)))))))))))))))))),?_⟩
 walk_at "st"
 have line:=line_val
 walk_at "go"
 intro r0 as0 ts0 H1 sm1 hr1 hR1 ht1 hc1
 have hS1:=sm1.seq hS
 refine ⟨ns,hS1,by decide,hl,as0,ts0,hR1,ht1,hc1,fun r as ts H2 sm2 hr2 hR2 ht2=>?_⟩
 have hS2:=sm2.seq hS1
 clear hr1 hR1 ht1 hc1 sm1 sm2 hS1
 have htl:=hR2.m
 have nd:=hR2.nd
 have hokk:=hR2.ok
 have hn:=hR2.n
 rename_i rest hrest
 subst hrest
 walk_at "go"
 intro td htd
 have s4:Same H2 (upd H2 td (.dK [])):=Same.new htd
 have htd4:upd H2 td (.dK []) td=some (.dK []):=upd_same
 generalize upd H2 td (.dK [])=H4 at s4 htd4 ⊢
 have hR4:=hR2.same s4
 have hS4:=s4.seq hS2
 clear s4 hR2 hS2 hr2 htd
 rename_i rest hrest
 subst hrest
 walk_at "go"
 refine ⟨⟨_,hR4.l⟩,?_⟩
 rename_i rest hrest
 refine forL_by (xs:=as.map V.ref) (fun i σ H'=>∃(tks:List (Key×V)) (v3 v4 v5:Option V),σ=[some (V.ref a),some (V.ref r),some (V.ref td),v3,v4,v5,none,none,none,none,none,none,none,none,none,none]∧SameBut td H4 H'∧H' td=some (.dK tks)∧tks.length≤i∧∀(j:Nat) (t:Th),j < i→ts[j]?=some t→valV tks (Sum.inr t.1)=some (.int t.2.1)) ⟨[],none,none,none,rfl,fun b o e _=>e,htd4,Nat.le_refl _,fun j t hj=>absurd hj (Nat.not_lt_zero j)⟩ (fun i σ H' _ h_=>by obtain ⟨_,_,_,_,_,sb,_⟩:=h_;exact SqL.butD sb htd4 hR4.l) ?_ ?_
 · clear hrest
   rintro i u σ H' hu ⟨tks,v3,v4,v5,rfl,sb,htd',hlt,hvt⟩
   rw [List.getElem?_map]at hu
   cases ha:as[i]? with
   | none=>rw [ha]at hu;cases hu
   | some pa=>
   rw [ha]at hu
   cases hu
   have hi:i < ts.length:=by rw [← hn];exact (List.getElem?_eq_some_iff.mp ha).1
   have ht:=th_at hi
   have hT:=SqT.butD sb htd4 (hR4.at_ i pa _ ha ht)
   walk_at "go"
   refine ⟨_,hT,rfl,_,_,rfl,_,_,rfl,_,_,rfl,rfl,?_⟩
   walk_at "go"
   have hlp:=length_putK tks (Sum.inr (ts.getD i th0).1:Key) (V.int (ts.getD i th0).2.1)
   refine ⟨_,DPut.k (k:=Sum.inr (ts.getD i th0).1) htd' (by omega),fun b o e nb=>by rw [upd_ne nb];exact sb _ _ e nb,_,upd_same,by omega,fun j t hj h2=>?_⟩
   rw [valV_put]
   by_cases hji:j=i
   · rw [hji,ht]at h2
     cases h2
     rw [if_pos rfl]
   · rw [if_neg (fun k=>hji ?_)]
     · exact hvt j t (by omega) h2
     · have k1:t.1=(ts.getD i th0).1:=Sum.inr.inj k
       have g1:(ts.map (·.1))[j]?=some t.1:=by rw [List.getElem?_map,h2];rfl
       have g2:(ts.map (·.1))[i]?=some (ts.getD i th0).1:=by rw [List.getElem?_map,ht];rfl
       rw [← k1]at g2
       exact (List.getElem?_inj (by rw [List.length_map];have:=(List.getElem?_eq_some_iff.mp h2).1;exact this) nd).mp (g1.trans g2.symm)
 · rintro σ H5 ⟨tks,v3,v4,v5,rfl,sb,htd5,hlt,hvt0⟩
   rw [List.length_map,hn]at hvt0
   have hvt:∀y∈ts.map (·.1),valV tks (Sum.inr y)=some (.int (cst ts y)):=fun y hy=>by
    obtain ⟨j,t,ht,rfl⟩:=mem_nth hy
    rw [cst_at nd ht]
    exact hvt0 j t ((List.getElem?_eq_some_iff.mp ht).1) ht
   have hR5:RowsAt K H5 r as ts:=⟨SqL.butD sb htd4 hR4.l,hR4.n,hR4.m,fun i b t e1 e2=>SqT.butD sb htd4 (hR4.at_ i b t e1 e2),hR4.ok,hR4.nd⟩
   have hS5:=SqL.butD sb htd4 hS4
   clear sb hR4 hS4 htd4 hlt hvt0
   subst hrest
   walk_at "go"
   refine ⟨as,ts,hR5,ht2,fun n H6 sm6 hn1 hn2 hnt=>?_⟩
   have hR6:=hR5.same sm6
   have hS6:=sm6.seq hS5
   have htd6:=sm6 _ _ htd5
   clear hR5 hS5 htd5 sm6
   rename_i rest hrest
   subst hrest
   walk_at "go"
   refine ⟨⟨_,hR6.l⟩,?_⟩
   refine compL_ix (fun i=>V.int (ts.getD i th0).2.2) hR6.l (by rw [List.length_map];omega) (fun b i x H' Q' hx sm q'=>?_) fun D hD=>?_
   · rw [List.getElem?_map]at hx
     cases ha:as[i]? with
     | none=>rw [ha]at hx;cases hx
     | some p=>
     rw [ha]at hx
     cases hx
     have hi:i < ts.length:=by rw [← hn];exact (List.getElem?_eq_some_iff.mp ha).1
     have hT:=sm.tup (hR6.at_ i p _ ha (th_at hi))
     walk_at "go"
     exact q'
   have eD:(List.range (as.map V.ref).length).map (fun i=>V.int (ts.getD i th0).2.2)=(ts.map (·.2.2)).map V.int:=by
    rw [List.length_map,hn,List.map_map]
    refine List.ext_getElem? fun i=>?_
    rw [List.getElem?_map,List.getElem?_map]
    by_cases hi:i < ts.length
    · rw [List.getElem?_range hi,th_at hi];rfl
    · rw [List.getElem?_eq_none (by rw [List.length_range];omega),List.getElem?_eq_none (by omega)];rfl
   rw [eD]
   clear eD
   have smD:Same H6 (upd H6 D (.lst ((ts.map (·.2.2)).map V.int))):=Same.new hD
   have hDD:upd H6 D (.lst ((ts.map (·.2.2)).map V.int)) D=some (.lst ((ts.map (·.2.2)).map V.int)):=upd_same
   generalize upd H6 D (.lst ((ts.map (·.2.2)).map V.int))=H7 at smD hDD ⊢
   have hR7:=hR6.same smD
   have hS7:=smD.seq hS6
   have htd7:=smD _ _ htd6
   clear hD hR6 hS6 htd6 smD
   refine ⟨D,rfl,ts.map (·.2.2),SqL.of hDD,fun e=>by have:=congrArg List.length e;rw [List.length_map,List.length_nil]at this;omega,fun v hv hmax=>?_⟩
   have hv1:1≤v:=by
    obtain ⟨t,ht,rfl⟩:=List.mem_map.mp hv
    exact (hokk t ht).2.2.2.1
   have hvn:v≤n:=by
    obtain ⟨t,ht,rfl⟩:=List.mem_map.mp hv
    exact hnt t ht
   have hmx:∀t∈ts,t.2.2≤v:=fun t ht=>hmax _ (List.mem_map.mpr ⟨t,ht,rfl⟩)
   clear hmax hv hDD
   rename_i rest hrest
   subst hrest
   walk_at "go"
   have f0:=Int.emod_nonneg (ns.getD 7 0) (show n - v+1≠0 by omega)
   have f1:=Int.emod_lt_of_pos (ns.getD 7 0) (show 0 < n - v+1 by omega)
   have hF1:v≤v+ns.getD 7 0 % (n - v+1):=by omega
   have hF2:v+ns.getD 7 0 % (n - v+1)≤n:=by omega
   generalize v+ns.getD 7 0 % (n - v+1)=F at hF1 hF2 ⊢
   clear f0 f1
   refine ⟨as,ts,hR7,ht2,fun p0 ys0 H8 sm8 hp0 hyl0 hin0=>⟨_,SqL.of hp0,fun ap hap=>?_⟩⟩
   have ecut:cutV (ys0.map V.str) none (some 100)=(ys0.take 100).map V.str:=by
    unfold cutV
    show ((ys0.map V.str).drop 0).take (HT.sIx (ys0.map V.str).length (ys0.map V.str).length (some 100) - 0)=_
    rw [List.drop_zero,Nat.sub_zero,List.map_take]
    unfold HT.sIx
    dsimp only
    rw [if_neg (by decide)]
    show List.take (min 100 (ys0.map V.str).length) _=_
    rcases Nat.le_total 100 (ys0.map V.str).length with h | h
    · rw [Nat.min_eq_left h]
    · rw [Nat.min_eq_right h,List.take_of_length_le (Nat.le_refl _),List.take_of_length_le h]
   rw [ecut]
   have hyl:(ys0.take 100).length≤100:=by rw [List.length_take];omega
   have hin:∀y∈ys0.take 100,y∈ts.map (·.1):=fun y hy=>hin0 y (List.mem_of_mem_take hy)
   generalize ys0.take 100=ys at hyl hin ⊢
   clear ecut hyl0 hin0
   have smA:Same H8 (upd H8 ap (.lst (ys.map V.str))):=Same.new hap
   have hap9:upd H8 ap (.lst (ys.map V.str)) ap=some (.lst (ys.map V.str)):=upd_same
   generalize upd H8 ap (.lst (ys.map V.str))=H9 at smA hap9 ⊢
   have sm79:=sm8.trans smA
   have hR9:=hR7.same sm79
   have htd9:=sm79 _ _ htd7
   clear hR7 hS7 htd7 sm8 smA hap hp0 sm79
   rename_i rest hrest
   subst hrest
   walk_at "go"
   refine ⟨_,.inl hR9.l,fun D2 hD2=>?_⟩
   have smE:Same H9 (upd H9 D2 (.lst (as.map V.ref))):=Same.new hD2
   have hDE:upd H9 D2 (.lst (as.map V.ref)) D2=some (.lst (as.map V.ref)):=upd_same
   generalize upd H9 D2 (.lst (as.map V.ref))=H10 at smE hDE ⊢
   have hR10:=hR9.same smE
   have hap10:=smE _ _ hap9
   have htd10:=smE _ _ htd9
   have hRD:RowsAt K H10 D2 as ts:=⟨SqL.of hDE,hR10.n,hR10.m,hR10.at_,hR10.ok,hR10.nd⟩
   obtain ⟨rws,e1,e2,e3,e4⟩:=hRD.init
   intro st dx hst hdx ne1
   have smx:Same H10 (upd (upd H10 dx (.own st)) st (.ins Z1 dx [])):=fun b o e=>by rw [upd_ne (ne_of_none e hst),upd_ne (ne_of_none e hdx)];exact e
   refine ⟨dx,upd_same,rws,by rw [e1];exact smx.seq hRD.l,fun t ht=>smx.tup (e2 t ht),e3,fun H11 sb11 stk=>?_⟩
   rw [e4]at stk
   have sm11:Same H10 H11:=same_made hst hdx sb11
   have hap11:=sm11 _ _ hap10
   have htd11:=sm11 _ _ htd10
   clear smx hRD e1 e2 e3 e4 sb11 hst hdx ne1 smE hD2 hDE hR10 sm11 hap10 htd10 hR9 hap9 htd9
   have hU:=un_of htl hokk
   generalize upr ts=U at hU
   have hUp:=hU.p
   have hUb:=hU.b
   rename_i rest hrest
   subst hrest
   walk_at "go"
   intro q9 dy hq9 hdy ne9
   refine ⟨dy,upd_same,hn1,hn2,U,hUp,fun x H12 sb12 hfr hd12=>?_⟩
   have smq:Same H11 (upd (upd H11 dy (.own q9)) q9 (.ins Z0 dy [])):=fun b o e=>by rw [upd_ne (ne_of_none e hq9),upd_ne (ne_of_none e hdy)];exact e
   have sm12:Same H11 H12:=same_made hq9 hdy sb12
   have hfr11:∀b∈DuM q9 x,H11 b=none:=fun b hb=>by
    have hb':b=q9∨b=x.dd∨b=x.rr:=by simpa [DuM] using hb
    have nn:∀b,(upd (upd H11 dy (.own q9)) q9 (.ins Z0 dy [])) b=none→H11 b=none:=fun b k=>by
     cases k2:H11 b with
     | none=>rfl
     | some o=>rw [smq _ _ k2]at k;cases k
    rcases hb' with k | k | k <;> rw [k]
    · exact hq9
    · exact nn _ (hfr _ (by simp))
    · exact nn _ (hfr _ (by simp))
   clear smq sb12 hfr hq9 hdy ne9
   have hh12:AtD Z0 U H12 (DuM q9 x) q9 st n ⟨0,[],fun _=>0,[]⟩:=⟨x,rfl,hd12⟩
   clear hd12
   rename_i rest hrest
   subst hrest
   walk_at "go"
   have hap12:=sm12 _ _ hap11
   refine ⟨_,.inl (SqL.of hap12),fun hd hhd=>?_⟩
   have smh:Same H12 (upd H12 hd (.lst (ys.map V.str))):=Same.new hhd
   have hhd13:upd H12 hd (.lst (ys.map V.str)) hd=some (.lst (ys.map V.str)):=upd_same
   have nhd:hd∉DuM q9 x:=fun k=>hh12.live _ k hhd
   generalize upd H12 hd (.lst (ys.map V.str))=H13 at smh hhd13 ⊢
   have sm13:=sm12.trans smh
   have hh13:=hh12.same smh
   clear hh12 sm12 smh hhd hap12
   have hrF:∀y∈ys,rm ts y≤F:=fun y hy=>by
    obtain ⟨j,t,ht,e⟩:=mem_nth (hin y hy)
    rw [← e,rm_at nd ht]
    have:=hmx t (List.mem_of_getElem? ht)
    omega
   have hPI:=PI.run (C:=Z0) (F:=F) (P:=n) hU nd hin hF2 hrF ys.length (Nat.le_refl _)
   have hDI0:=(PI.start (ys:=ys) (F:=F) (P:=n) hU nd fun y h=>h).di
   refine ⟨H11,st,DuM q9 x,n,U,ts,ys,_,hh13,hDI0,stk,sm13,hfr11,nd,htl,SqL.of hhd13,nhd,by omega,hin,fun y hy=>by have:=hrF y hy;omega,hn1,hn2,Nat.zero_le _,fun b bs gs H14 kp14 hb14 htup hbk hh14=>?_⟩
   have sm14:Same H11 H14:=Kp.same sm13 kp14 hfr11
   clear hh13 hDI0 kp14 sm13 hhd13 nhd
   have hap14:=sm14 _ _ hap11
   have htd14:=sm14 _ _ htd11
   have stk14:=stk.same sm14
   clear hap11 htd11 stk sm14 hfr11 hb14 htup
   generalize gst (TD Z0 U ts) (rm ts) n ⟨0,[],fun _=>0,[]⟩ ys ys.length=G at hh14 hPI
   obtain ⟨g,gl⟩:=G
   have hrl:g.rs.length=ys.length:=hPI.rl
   have hnn:∀w∈g.rs,0≤w:=hPI.di.nn
   have hpsi:=hPI.psi
   have hslk:0≤slk (rm ts) g:=N41.sm_nn fun y hy=>Int.mul_nonneg (by
    obtain ⟨s0,s1,r1,_⟩:=hU.sh nd (hPI.di.kn y hy)
    omega) (by have h0:g.r≤g.f y:=(hPI.di.lo.c y hy).1;omega)
   obtain ⟨x14,ex14,hd14⟩:=hh14
   have hbv:∀w∈g.rs,Bd w:=hd14.b.2.2
   change (n - F+1) * (pds (cst ts) (grows (TD Z0 U ts) (rm ts) n ⟨0,[],fun _=>0,[]⟩ ys ys.length) * U)+(F - 1) * slk (rm ts) g≤n * fl (cst ts) (rm ts) g.rs U F ys ys.length at hpsi
   obtain ⟨dx14,fs14,ho14,hf14⟩:=id hd14.o
   rename_i rest hrest
   subst hrest
   walk_at "go"
   refine ⟨dx14,fs14,ho14,hf14.m _ (by simp),st,n,U,x14,g,hd14,fun pl us hpl hus=>?_⟩
   have smp:Same H14 (upd H14 pl (.lst (us.map V.ref))):=Same.new hpl
   have hpl15:upd H14 pl (.lst (us.map V.ref)) pl=some (.lst (us.map V.ref)):=upd_same
   generalize upd H14 pl (.lst (us.map V.ref))=H15 at smp hpl15 ⊢
   have hus15:=hus.keep fun v e h=>smp _ _ h
   have hap15:=smp _ _ hap14
   have htd15:=smp _ _ htd14
   have stk15:=stk14.same smp
   have hbk15:=hbk.same smp
   clear hPI hd14 ex14 ho14 hf14 smp hpl hus hap14 htd14 stk14 hbk
   rename_i rest hrest
   subst hrest
   walk_at "go"
   have hul:us.length=ys.length∧True:=⟨hus15.1.trans hrl,trivial⟩
   have hul1:=Nat.le_of_eq hul.1
   have hul2:=Nat.le_of_eq hul.1.symm
   clear hul
   refine ⟨_,.inl (SqL.of hpl15),_,.inl (SqL.of hap15),?_⟩
   rw [if_neg (by rw [List.length_map,List.length_map];omega)]
   refine ⟨⟨_,SqL.of hpl15⟩,?_⟩
   refine compL_ixf (fun _=>false) (fun _=>V.non) (SqL.of hpl15) (by rw [List.length_map];omega) (fun b' i x' H' QT hx sm qt=>?_) (fun b' i x' H' Q' hx hp=>absurd hp (by decide)) fun D3 H16 hD3 sm16 hD16=>?_
   · rw [List.getElem?_map]at hx
     cases ha:us[i]? with
     | none=>rw [ha]at hx;cases hx
     | some pa=>
     rw [ha]at hx
     cases hx
     have hi:i < g.rs.length:=by have:=(List.getElem?_eq_some_iff.mp ha).1;omega
     have hw:=List.getElem?_eq_getElem hi
     have hwm:=List.getElem_mem hi
     generalize g.rs[i]'hi=w' at hw hwm
     have hT:RtA H' pa U w':=sm _ _ (hus15.2 i pa w' ha hw)
     have hsg:=rt_sign hUp (hnn w' hwm)
     walk_at "go"
     refine ixT_of (SqT.of hT) (v:=V.int (rt U w').1) rfl ⟨_,rfl,?_⟩
     rw [decide_eq_false hsg]
     exact qt _ (Same.refl _)
   rw [show ((List.range (us.map V.ref).length).filter fun _=>false)=[] from List.filter_eq_nil_iff.mpr fun _ _=>by decide]at hD16
   refine ⟨D3,rfl,_,.inl (SqL.of hD16),?_⟩
   rw [if_neg (by simp)]
   have hus16:=hus15.keep fun v e h=>sm16 _ _ h
   have hpl16:=sm16 _ _ hpl15
   have hap16:=sm16 _ _ hap15
   have htd16:=sm16 _ _ htd15
   have stk16:=stk15.same sm16
   have hbk16:=hbk15.same sm16
   clear hus15 hpl15 hap15 htd15 stk15 hbk15 sm16 hD3 hD16
   rename_i rest hrest
   subst hrest
   walk_at "go"
   refine ⟨⟨_,hbk16.l⟩,?_⟩
   have hbn:bs.length=ys.length∧True:=⟨hbk16.n.trans grows_len,trivial⟩
   have hgn:gs.length=ys.length∧True:=⟨hbk16.m.trans grows_len,trivial⟩
   have hrow:∀(i:Nat) (c:Addr),bs[i]?=some c→∃g',SqT K H16 c [.str (grow (TD Z0 U ts) (rm ts) n ⟨0,[],fun _=>0,[]⟩ ys i).1,.bl (grow (TD Z0 U ts) (rm ts) n ⟨0,[],fun _=>0,[]⟩ ys i).2.1,.ref g']∧(grow (TD Z0 U ts) (rm ts) n ⟨0,[],fun _=>0,[]⟩ ys i).1∈ts.map (·.1):=fun i c hc=>by
    have hil:i < ys.length:=by have:=(List.getElem?_eq_some_iff.mp hc).1;omega
    have hgi:=List.getElem?_eq_getElem (show i < gs.length by omega)
    have hri:(grows (TD Z0 U ts) (rm ts) n ⟨0,[],fun _=>0,[]⟩ ys ys.length)[i]?=some (grow (TD Z0 U ts) (rm ts) n ⟨0,[],fun _=>0,[]⟩ ys i):=by unfold grows;rw [List.getElem?_map,List.getElem?_range hil];rfl
    refine ⟨_,(hbk16.t i c _ _ hc hgi hri).1,?_⟩
    have hy:=List.getElem?_eq_getElem hil
    have hym:=List.mem_of_getElem? hy
    rw [grow_at hy]
    have e:∀st',(gask (TD Z0 U ts) (rm ts) n st' ys[i]).2.1=ys[i]:=fun st'=>by unfold gask;split <;> rfl
    rw [e]
    exact hin _ hym
   refine compL_ixf (fun i=>!(grow (TD Z0 U ts) (rm ts) n ⟨0,[],fun _=>0,[]⟩ ys i).2.1) (fun i=>V.int (cst ts (grow (TD Z0 U ts) (rm ts) n ⟨0,[],fun _=>0,[]⟩ ys i).1)) hbk16.l (by rw [List.length_map];omega) (fun b' i x' H' QT hx sm qt=>?_) (fun b' i x' H' Q' hx hp sm q'=>?_) fun D4 H17 hD4 sm17 hD17=>?_
   · rw [List.getElem?_map]at hx
     cases ha:bs[i]? with
     | none=>rw [ha]at hx;cases hx
     | some pa=>
     rw [ha]at hx
     cases hx
     obtain ⟨g',hT,_⟩:=hrow i pa ha
     have hT':=sm.tup hT
     generalize grow (TD Z0 U ts) (rm ts) n ⟨0,[],fun _=>0,[]⟩ ys i=rw0 at hT' qt
     walk_at "go"
     exact qt _ (Same.refl _)
   · rw [List.getElem?_map]at hx
     cases ha:bs[i]? with
     | none=>rw [ha]at hx;cases hx
     | some pa=>
     rw [ha]at hx
     cases hx
     obtain ⟨g',hT,hm⟩:=hrow i pa ha
     have hT':=sm.tup hT
     have htd':=sm _ _ htd16
     generalize grow (TD Z0 U ts) (rm ts) n ⟨0,[],fun _=>0,[]⟩ ys i=rw0 at hT' hm q'
     walk_at "go"
     exact ⟨_,by rw [← hvt _ hm];exact DGet.k (k:=Sum.inr rw0.1) htd',q' _ (Same.refl _)⟩
   rw [List.length_map,hbn.1,pds_eq]at hD17
   refine ⟨D4,rfl,_,SqL.of hD17,?_⟩
   have hus17:=hus16.keep fun v e h=>sm17 _ _ h
   have hpl17:=sm17 _ _ hpl16
   have hap17:=sm17 _ _ hap16
   have stk17:=stk16.same sm17
   have hpaid:=pds_nn (rows:=grows (TD Z0 U ts) (rm ts) n ⟨0,[],fun _=>0,[]⟩ ys ys.length) (cst_nn hU)
   unfold pds at hpaid hpsi
   generalize (((grows (TD Z0 U ts) (rm ts) n ⟨0,[],fun _=>0,[]⟩ ys ys.length).filter (fun r=>!r.2.1)).map fun r=>cst ts r.1).sum=paid at hpsi hpaid ⊢
   clear hus16 hpl16 hap16 stk16 hbk16 sm17 hD4 hD17 hrow hbn hgn
   rename_i rest hrest
   subst hrest
   walk_at "go"
   refine ⟨_,.inl (SqL.of hap17),fun hd2 hhd2=>?_⟩
   have smk:Same H17 (upd H17 hd2 (.lst (ys.map V.str))):=Same.new hhd2
   have hhd18:upd H17 hd2 (.lst (ys.map V.str)) hd2=some (.lst (ys.map V.str)):=upd_same
   generalize upd H17 hd2 (.lst (ys.map V.str))=H18 at smk hhd18 ⊢
   have hus18:=hus17.keep fun v e h=>smk _ _ h
   have hpl18:=smk _ _ hpl17
   have stk18:=stk17.same smk
   clear hus17 hpl17 stk17 hap17 smk hhd2
   have hPr:PrAt K H18 pl (g.rs.map (rt U)):=⟨us,SqL.of hpl18,by rw [List.length_map];exact hus18.1,fun i c q' e1 e2=>by
    rw [List.getElem?_map]at e2
    cases hw:g.rs[i]? with
    | none=>rw [hw]at e2;cases e2
    | some w'=>
    rw [hw]at e2
    cases e2
    exact SqT.of (hus18.2 i c w' e1 hw)⟩
   have hqs:∀q'∈g.rs.map (rt U),0≤q'.1∧q'.1≤10 ^ 240∧0 < q'.2∧q'.2 ∣ U:=fun q' hq'=>by
    obtain ⟨w',hw,rfl⟩:=List.mem_map.mp hq'
    obtain ⟨c1,c2,c3,c4,c5⟩:=rt_all (v:=w') hUp
    obtain ⟨b1,b2⟩:=hbv w' hw
    have hsg:=rt_sign hUp b1
    have h240:(10:Int) ^ 230≤10 ^ 240:=by decide+kernel
    exact ⟨by omega,by omega,c2,dvd_cop (c:=U) ⟨w',by rw [c1,Int.mul_comm]⟩ c3⟩
   have hyb:∀y∈ys,0≤cst ts y∧cst ts y≤10 ^ 30∧1≤rm ts y:=fun y hy=>by
    obtain ⟨s0,s1,r1,r2,r3,c1,c2⟩:=hU.sh nd (hin y hy)
    exact ⟨c1,c2,r1⟩
   refine ⟨U,ts,stk18,nd,ys,SqL.of hhd18,by omega,hin,hrF,by omega,by omega,hyb,g.rs.map (rt U),hPr,by rw [List.length_map];exact hrl,hUp,hUb,hqs,fun S fp H19 hS0 hSU hSall sm19 hfp hfp19=>?_⟩
   have hsc:=fl_scale (D:=U / S) (Int.ediv_nonneg (by omega) (by omega)) (cst ts) (rm ts) (topsOf S (g.rs.map (rt U))) S F ys ys.length
   rw [tops_all hUp hS0 hSU hSall,Int.ediv_mul_cancel hSU]at hsc
   rw [hsc]at hpsi
   have hSl:=Int.le_of_dvd hUp hSU
   have hT0:∀t∈topsOf S (g.rs.map (rt U)),0≤t:=fun t ht=>by
    unfold topsOf at ht
    obtain ⟨qq,hqq,rfl⟩:=List.mem_map.mp ht
    obtain ⟨a1,a2,a3,a4⟩:=hqs qq hqq
    exact Int.mul_nonneg a1 (fdiv_in hS0 a3).1
   have hup:=fl_up (c:=cst ts) (r:=rm ts) (T:=topsOf S (g.rs.map (rt U))) (S:=S) (P:=F) (B:=10 ^ 210) (ys:=ys) hT0 (by decide+kernel) ys.length (by rw [tops_len,List.length_map];omega) (fun i hi=>by
    have hm:ys.getD i Str.empty∈ys:=by rw [List.getD_eq_getElem?_getD,List.getElem?_eq_getElem hi];exact List.getElem_mem hi
    obtain ⟨c0,c1,_⟩:=hyb _ hm
    refine ⟨?_,hrF _ hm⟩
    calc cst ts (ys.getD i Str.empty) * S≤10 ^ 30 * 10 ^ 180:=Int.mul_le_mul c1 (by omega) (by omega) (by decide)
     _=10 ^ 210:=by decide+kernel)
   have hk0:0≤(F - 1) * slk (rm ts) g:=Int.mul_nonneg (by omega) hslk
   generalize fl (cst ts) (rm ts) (topsOf S (g.rs.map (rt U))) S F ys ys.length=φ at hfp19 hpsi hup
   obtain ⟨hle1,hle2⟩:=end_le hUp hS0 hSU hk0 hpsi
   have hm0:0≤(n - F+1) * paid:=Int.mul_nonneg (by omega) hpaid
   have hφ0:0≤φ:=by
    have h1:0≤(n - F+1) * paid * S:=Int.mul_nonneg hm0 (by omega)
    exact Int.nonneg_of_mul_nonneg_right (a:=n) (by omega) (by omega)
   have hφ1:φ≤10 ^ 213:=by
    have h1:((ys.length:Nat):Int) * 10 ^ 210≤100 * 10 ^ 210:=Int.mul_le_mul_of_nonneg_right (by omega) (by decide+kernel)
    have h2:(100:Int) * 10 ^ 210≤10 ^ 213:=by decide+kernel
    omega
   obtain ⟨c1,c2,c3,c4,c5⟩:=rt_all (v:=φ) hS0
   have hx1:(rt S φ).1.natAbs < 10 ^ 1000:=Nat.lt_of_le_of_lt c4 (nat_lt (a:=213) hφ0 hφ1 (by decide))
   have hy1:(rt S φ).2.natAbs < 10 ^ 1000:=Nat.lt_of_le_of_lt c5 (nat_lt (a:=180) (by omega) (by omega) (by decide))
   have hmp:(n - F+1) * paid≤10 ^ 220:=by
    have h1:(n - F+1) * paid * 1≤(n - F+1) * paid * S:=Int.mul_le_mul_of_nonneg_left (by omega) hm0
    have h2:n * φ≤1000000 * 10 ^ 213:=Int.mul_le_mul hn2 hφ1 hφ0 (by decide)
    have h3:(1000000:Int) * 10 ^ 213≤10 ^ 220:=by decide+kernel
    omega
   have hpd:paid≤10 ^ 220:=by
    have h1:1 * paid≤(n - F+1) * paid:=Int.mul_le_mul_of_nonneg_right (by omega) hpaid
    omega
   rename_i rest hrest
   subst hrest
   walk_at "go"
   refine ixT_of (SqT.of hfp19) (v:=V.int (rt S φ).1) rfl ⟨_,rfl,⟨nat_lt (a:=10) (by omega) (by omega) (by decide),hx1⟩,⟨nat_lt (a:=10) (by omega) (by omega) (by decide),nat_lt (a:=220) hpaid hpd (by decide)⟩,?_⟩
   refine ixT_of (SqT.of hfp19) (v:=V.int (rt S φ).2) rfl ⟨_,rfl,⟨nat_lt (a:=220) hm0 hmp (by decide),hy1⟩,?_⟩
   rw [decide_eq_true hle2]
   exact q _
end
theorem all_mk{l:W.OpenLaw}{w:World}{K:W.Frag}{h:Heap}{mg:Str→Option Value}{fa f0 f1 f2 f3 f4 f5 f6 f7 f8 f9 f10 f11 f12 f13 f14 f15 f16 f17 f18 f19 f20 f21 f22 f23 f24 f25 f26 f27 f28 f29 f30 f31 f32 f33 f34 f35 f36 f37 f38 f39 f40 f41 f42 f43 f44 f45 Z1 Z2 Z3 Z0:Addr}(X:K.In h)(G:h.Ns mainGlobals mg)(hfa:mg "law"=some (.ref fa))
 {od23 an23 od45 an45:Option Addr} {sl23 sl45:Array (Option Value)} {oc23 kV23 dc23 pm23 cd23 ct23 oc45 kV45 dc45 pm45 cd45 ct45:Value}
 {d0 d1 d2 d3 d4 d5 d6 d7 d8 d9 d10 d11 d12 d13 d14 d15 d16 d17 d18 d19 d20 d21 d22 d24 d25 d26 d27 d28 d29 d30 d31 d32 d33 d34 d35 d36 d37 d38 d39 d40 d41 d42 d43 d44:FuncData}
 (a0:W.nsIn K mainGlobals "made_of"=some (some (.ref f0))) (F0:Fun K "made_of" "made_of" Z1y f0 d0)
 (a1:W.nsIn K mainGlobals "is_name"=some (some (.ref f1))) (F1:Fun K "is_name" "is_name" Z1z f1 d1)
 (a2:W.nsIn K mainGlobals "is_whole"=some (some (.ref f2))) (F2:Fun K "is_whole" "is_whole" Z1m f2 d2)
 (a3:W.nsIn K mainGlobals "is_within"=some (some (.ref f3))) (F3:Fun K "is_within" "is_within" Z18 f3 d3)
 (a4:W.nsIn K mainGlobals "check_places"=some (some (.ref f4))) (F4:Fun K "check_places" "check_places" Z0c f4 d4)
 (a5:W.nsIn K mainGlobals "check_thing"=some (some (.ref f5))) (F5:Fun K "check_thing" "check_thing" Z0i f5 d5)
 (M6:Mk K Z1 f6) (F6:Fun K "__init__" "Stock.__init__" Z0w f6 d6)
 (M7:Meth K Z1 "has" f7) (F7:Fun K "has" "Stock.has" Z19 f7 d7)
 (M8:Meth K Z1 "thing_of" f8) (F8:Fun K "thing_of" "Stock.thing_of" Z06 f8 d8)
 (M9:Meth K Z1 "room_of" f9) (F9:Fun K "room_of" "Stock.room_of" Z08 f9 d9)
 (a10:W.nsIn K mainGlobals "check_asks"=some (some (.ref f10))) (F10:Fun K "check_asks" "check_asks" Z0x f10 d10)
 (M11:Mk K Z2 f11) (F11:Fun K "__init__" "Shelf.__init__" Z0y f11 d11)
 (M12:Meth K Z2 "lying" f12) (F12:Fun K "lying" "Shelf.lying" Z0j f12 d12)
 (M13:Meth K Z2 "holds" f13) (F13:Fun K "holds" "Shelf.holds" Z0k f13 d13)
 (M14:Meth K Z2 "room_left" f14) (F14:Fun K "room_left" "Shelf.room_left" Z02 f14 d14)
 (M15:Meth K Z2 "put" f15) (F15:Fun K "put" "Shelf.put" Z1a f15 d15)
 (M16:Meth K Z2 "cast" f16) (F16:Fun K "cast" "Shelf.cast" Z0z f16 d16)
 (M17:Meth K Z1 "cost_of" f17) (F17:Fun K "cost_of" "Stock.cost_of" Z09 f17 d17)
 (a18:W.nsIn K mainGlobals "divisor_of"=some (some (.ref f18))) (F18:Fun K "divisor_of" "divisor_of" Z10 f18 d18)
 (a19:W.nsIn K mainGlobals "ratio_of"=some (some (.ref f19))) (F19:Fun K "ratio_of" "ratio_of" Z1n f19 d19)
 (a20:W.nsIn K mainGlobals "plus_ratio"=some (some (.ref f20))) (F20:Fun K "plus_ratio" "plus_ratio" Z11 f20 d20)
 (a21:W.nsIn K mainGlobals "minus_ratio"=some (some (.ref f21))) (F21:Fun K "minus_ratio" "minus_ratio" Z0l f21 d21)
 (a22:W.nsIn K mainGlobals "under_ratio"=some (some (.ref f22))) (F22:Fun K "under_ratio" "under_ratio" Z0m f22 d22)
 (a23:W.findIn K (.ref Z3) "__init__"=some (some (.ref f23))) (l23:K.lookup f23=some ⟨oc23,od23,.func (W.fnOf "__init__" "Rule.__init__" (defArgs Zx) (defBody Zx) (defScope Zx) .none kV23 dc23 pm23 an23 cd23 ct23),sl23⟩) (c23:W.codeIn K cd23 "Rule.__init__"=true) (n23:W.isFn K (.ref f23)=true) (k23:W.keepIn K (.ref Z3)=true) (m23:W.makesIn K Z3=true) (kf23:W.keepIn K (.ref f23)=true)
 (fc23:W.findCls K (.ref Z3) (.type "type") "__init__"=some (.val (.ref f23))) (sc23:W.specialIn K (.ref Z3) "__getattribute__"=some (some (.builtin "type.__getattribute__"))) (rc23:W.readsIn K Z3 (.type "type")=true)
 (M24:Mk K Z0 f24) (F24:Fun K "__init__" "Dues.__init__" Z1b f24 d24)
 (M25:Meth K Z0 "owe" f25) (F25:Fun K "owe" "Dues.owe" Z1o f25 d25)
 (M26:Meth K Z0 "asked" f26) (F26:Fun K "asked" "Dues.asked" Z12 f26 d26)
 (M27:Meth K Z0 "choice" f27) (F27:Fun K "choice" "Dues.choice" Z0n f27 d27)
 (M28:Meth K Z0 "gone" f28) (F28:Fun K "gone" "Dues.gone" Z1c f28 d28)
 (M29:Meth K Z0 "came" f29) (F29:Fun K "came" "Dues.came" Z1d f29 d29)
 (M30:Meth K Z0 "prices" f30) (F30:Fun K "prices" "Dues.prices" Z0o f30 d30)
 (a31:W.nsIn K mainGlobals "make_room"=some (some (.ref f31))) (F31:Fun K "make_room" "make_room" Z1e f31 d31)
 (a32:W.nsIn K mainGlobals "row_of"=some (some (.ref f32))) (F32:Fun K "row_of" "row_of" Z2d f32 d32)
 (a33:W.nsIn K mainGlobals "book_of"=some (some (.ref f33))) (F33:Fun K "book_of" "book_of" Z20 f33 d33)
 (a34:W.nsIn K mainGlobals "earlier_asks"=some (some (.ref f34))) (F34:Fun K "earlier_asks" "earlier_asks" Z0d f34 d34)
 (a35:W.nsIn K mainGlobals "check_prices"=some (some (.ref f35))) (F35:Fun K "check_prices" "check_prices" Z0e f35 d35)
 (a36:W.nsIn K mainGlobals "common_bottom"=some (some (.ref f36))) (F36:Fun K "common_bottom" "common_bottom" Z0a f36 d36)
 (a37:W.nsIn K mainGlobals "floor_of"=some (some (.ref f37))) (F37:Fun K "floor_of" "floor_of" Z1p f37 d37)
 (a38:W.nsIn K mainGlobals "_law_cell"=some (some (.ref f38))) (F38:Fun K "_law_cell" "_law_cell" Z2e f38 d38)
 (a39:W.nsIn K mainGlobals "_law_stream"=some (some (.ref f39))) (F39:Fun K "_law_stream" "_law_stream" Z1q f39 d39)
 (a40:W.nsIn K mainGlobals "_law_names"=some (some (.ref f40))) (F40:Fun K "_law_names" "_law_names" Z21 f40 d40)
 (a41:W.nsIn K mainGlobals "_law_rows"=some (some (.ref f41))) (F41:Fun K "_law_rows" "_law_rows" Z2f f41 d41)
 (a42:W.nsIn K mainGlobals "_law_places"=some (some (.ref f42))) (F42:Fun K "_law_places" "_law_places" Z1r f42 d42)
 (a43:W.nsIn K mainGlobals "_law_asks"=some (some (.ref f43))) (F43:Fun K "_law_asks" "_law_asks" Z2g f43 d43)
 (a44:W.nsIn K mainGlobals "_law_priced"=some (some (.ref f44))) (F44:Fun K "_law_priced" "_law_priced" Z1s f44 d44)
 (a45:W.nsIn K mainGlobals "law"=some (some (.ref f45))) (l45:K.lookup f45=some ⟨oc45,od45,.func (W.fnOf "law" "law" (defArgs Z0v) (defBody Z0v) (defScope Z0v) .none kV45 dc45 pm45 an45 cd45 ct45),sl45⟩) (c45:W.codeIn K cd45 "law"=true) (k45:W.keepIn K (.ref f45)=true)
 (Zr:W.nsIn K mainGlobals "len"=some none)
 (Zo:W.nsIn K mainGlobals "isinstance"=some none)
 (Z2n:W.nsIn K mainGlobals "int"=some none)
 (Z1x:W.nsIn K mainGlobals "bool"=some none)
 (Z2o:W.nsIn K mainGlobals "str"=some none)
 (Z03:W.nsIn K mainGlobals "list"=some none)
 (Z27:W.nsIn K mainGlobals "tuple"=some none)
 (Z2p:W.nsIn K mainGlobals "all"=some none)
 (Zz:W.nsIn K mainGlobals "range"=some none)
 (Z17:W.nsIn K mainGlobals "sum"=some none)
 (Zp:W.nsIn K mainGlobals "enumerate"=some none)
 (Z3d:W.nsIn K mainGlobals "zip"=some none)
 (Z28:W.nsIn K mainGlobals "max"=some none)
 (Z2q:W.nsIn K mainGlobals "min"=some none)
 (Z29:W.nsIn K mainGlobals "abs"=some none)
 {Z3z:Tok} (Z07:W.nsIn K mainGlobals "LETTERS"=some (some (.str "abcdefghijklmnopqrstuvwxyz" Z3z)))
 {Z40:Tok} (Z0h:W.nsIn K mainGlobals "FIGURES"=some (some (.str "0123456789" Z40)))
 {Z3c:Tok} (Zy:W.nsIn K mainGlobals "MOST_SIGNS"=some (some (.int 8 Z3c)))
 {Z33:Tok} (Zv:W.nsIn K mainGlobals "MOST_THINGS"=some (some (.int 60 Z33)))
 {Z3m:Tok} (Z04:W.nsIn K mainGlobals "MOST_ROOM"=some (some (.int 1000 Z3m)))
 {Z34:Tok} (Zw:W.nsIn K mainGlobals "MOST_PLACES"=some (some (.int 1000000 Z34)))
 {Z3n:Tok} (Z05:W.nsIn K mainGlobals "MOST_ASKS"=some (some (.int 200 Z3n)))
 (Z2a:W.nsIn K mainGlobals "Stock"=some (some (.ref Z1))) (Z45:Cls K Z1)
 (Z6:W.findIn K (.ref Z1) "things"=some none)
 (Z2b:W.nsIn K mainGlobals "Shelf"=some (some (.ref Z2))) (Z46:Cls K Z2)
 (Zl:W.findIn K (.ref Z2) "stock"=some none)
 (Zn:W.findIn K (.ref Z2) "places"=some none)
 (Z9:W.findIn K (.ref Z2) "rooms"=some none)
 (Z2u:W.nsIn K mainGlobals "Rule"=some (some (.ref Z3))) (Z49:Cls K Z3)
 (Z2v:W.nsIn K mainGlobals "Dues"=some (some (.ref Z0))) (Z4a:Cls K Z0)
 (Zg:W.findIn K (.ref Z0) "stock"=some none)
 (Zm:W.findIn K (.ref Z0) "places"=some none)
 (Zf:W.findIn K (.ref Z0) "reached"=some none)
 (Za:W.findIn K (.ref Z0) "dues"=some none)
 (Zh:W.findIn K (.ref Z0) "rises"=some none)
 :∃fd:FuncData,(∀(s:Shared) (v:Value),BindsTo s fd ⟨[v],[]⟩ [("_law_script",v)])∧∀base:Heap,K.In base→base.Ns mainGlobals mg→FnOk l.prog w K mg base CX0 11 fa fd ["_law_script"] (sp_law K):=by
 have e:=hfa.symm.trans (W.mg_of X G a45)
 cases e
 have T:Txt K mg Z1 Z2 Z3 Z0:=⟨W.mg_of X G Z2a,Z45,Z6,W.mg_of X G Z2b,Z46,Zl,Zn,Z9,W.mg_of X G Z2u,Z49,W.mg_of X G Z2v,Z4a,Zg,Zm,Zf,Za,Zh,W.mg_none_of X G Zr,W.mg_none_of X G Zo,W.mg_none_of X G Z2n,W.mg_none_of X G Z1x,W.mg_none_of X G Z2o,W.mg_none_of X G Z03,W.mg_none_of X G Z27,W.mg_none_of X G Z2p,W.mg_none_of X G Zz,W.mg_none_of X G Z17,W.mg_none_of X G Zp,W.mg_none_of X G Z3d,W.mg_none_of X G Z28,W.mg_none_of X G Z2q,W.mg_none_of X G Z29,⟨_,W.mg_of X G Z07⟩,⟨_,W.mg_of X G Z0h⟩,⟨_,W.mg_of X G Zy⟩,⟨_,W.mg_of X G Zv⟩,⟨_,W.mg_of X G Z04⟩,⟨_,W.mg_of X G Zw⟩,⟨_,W.mg_of X G Z05⟩⟩
 have F23:=fun_mk (st:=Zx) l23 c23 kf23
 have F45:=fun_mk (st:=Z0v) l45 c45 k45
 refine ⟨W.fnOf "law" "law" (defArgs Z0v) (defBody Z0v) (defScope Z0v) .none kV45 dc45 pm45 an45 cd45 ct45,fun s v=> .of_eq rfl,fun base _ _=>?_⟩
 have B:Bs l.prog w K mg base:=⟨h,X,G⟩
 have Z22:=F0.d B a0 (Z3v F0 T) (F0.e2 fun _ _ _ _ _ _ _ _=>rfl)
 have Z23:=F1.d B a1 (Z3w F1 T Z22) (F1.e1 fun _ _ _ _ _ _ _=>rfl)
 have Z1t:=F2.d B a2 (Z3o F2 T) (F2.e1 fun _ _ _ _ _ _ _=>rfl)
 have Zq:=F3.d B a3 (Z3e F3 T Z1t) (F3.e3 fun _ _ _ _ _ _ _ _ _=>rfl)
 have Zb:=F4.d B a4 (Z2r F4 T Zq) (F4.e1 fun _ _ _ _ _ _ _=>rfl)
 have Z0p:=F5.d B a5 (Z2w F5 T Z23 Zq) (F5.e4 fun _ _ _ _ _ _ _ _ _ _=>rfl)
 have Z16:=F6.i B M6 Z2a (Z35 F6 T Z0p) (F6.e2 fun _ _ _ _ _ _ _ _=>rfl)
 have Z1f:=F7.m B M7 (Z3f F7 T) (F7.e2 fun _ _ _ _ _ _ _ _=>rfl)
 have Zj:=F8.m B M8 (Z2c F8 T) (F8.e2 fun _ _ _ _ _ _ _ _=>rfl)
 have Z4:=F9.m B M9 (Z2h F9 T Zj) (F9.e2 fun _ _ _ _ _ _ _ _=>rfl)
 have Zu:=F10.d B a10 (Z36 F10 T Zb Z1f Z4) (F10.e3 fun _ _ _ _ _ _ _ _ _=>rfl)
 have Z15:=F11.i B M11 Z2b (Z37 F11 T Zb) (F11.e3 fun _ _ _ _ _ _ _ _ _=>rfl)
 have Z0s:=F12.m B M12 (Z2x F12 T) (F12.e1 fun _ _ _ _ _ _ _=>rfl)
 have Zd:=F13.m B M13 (Z2y F13 T) (F13.e2 fun _ _ _ _ _ _ _ _=>rfl)
 have Zi:=F14.m B M14 (Z24 F14 T) (F14.e1 fun _ _ _ _ _ _ _=>rfl)
 have Z1j:=F15.m B M15 (Z3g F15 T Z4 Zd Zi) (F15.e2 fun _ _ _ _ _ _ _ _=>rfl)
 have Z13:=F16.m B M16 (Z38 F16 T Zd) (F16.e2 fun _ _ _ _ _ _ _ _=>rfl)
 have Zk:=F17.m B M17 (Z2i F17 T Zj) (F17.e2 fun _ _ _ _ _ _ _ _=>rfl)
 have Zs:=F18.d B a18 (Z39 F18 T) (F18.e2 fun _ _ _ _ _ _ _ _=>rfl)
 have Ze:=F19.d B a19 (Z3p F19 T Zs) (F19.e2 fun _ _ _ _ _ _ _ _=>rfl)
 have Zt:=F20.d B a20 (Z3a F20 T Ze) (F20.e2 fun _ _ _ _ _ _ _ _=>rfl)
 have Z0r:=F21.d B a21 (Z2z F21 T Ze) (F21.e2 fun _ _ _ _ _ _ _ _=>rfl)
 have Z0q:=F22.d B a22 (Z30 F22 T) (F22.e2 fun _ _ _ _ _ _ _ _=>rfl)
 have Z1g:DefB l.prog w K mg base CX0 4 "Rule" Z3 ["self","stock","places"] (sp57_rinit K Z0):=⟨⟨f23,_,Z3h F23 T Zb,⟨m23,a23,n23,k23⟩,W.mg_of X G Z2u,F23.binds (ps:=["self","stock","places"]) fun _ _ _ _ _ _ us hl=>match us,hl with | [_,_,_],_=>rfl,fc23,kf23⟩,sc23,rc23⟩
 have Z1l:=F24.i B M24 Z2v (Z3i F24 T Z1g) (F24.e3 fun _ _ _ _ _ _ _ _ _=>rfl)
 have Z00:=F25.m B M25 (Z3q F25 T Zt Ze Zk Z4) (F25.e2 fun _ _ _ _ _ _ _ _=>rfl)
 have Z14:=F26.m B M26 (Z3b F26 T Z00) (F26.e2 fun _ _ _ _ _ _ _ _=>rfl)
 have Z0t:=F27.m B M27 (Z31 F27 T Z0q) (F27.e2 fun _ _ _ _ _ _ _ _=>rfl)
 have Z1h:=F28.m B M28 (Z3j F28 T Zt Z0r) (F28.e2 fun _ _ _ _ _ _ _ _=>rfl)
 have Z1k:=F29.m B M29 (Z3k F29 T Z00) (F29.e2 fun _ _ _ _ _ _ _ _=>rfl)
 have Z0u:=F30.m B M30 (Z32 F30 T) (F30.e1 fun _ _ _ _ _ _ _=>rfl)
 have Z1i:=F31.d B a31 (Z3l F31 T Zi Z0s Z0t Z13 Z1h) (F31.e3 fun _ _ _ _ _ _ _ _ _=>rfl)
 have Z2j:=F32.d B a32 (Z41 F32 T Z14 Zd Z1i Z4 Z1j Z1k) (F32.e3 fun _ _ _ _ _ _ _ _ _=>rfl)
 have Z26:=F33.d B a33 (Z3x F33 T Zu Z15 Z2j) (F33.e2 fun _ _ _ _ _ _ _ _=>rfl)
 have Z0g:=F34.d B a34 (Z2s F34 T) (F34.e1 fun _ _ _ _ _ _ _=>rfl)
 have Z0f:=F35.d B a35 (Z2t F35 T) (F35.e2 fun _ _ _ _ _ _ _ _=>rfl)
 have Z0b:=F36.d B a36 (Z2k F36 T Zs) (F36.e1 fun _ _ _ _ _ _ _=>rfl)
 have Z1w:=F37.d B a37 (Z3r F37 T Zu Z0f Z0b Z0g Z4 Zk Ze) (F37.e4 fun _ _ _ _ _ _ _ _ _ _=>rfl)
 have Zc:=F38.d B a38 (Z42 F38 T) (F38.e2 fun _ _ _ _ _ _ _ _=>rfl)
 have Z01:=F39.d B a39 (Z3s F39 T) (F39.e2 fun _ _ _ _ _ _ _ _=>rfl)
 have Z25:=F40.d B a40 (Z3y F40 T) (F40.e2 fun _ _ _ _ _ _ _ _=>rfl)
 have Z2l:=F41.d B a41 (Z43 F41 T Zc Z25 Z01) (F41.e1 fun _ _ _ _ _ _ _=>rfl)
 have Z1v:=F42.d B a42 (Z3t F42 T) (F42.e2 fun _ _ _ _ _ _ _ _=>rfl)
 have Z2m:=F43.d B a43 (Z44 F43 T Zc Z01) (F43.e2 fun _ _ _ _ _ _ _ _=>rfl)
 have Z1u:=F44.d B a44 (Z3u F44 T) (F44.e2 fun _ _ _ _ _ _ _ _=>rfl)
 exact Z48 F45 T Z2l Z1u Zc Z1v Z2m Z16 Z1l Z26 Z0u Z1w
end K58
namespace PySem.W.Fast
theorem tw94720586714382665:True:=⟨⟩
theorem tw14020264645153161692:True:=⟨⟩
theorem tw13843841796429712123:True:=⟨⟩
theorem tw1144348017176413451:True:=⟨⟩
theorem tw5241247554279097063:True:=⟨⟩
theorem tw11405742762561592438:True:=⟨⟩
theorem tw10039202343747026759:True:=⟨⟩
theorem tw655180094443202783:True:=⟨⟩
theorem tw9217550754439373910:True:=⟨⟩
theorem tw8530427291712683368:True:=⟨⟩
theorem tw16134173176035287933:True:=⟨⟩
theorem tw2615011538376988759:True:=⟨⟩
theorem tw643409259051922703:True:=⟨⟩
theorem tw13678021409453015880:True:=⟨⟩
theorem tw5962540894244488514:True:=⟨⟩
theorem tw4786206790346535336:True:=⟨⟩
theorem tw16652341680799221318:True:=⟨⟩
theorem tw16708696922456328031:True:=⟨⟩
theorem tw10178146890577056315:True:=⟨⟩
theorem tw1106080728009819689:True:=⟨⟩
theorem tw6808395639026979877:True:=⟨⟩
theorem tw8152964506184694518:True:=⟨⟩
theorem tw10335159669666851879:True:=⟨⟩
theorem tw13982927055341280781:True:=⟨⟩
theorem tw17482758993410947969:True:=⟨⟩
theorem tw8507412147233193492:True:=⟨⟩
theorem tw7939536456575666916:True:=⟨⟩
theorem tw5459894212022521593:True:=⟨⟩
theorem tw12272299803764882280:True:=⟨⟩
theorem tw1607436314451481223:True:=⟨⟩
theorem tw12383682773723610019:True:=⟨⟩
theorem tw17438553760521582376:True:=⟨⟩
theorem tw7948291401607252595:True:=⟨⟩
theorem tw13357053307982526517:True:=⟨⟩
theorem tw15988905970212564607:True:=⟨⟩
theorem tw16289413087527156218:True:=⟨⟩
theorem tw4857740718711216263:True:=⟨⟩
theorem tw5983711457860049283:True:=⟨⟩
theorem tw6088877643768871905:True:=⟨⟩
theorem tw4665003546665299214:True:=⟨⟩
theorem tw11516124237205176180:True:=⟨⟩
theorem tw18005973647619021836:True:=⟨⟩
theorem tw17835705467127996326:True:=⟨⟩
theorem tw5747646423805599152:True:=⟨⟩
theorem tw7874247419909718454:True:=⟨⟩
theorem tw15159329049754587862:True:=⟨⟩
theorem tw3237858435638386057:True:=⟨⟩
theorem tw14208016486563590543:True:=⟨⟩
theorem tw8634790738527095277:True:=⟨⟩
theorem tw10798704909297683415:True:=⟨⟩
theorem tw12433203575782034161:True:=⟨⟩
theorem tw12107787147034982125:True:=⟨⟩
theorem tw8714058645080384254:True:=⟨⟩
theorem tw12134753751138789935:True:=⟨⟩
theorem tw16884936253880028509:True:=⟨⟩
theorem tw1027989138316042588:True:=⟨⟩
theorem tw7987868353693709347:True:=⟨⟩
theorem tw13560428840876292735:True:=⟨⟩
theorem tw15227810794747359649:True:=⟨⟩
theorem tw318173563999303552:True:=⟨⟩
theorem tw6142521326822083209:True:=⟨⟩
theorem tw9099446907096152508:True:=⟨⟩
theorem tw15337233119563053279:True:=⟨⟩
theorem tw10052224352543127868:True:=⟨⟩
theorem tw4787862971953217533:True:=⟨⟩
theorem tw7243742333472807559:True:=⟨⟩
theorem tw6513538434754480682:True:=⟨⟩
theorem tw13864788371498615274:True:=⟨⟩
theorem tw3713709574369135744:True:=⟨⟩
theorem tw6782158652905691564:True:=⟨⟩
theorem tw8993289180187280656:True:=⟨⟩
theorem tw18410305745198185110:True:=⟨⟩
theorem tw2277647812785444717:True:=⟨⟩
theorem tw13929253204949386372:True:=⟨⟩
theorem tw11465648819845004073:True:=⟨⟩
theorem tw9259613897663449143:True:=⟨⟩
theorem tw2633165358634968191:True:=⟨⟩
theorem tw9200306316112163144:True:=⟨⟩
theorem tw4760499599560164932:True:=⟨⟩
theorem tw1346757915331679464:True:=⟨⟩
theorem tw16322783558406000976:True:=⟨⟩
theorem tw6985143611363728333:True:=⟨⟩
theorem tw10734986966555668077:True:=⟨⟩
theorem tw17586751851513540334:True:=⟨⟩
theorem tw6512526143378969574:True:=⟨⟩
theorem tw15434812105154773017:True:=⟨⟩
theorem tw10570964151283702028:True:=⟨⟩
theorem tw11453354176978066085:True:=⟨⟩
theorem tw5893650716526902642:True:=⟨⟩
theorem tw6474960797423837032:True:=⟨⟩
theorem tw4190463992456419826:True:=⟨⟩
theorem tw10142062344925634046:True:=⟨⟩
theorem tw14796662413195619214:True:=⟨⟩
theorem tw13158730524438053243:True:=⟨⟩
theorem tw4417566678577961363:True:=⟨⟩
theorem tw14534734645804187575:True:=⟨⟩
theorem tw3316167812385652793:True:=⟨⟩
theorem tw15451277120766618730:True:=⟨⟩
theorem tw8496304685720798490:True:=⟨⟩
theorem tw17441755881294158715:True:=⟨⟩
theorem tw6972969320598318740:True:=⟨⟩
theorem tw55274589046010711:True:=⟨⟩
theorem tw15084921191926460658:True:=⟨⟩
theorem tw1421940112408887130:True:=⟨⟩
theorem tw10428610623344769399:True:=⟨⟩
theorem tw10005844139481542747:True:=⟨⟩
theorem tw7600250944903453086:True:=⟨⟩
theorem tw3824180255733851374:True:=⟨⟩
theorem tw5213790609667259406:True:=⟨⟩
theorem tw2670052134789345369:True:=⟨⟩
theorem tw5573634561004872451:True:=⟨⟩
theorem tw8740544604147149889:True:=⟨⟩
theorem tw2305855508326036374:True:=⟨⟩
theorem tw62965903464463337:True:=⟨⟩
theorem tw6587181239809704939:True:=⟨⟩
theorem tw8683275310964683787:True:=⟨⟩
theorem tw4141397467215098435:True:=⟨⟩
theorem tw8214775262510736799:True:=⟨⟩
theorem tw5973319319678981974:True:=⟨⟩
theorem tw6940348021849549607:True:=⟨⟩
theorem tw15528138721570272067:True:=⟨⟩
theorem tw17685714833039544070:True:=⟨⟩
theorem tw11167287764946232822:True:=⟨⟩
theorem tw9567497854155556873:True:=⟨⟩
theorem tw17812201746528894689:True:=⟨⟩
theorem tw3175310278728631443:True:=⟨⟩
theorem tw3432710147010577522:True:=⟨⟩
theorem tw3878032874428211646:True:=⟨⟩
theorem tw10564047570449744804:True:=⟨⟩
theorem tw15964416504807447734:True:=⟨⟩
theorem tw2931090246320249436:True:=⟨⟩
theorem tw5753016603065057053:True:=⟨⟩
theorem tw7540120619848980070:True:=⟨⟩
theorem tw10190989809494992613:True:=⟨⟩
theorem tw10877731483919955179:True:=⟨⟩
theorem tw3216180097872712722:True:=⟨⟩
theorem tw15028856184785197467:True:=⟨⟩
theorem tw15737298829266608441:True:=⟨⟩
theorem tw958850721191736594:True:=⟨⟩
theorem tw4945166532815128718:True:=⟨⟩
theorem tw2307551403620146348:True:=⟨⟩
theorem tw6074510081369603255:True:=⟨⟩
theorem tw10159893212929300731:True:=⟨⟩
theorem tw3759571717607054603:True:=⟨⟩
theorem tw7281744699034340119:True:=⟨⟩
theorem tw11268291592245049168:True:=⟨⟩
theorem tw12928728719715911902:True:=⟨⟩
theorem tw12452077119184782295:True:=⟨⟩
theorem tw4598747463886463392:True:=⟨⟩
theorem tw240682049533136882:True:=⟨⟩
theorem tw17167203751072609896:True:=⟨⟩
theorem tw13807938133504540119:True:=⟨⟩
theorem tw2852480739946671723:True:=⟨⟩
theorem tw865646059839104394:True:=⟨⟩
theorem tw17943108257029424161:True:=⟨⟩
theorem tw3331363770414673068:True:=⟨⟩
theorem tw3301778965457573933:True:=⟨⟩
theorem tw1084011175416128139:True:=⟨⟩
theorem tw17889508139535191671:True:=⟨⟩
theorem tw7520608335492698857:True:=⟨⟩
theorem tw9259749582875719405:True:=⟨⟩
theorem tw13450675518646064572:True:=⟨⟩
theorem tw9319537041359495791:True:=⟨⟩
theorem tw11155695894796769983:True:=⟨⟩
theorem tw15887590283198981721:True:=⟨⟩
theorem tw5640053245206118883:True:=⟨⟩
theorem tw8962078825522321832:True:=⟨⟩
theorem tw7115267826139387197:True:=⟨⟩
theorem tw6768250493749294756:True:=⟨⟩
theorem tw11814857568765930168:True:=⟨⟩
theorem tw4812290121832233227:True:=⟨⟩
theorem tw8911012448633134509:True:=⟨⟩
theorem tw7351177634813696126:True:=⟨⟩
theorem tw4598716821377093599:True:=⟨⟩
theorem tw17667558815269773706:True:=⟨⟩
theorem tw1045311545384068924:True:=⟨⟩
theorem tw17432101288364060019:True:=⟨⟩
theorem tw15479635357890185861:True:=⟨⟩
theorem tw1556067315656538376:True:=⟨⟩
theorem tw8982128118851320726:True:=⟨⟩
theorem tw14286434001585713699:True:=⟨⟩
theorem tw18327571908638196164:True:=⟨⟩
theorem tw298748087690961510:True:=⟨⟩
theorem tw7236363079623915582:True:=⟨⟩
theorem tw8218284149151693368:True:=⟨⟩
theorem tw16947692503059944473:True:=⟨⟩
theorem tw2905291654061888665:True:=⟨⟩
theorem tw315754494508081591:True:=⟨⟩
theorem tw10624405781188119731:True:=⟨⟩
theorem tw11003003284617028389:True:=⟨⟩
theorem tw17167805230305808802:True:=⟨⟩
theorem tw8355881474079044555:True:=⟨⟩
theorem tw5971891106020615188:True:=⟨⟩
theorem tw9161497852677894776:True:=⟨⟩
theorem tw7734586188443092329:True:=⟨⟩
theorem tw12815115875288979265:True:=⟨⟩
theorem tw8350067320056634404:True:=⟨⟩
theorem tw4773429121170905758:True:=⟨⟩
theorem tw2350033698374212842:True:=⟨⟩
theorem tw890909038405544596:True:=⟨⟩
theorem tw17065653132449086491:True:=⟨⟩
theorem tw14704515278529631251:True:=⟨⟩
theorem tw1388701602937376225:True:=⟨⟩
theorem tw15079813856496894590:True:=⟨⟩
theorem tw7415295651941370248:True:=⟨⟩
theorem tw4154732529227903784:True:=⟨⟩
theorem tw10207714515282977903:True:=⟨⟩
theorem tw13955476195404369761:True:=⟨⟩
theorem tw12501091582981458074:True:=⟨⟩
theorem tw11571311464114478033:True:=⟨⟩
theorem tw9915343727428506396:True:=⟨⟩
theorem tw10579082387654158733:True:=⟨⟩
theorem tw1664465747421927068:True:=⟨⟩
theorem tw227955339885554234:True:=⟨⟩
theorem tw10165123367736648856:True:=⟨⟩
theorem tw5889563695409333495:True:=⟨⟩
theorem tw14154288172884692752:True:=⟨⟩
theorem tw16884599580021960647:True:=⟨⟩
theorem tw5960910687485561446:True:=⟨⟩
theorem tw14893845561287451858:True:=⟨⟩
theorem tw11735092925782755107:True:=⟨⟩
theorem tw16195273685397658554:True:=⟨⟩
theorem tw15958520403299898611:True:=⟨⟩
theorem tw5389810664079854862:True:=⟨⟩
theorem tw14473183574420051231:True:=⟨⟩
theorem tw10730683098766758886:True:=⟨⟩
theorem tw9870691866111524958:True:=⟨⟩
theorem tw12967915188192868454:True:=⟨⟩
theorem tw14801110789535310669:True:=⟨⟩
theorem tw8335797762307106879:True:=⟨⟩
theorem tw12834247641875801409:True:=⟨⟩
theorem tw9755974997521322765:True:=⟨⟩
theorem tw10682791216728101437:True:=⟨⟩
theorem tw9204719901911369838:True:=⟨⟩
theorem tw16959663880499208269:True:=⟨⟩
theorem tw795259798464118973:True:=⟨⟩
theorem tw15896632258155081422:True:=⟨⟩
theorem tw15033781771787933906:True:=⟨⟩
theorem tw13052775665439454993:True:=⟨⟩
theorem tw649282757934804620:True:=⟨⟩
theorem tw9425893502861052389:True:=⟨⟩
theorem tw1122590872413600407:True:=⟨⟩
theorem tw4908315969281336821:True:=⟨⟩
theorem tw4933593377564287430:True:=⟨⟩
theorem tw2042361400104648980:True:=⟨⟩
theorem tw7898935175466873949:True:=⟨⟩
theorem tw17426617873411555302:True:=⟨⟩
theorem tw17860361401959518034:True:=⟨⟩
theorem tw5118931639009319954:True:=⟨⟩
theorem tw1602212408205206445:True:=⟨⟩
theorem tw16869493141072839820:True:=⟨⟩
theorem tw6714436009459816775:True:=⟨⟩
theorem tw6239745770733741678:True:=⟨⟩
theorem tw6613189997797872755:True:=⟨⟩
theorem tw3032914200625806684:True:=⟨⟩
theorem tw2753522085590170155:True:=⟨⟩
theorem tw3189604271251692366:True:=⟨⟩
theorem tw17106679499353441243:True:=⟨⟩
theorem tw14405002774850867585:True:=⟨⟩
theorem tw7162300292391687814:True:=⟨⟩
theorem tw8082982154658409384:True:=⟨⟩
theorem tw9222701801443459534:True:=⟨⟩
theorem tw15232583020900053199:True:=⟨⟩
theorem tw9754573472801963277:True:=⟨⟩
theorem tw11659359415660490091:True:=⟨⟩
theorem tw11101287174463260190:True:=⟨⟩
theorem tw7526045082122290335:True:=⟨⟩
theorem tw12094025432844949824:True:=⟨⟩
theorem tw16659616712807525866:True:=⟨⟩
theorem tw13499608551765551190:True:=⟨⟩
theorem tw16141167453487071513:True:=⟨⟩
theorem tw6587863651804622574:True:=⟨⟩
theorem tw10635205535220825237:True:=⟨⟩
theorem tw8119565696717013354:True:=⟨⟩
theorem tw8027959888758883127:True:=⟨⟩
theorem tw4893724782094453750:True:=⟨⟩
theorem tw12503893646973589190:True:=⟨⟩
theorem tw10909931637470208007:True:=⟨⟩
theorem tw3897221351991877195:True:=⟨⟩
theorem tw10159177962617987523:True:=⟨⟩
theorem tw3052341908845992551:True:=⟨⟩
theorem tw18177639933375019267:True:=⟨⟩
theorem tw16970197703298531389:True:=⟨⟩
theorem tw2064344220453680100:True:=⟨⟩
theorem tw9707362148659337914:True:=⟨⟩
theorem tw7967965310057166608:True:=⟨⟩
theorem tw18170193677238098826:True:=⟨⟩
theorem tw13625193654795246539:True:=⟨⟩
theorem tw12482664565312078031:True:=⟨⟩
theorem tw1851938615759210527:True:=⟨⟩
theorem tw10510649164001169538:True:=⟨⟩
theorem tw14108478662837124152:True:=⟨⟩
theorem tw18016127993745873832:True:=⟨⟩
theorem tw12504864103200818501:True:=⟨⟩
theorem tw13316362101435522671:True:=⟨⟩
theorem tw2542291168943754982:True:=⟨⟩
theorem tw2605647518539951118:True:=⟨⟩
theorem tw11118677231656052167:True:=⟨⟩
theorem tw9608676977044592210:True:=⟨⟩
theorem tw8714325212358415022:True:=⟨⟩
theorem tw15081537800731859429:True:=⟨⟩
theorem tw6866683167615326252:True:=⟨⟩
theorem tw8472927926122768085:True:=⟨⟩
theorem tw12712295505814504260:True:=⟨⟩
theorem tw15138411341640037437:True:=⟨⟩
theorem tw14840835226530766034:True:=⟨⟩
end PySem.W.Fast
open PySem PySem.W PyProof.Rows
set_option maxRecDepth 100000 in
set_option maxHeartbeats 0 in
theorem PySem.Challenge.cw_castoff_k58_whole_the_prices_of_dues_holds : PySem.Challenge.rw_castoff_k58_whole_the_prices_of_dues.Holds := by
 w_on;o_law;k_head;(case hw=>w_witness2)
 k_fill
 refine L2.walk_ofK (l:=PySem.Challenge.rw_castoff_k58_whole_the_prices_of_dues) (n:=63) (k:=11) (x:="_law_script") (CX:=L2.CX0) (sp:=N1.sp_law) rfl (by decide) rfl ⟨rfl,by decide,by decide⟩ (fun w h Y=>PySem.W.kIn_of Y) ?F ?S ?C
 case F=>
  intro w mg fa h KX G hmg
  refine' K58.all_mk KX G hmg ?a0 ?FF0 ?a1 ?FF1 ?a2 ?FF2 ?a3 ?FF3 ?a4 ?FF4 ?a5 ?FF5 ?MI6 ?FF6 ?MM7 ?FF7 ?MM8 ?FF8 ?MM9 ?FF9 ?a10 ?FF10 ?MI11 ?FF11 ?MM12 ?FF12 ?MM13 ?FF13 ?MM14 ?FF14 ?MM15 ?FF15 ?MM16 ?FF16 ?MM17 ?FF17 ?a18 ?FF18 ?a19 ?FF19 ?a20 ?FF20 ?a21 ?FF21 ?a22 ?FF22 ?a23 ?l23 ?c23 ?n23 ?k23 ?m23 ?kf23 ?fc23 ?sc23 ?rc23 ?MI24 ?FF24 ?MM25 ?FF25 ?MM26 ?FF26 ?MM27 ?FF27 ?MM28 ?FF28 ?MM29 ?FF29 ?MM30 ?FF30 ?a31 ?FF31 ?a32 ?FF32 ?a33 ?FF33 ?a34 ?FF34 ?a35 ?FF35 ?a36 ?FF36 ?a37 ?FF37 ?a38 ?FF38 ?a39 ?FF39 ?a40 ?FF40 ?a41 ?FF41 ?a42 ?FF42 ?a43 ?FF43 ?a44 ?FF44 ?a45 ?l45 ?c45 ?k45 ?Zr ?Zo ?Z2n ?Z1x ?Z2o ?Z03 ?Z27 ?Z2p ?Zz ?Z17 ?Zp ?Z3d ?Z28 ?Z2q ?Z29 ?Z07 ?Z0h ?Zy ?Zv ?Z04 ?Zw ?Z05 ?Z2a ?EE_Stock ?Z6 ?Z2b ?EE_Shelf ?Zl ?Zn ?Z9 ?Z2u ?EE_Rule ?Z2v ?EE_Dues ?Zg ?Zm ?Zf ?Za ?Zh
  case Z2a|Z2b|Z2u|Z2v|a0|a1|a2|a3|a4|a5|a10|a18|a19|a20|a21|a22|a23|l23|c23|n23|k23|m23|kf23|fc23|sc23|rc23|a31|a32|a33|a34|a35|a36|a37|a38|a39|a40|a41|a42|a43|a44|a45|l45|c45|k45|Zr|Zo|Z2n|Z1x|Z2o|Z03|Z27|Z2p|Zz|Z17|Zp|Z3d|Z28|Z2q|Z29|Z07|Z0h|Zy|Zv|Z04|Zw|Z05|Z6|Zl|Zn|Z9|Zg|Zm|Zf|Za|Zh=>k_is
  case EE_Stock|EE_Shelf|EE_Rule|EE_Dues|MI6|MI11|MI24=>refine' ⟨?j1,?j2,?j3,?j4⟩;case j1|j2|j3|j4=>k_is
  case MM7|MM8|MM9|MM12|MM13|MM14|MM15|MM16|MM17|MM25|MM26|MM27|MM28|MM29|MM30=>refine' ⟨?j1,?j2,?j3⟩;case j1|j2|j3=>k_is
  case FF0|FF1|FF2|FF3|FF4|FF5|FF6|FF7|FF8|FF9|FF10|FF11|FF12|FF13|FF14|FF15|FF16|FF17|FF18|FF19|FF20|FF21|FF22|FF24|FF25|FF26|FF27|FF28|FF29|FF30|FF31|FF32|FF33|FF34|FF35|FF36|FF37|FF38|FF39|FF40|FF41|FF42|FF43|FF44=>refine' L2.fun_mk ?l ?c ?k;case l|c|k=>k_is
 case S=>exact fun K H a ns hl hO hS=>⟨a,ns,rfl,hS,hl,fun _=>rfl⟩
 case C=>exact fun H s e s' z=>z
