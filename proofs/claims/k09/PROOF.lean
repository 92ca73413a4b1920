import PyProof.Rows.All
import Wide.All
import OpenK.AllK
import Wide.FinOn
import Lean
import PyProof.EqAt
import PyProof.EqKinds
import PyProof.TupleCall
import KE.KTryMore
import PyProof.StationsW
import PyProof.ExcBaseAll.ValueError
import PyProof.ExcClass2
import PyProof.RulesAs
import PyProof.NsDelKeeps
import KE.KIntText
import PyProof.StrWalks
import PyProof.StrBlockH
import PyProof.Rows.StrNews
import PyProof.Rows.StrJoin2
import PyProof.ConsumeWalk
import PyProof.FString
import PyProof.NeData
import KE.IntTextLaws
import PyProof.ExcInit
import PyProof.InstStoreFacts
import OpenK.KMake
import OpenK.KCls
import PyProof.ExcArgs
import PyProof.Rows.Catch
import KE.KDictList
import KE.KDictSum
import KE.KUnpack
import PyProof.MeetsSeq
import PyProof.Rows.StrInSeq3
import KE.KIsAll
import PySem.Challenge.RW_castoff_k09_refusals
-- CHANGE: your row's module here, as the last of these rows
set_option Elab.async false
set_option linter.all false
set_option maxRecDepth 100000
namespace L2
open PySem PySem.Spec PyProof.Rows

noncomputable abbrev Key := Sum Int Str
noncomputable def keyIs : Key → Value → Bool
  | .inl k, v => Value.isInt k v
  | .inr x, v => Value.isStrOf x v
noncomputable def keyH (w : World) : Key → Int
  | .inl k => hashInt k
  | .inr x => hashStr w x
theorem keyIs_shape : ∀ {k : Key} {v : Value}, keyIs k v = true → (∃ i t, k = Sum.inl i ∧ v = Value.int i t) ∨ (∃ x t, k = Sum.inr x ∧ v = Value.str x t)
  | .inl i, v, h => by
    obtain ⟨t, e⟩ := Value.isInt_shape (k := i) (v := v) h
    exact .inl ⟨i, t, rfl, e⟩
  | .inr x, v, h => by
    obtain ⟨t, e⟩ := Value.isStrOf_shape (x := x) (v := v) h
    exact .inr ⟨x, t, rfl, e⟩
theorem key_ll (a b : Int) : decide ((Sum.inl a : Key) = Sum.inl b) = (a == b) := by
  by_cases e : a = b
  · subst e; simp
  · have h : ¬ (Sum.inl a : Key) = Sum.inl b := fun q => e (Sum.inl.inj q)
    rw [decide_eq_false h]
    exact (beq_eq_false_iff_ne.mpr e).symm
theorem key_rr (a b : Str) : decide ((Sum.inr a : Key) = Sum.inr b) = decide (a = b) := by
  by_cases e : a = b
  · subst e; simp
  · have h : ¬ (Sum.inr a : Key) = Sum.inr b := fun q => e (Sum.inr.inj q)
    rw [decide_eq_false h, decide_eq_false e]
theorem key_lr (a : Int) (b : Str) : decide ((Sum.inl a : Key) = Sum.inr b) = false := decide_eq_false (fun q => nomatch q)
theorem key_rl (a : Str) (b : Int) : decide ((Sum.inr a : Key) = Sum.inl b) = false := decide_eq_false (fun q => nomatch q)

noncomputable def mixKind (prog : Program) (w : World) : PySem.KeyKind prog w Key where
  is := keyIs
  hash := keyH w
  inj := fun v a b ha hb => by
    rcases keyIs_shape ha with ⟨i, t, rfl, rfl⟩ | ⟨x, t, rfl, rfl⟩
    · rcases keyIs_shape hb with ⟨j, u, rfl, e⟩ | ⟨y, u, rfl, e⟩
      · injection e with e1 _; rw [e1]
      · exact nomatch e
    · rcases keyIs_shape hb with ⟨j, u, rfl, e⟩ | ⟨y, u, rfl, e⟩
      · exact nomatch e
      · injection e with e1 _; rw [e1]
  byValue := fun k v h => by
    rcases keyIs_shape h with ⟨i, t, rfl, rfl⟩ | ⟨x, t, rfl, rfl⟩ <;> rfl
  pyHash := fun hv h => by
    rcases keyIs_shape hv with ⟨i, t, rfl, rfl⟩ | ⟨x, t, rfl, rfl⟩
    · exact wpAny_pyHash_int h
    · exact wpAny_pyHash_str h
  eqBool := fun hu hv h => by
    rcases keyIs_shape hu with ⟨i, t, rfl, rfl⟩ | ⟨x, t, rfl, rfl⟩
    · rcases keyIs_shape hv with ⟨j, u, rfl, rfl⟩ | ⟨y, u, rfl, rfl⟩
      · rw [key_ll] at h; exact wpAny_eqBool_int h
      · rw [key_lr] at h; exact SeqAt.EqAt.int_str i t y u _ _ _ _ h
    · rcases keyIs_shape hv with ⟨j, u, rfl, rfl⟩ | ⟨y, u, rfl, rfl⟩
      · rw [key_rl] at h; exact SeqAt.EqAt.str_int x t j u _ _ _ _ h
      · rw [key_rr] at h; exact wpAny_eqBool_str h
  «strs» := fun k x t v h => by
    rcases keyIs_shape h with ⟨i, u, rfl, e⟩ | ⟨y, u, rfl, e⟩
    · exact nomatch e
    · injection e with e1 _
      subst e1
      cases v <;> rfl

end L2

namespace L2
open PySem PySem.Spec PyProof.Rows

inductive V where
  | non | bl (b : Bool) | int (i : Int) | str (x : Str) | byt (b : Array UInt8) | flt (b : UInt64) | ref (a : Addr) | ty (n : String)
  deriving DecidableEq

noncomputable def RelV : V → Value → Prop
  | .non, u => u = Value.none
  | .bl b, u => u = Value.bool b
  | .int i, u => ∃ t, u = Value.int i t
  | .str x, u => ∃ t, u = Value.str x t
  | .byt b, u => ∃ t, u = Value.bytes b t
  | .flt b, u => ∃ t, u = Value.float b t
  | .ref a, u => u = Value.ref a
  | .ty n, u => u = Value.type n

noncomputable abbrev Vals : List V → List Value → Prop := Paired RelV
theorem Vals.length {xs : List V} {us : List Value} (r : Vals xs us) : xs.length = us.length := Paired.length r
theorem Vals.get : ∀ {xs : List V} {us : List Value} {i : Nat} {x : V}, Vals xs us → xs[i]? = some x → ∃ u, us[i]? = some u ∧ RelV x u
  | _, _, _, _, .nil, e => by simp at e
  | _, _, 0, _, .cons r _, e => by simp at e; subst e; exact ⟨_, rfl, r⟩
  | _, _, i + 1, x, .cons _ t, e => by
    obtain ⟨u, h1, h2⟩ := Vals.get (i := i) (x := x) t (by simpa using e)
    exact ⟨u, by simpa using h1, h2⟩
theorem Vals.append : ∀ {xs ys : List V} {us ws : List Value}, Vals xs us → Vals ys ws → Vals (xs ++ ys) (us ++ ws)
  | _, _, _, _, .nil, s => s
  | _, _, _, _, .cons r t, s => .cons r (Vals.append t s)
noncomputable def RelO : Option V → Option Value → Prop
  | some v, some u => RelV v u
  | none, none => True
  | _, _ => False
noncomputable def KV {κ : Type} : List (κ × V) → List (κ × Value) → Prop := Paired fun (p : κ × V) (q : κ × Value) => p.1 = q.1 ∧ RelV p.2 q.2

noncomputable def kV : Key → V
  | .inl i => .int i
  | .inr x => .str x

inductive HO where
  /-- a list -/
  | lst (xs : List V)
  /-- a tuple (never changes) -/
  | tup (xs : List V)
  /-- a dict whose keys are ints and texts; one whose keys are tuples of ints and texts (the empty one is both) -/
  | dK (kvs : List (Key × V)) | dT (kvs : List (List Key × V))
  /-- a set of ints: its members, its size -/
  | set (S : Int → Bool) (n : Nat)
  /-- an instance of the class at C, its dict at dx, its attributes -/
  | ins (C dx : Addr) (fs : List (Str × V))
  /-- the dict of the instance at x -/
  | own (x : Addr)
  /-- the dict of an exception -/
  | xd (fs : List (Str × V))
  /-- a bound method, f of x -/
  | met (f x : Addr)
  /-- a range object lo, lo + 1, .. below hi -/
  | rng (lo hi : Int)
  /-- a thing that is known to the object (the script; a dict while a loop walks it): read, never written while it is so -/
  | frz (o : Obj) (u : HO)
  /-- a code object's table -/
  | tbl (ps : Array Value)
  /-- any other thing, by what is true of its one object (a def of one's own: SetO a S n := HO.ext fun h => ..) -/
  | ext (φ : Heap → Prop)

noncomputable abbrev Hp := Addr → Option HO
noncomputable def upd (H : Hp) (a : Addr) (o : HO) : Hp := fun b => if b = a then some o else H b
theorem upd_same {H : Hp} {a : Addr} {o : HO} : upd H a o a = some o := by unfold upd; rw [if_pos rfl]
theorem upd_ne {H : Hp} {a b : Addr} {o : HO} (h : b ≠ a) : upd H a o b = H b := by unfold upd; rw [if_neg h]
theorem upd_upd {H : Hp} {a : Addr} {o u : HO} : upd (upd H a o) a u = upd H a u := by
  funext b; unfold upd; split <;> rfl
theorem ne_of_none {H : Hp} {a b : Addr} {o : HO} (h : H a = some o) (h' : H b = none) : a ≠ b := by
  intro e; subst e; rw [h] at h'; cases h'

section
variable (P : Program) (w : World)
noncomputable def ObjOk (H : Hp) (h : Heap) (a : Addr) : HO → Prop
  | .lst xs => xs.length ≤ sizeLine ∧ ∃ (its : List Value) (n : Nat), Vals xs its ∧ h.get? a = some { cls := .type "list", data := .seq its.toArray n }
  | .tup xs => xs.length ≤ sizeLine ∧ ∃ its : List Value, Vals xs its ∧ IsTup h a its.toArray
  | .dK kvs => kvs.length ≤ sizeLine ∧ (a == sysModules) = false ∧ ∃ vs, KV kvs vs ∧ h.DictOf (mixKind P w) a vs
  | .dT kvs => kvs.length ≤ sizeLine ∧ (a == sysModules) = false ∧ ∃ xs : List (List Key × Addr × Value),
      Paired (fun (p : List Key × V) (q : List Key × Addr × Value) => p.1 = q.1 ∧ H q.2.1 = some (.tup (p.1.map kV)) ∧ RelV p.2 q.2.2) kvs xs ∧
      ∃ o es ep, h.get? a = some o ∧ o.ExactDict ∧ o.data = .dict es ep ∧ es.toList = xs.map (entryOfKey (tupleKind (mixKind P w))) ∧ (xs.map (·.1)).Nodup
  | .set S n => h.SetOf (intKind P w) a S n
  | .ins C dx fs => H dx = some (.own a) ∧ fs.length ≤ 1000 ∧ dx ≠ a ∧ h.get? a = some (PySem.W.instObj C dx) ∧
      ∃ mA, h.Ns1 dx mA ∧ (∀ f, RelO (fs.lookup f) (mA f)) ∧ PySem.Within mA (fs.map (·.1))
  | .own _ => ∃ o, h.get? a = some o
  | .xd fs => ∃ mA, h.Ns1 a mA ∧ ∀ f, RelO (fs.lookup f) (mA f)
  | .rng lo hi => ∃ t u v, h.get? a = some { cls := .type "range", data := .fields #[.int lo t, .int hi u, .int 1 v] }
  | .frz o u => h.get? a = some o ∧ ObjOk H h a u
  | .tbl ps => h.get? a = some { cls := .none, data := .fields ps }
  | .met f x => h.get? a = some (PySem.W.methodObj (.ref f) (.ref x))
  | .ext φ => φ h ∧ (∃ o, h.get? a = some o) ∧ ∀ h1 h2 : Heap, φ h1 → (∀ o, h1.get? a = some o → h2.get? a = some o) → φ h2
noncomputable def HOk (H : Hp) (h : Heap) : Prop := ∀ a o, H a = some o → ObjOk P w H h a o
end

section
variable {P : Program} {w : World} {H H' : Hp} {h h' : Heap} {a : Addr} {o : HO}
theorem ObjOk.lt (x : ObjOk P w H h a o) : a < h.objs.size := by
  cases o with
  | lst xs => obtain ⟨_, _, _, _, e⟩ := x; exact Heap.lt_size e
  | tup xs => obtain ⟨_, _, _, p⟩ := x; exact p.lt
  | dK kvs => obtain ⟨_, _, _, _, o, _, _, e, _⟩ := x; exact Heap.lt_size e
  | dT kvs => obtain ⟨_, _, _, _, o, _, _, e, _⟩ := x; exact Heap.lt_size e
  | set S n => obtain ⟨o, _, _, _, e, _⟩ := x; exact Heap.lt_size e
  | ins C dx fs => obtain ⟨_, _, _, e, _⟩ := x; exact Heap.lt_size e
  | own y => obtain ⟨_, e⟩ := x; exact Heap.lt_size e
  | xd fs => obtain ⟨_, ⟨_, _, _, e, _⟩, _⟩ := x; exact Heap.lt_size e
  | rng lo hi => obtain ⟨_, _, _, e⟩ := x; exact Heap.lt_size e
  | frz ob u => obtain ⟨e, _⟩ := x; exact Heap.lt_size e
  | tbl ps => exact Heap.lt_size (show h.get? a = some _ from x)
  | met f y => exact Heap.lt_size (show h.get? a = some _ from x)
  | ext φ => obtain ⟨_, ⟨_, e⟩, _⟩ := x; exact Heap.lt_size e
theorem Paired.mapP {α β : Type} {F G : α → β → Prop} : ∀ {l₁ : List α} {l₂ : List β}, Paired F l₁ l₂ → (∀ a b, F a b → G a b) → Paired G l₁ l₂
  | _, _, .nil, _ => .nil
  | _, _, .cons r t, f => .cons (f _ _ r) (Paired.mapP t f)
theorem ObjOk.stay (x : ObjOk P w H h a o) (k : ∀ b u, (b = a ∨ H b = some (.own a)) → h.get? b = some u → h'.get? b = some u)
    (ho : ∀ b, H b = some (.own a) → H' b = some (.own a)) (ht : ∀ b xs, H b = some (.tup xs) → H' b = some (.tup xs)) : ObjOk P w H' h' a o := by
  induction o with
  | lst xs => obtain ⟨z, its, n, r, e⟩ := x; exact ⟨z, its, n, r, k _ _ (.inl rfl) e⟩
  | tup xs => obtain ⟨z, its, r, ob, e, c⟩ := x; exact ⟨z, its, r, ob, k _ _ (.inl rfl) e, c⟩
  | dK kvs => obtain ⟨z, y, vs, r, ob, es, ep, e, c⟩ := x; exact ⟨z, y, vs, r, ob, es, ep, k _ _ (.inl rfl) e, c⟩
  | dT kvs =>
    obtain ⟨z, y, xs, r, ob, es, ep, e, c⟩ := x
    exact ⟨z, y, xs, Paired.mapP r fun p q z => ⟨z.1, ht _ _ z.2.1, z.2.2⟩, ob, es, ep, k _ _ (.inl rfl) e, c⟩
  | set S n => obtain ⟨ob, es, ep, t, e, c⟩ := x; exact ⟨ob, es, ep, t, k _ _ (.inl rfl) e, c⟩
  | ins C dx fs =>
    obtain ⟨d, z, ne, e, mA, ⟨od, es, ep, e2, c⟩, r⟩ := x
    exact ⟨ho _ d, z, ne, k _ _ (.inl rfl) e, mA, ⟨od, es, ep, k _ _ (.inr d) e2, c⟩, r⟩
  | own y => obtain ⟨ob, e⟩ := x; exact ⟨ob, k _ _ (.inl rfl) e⟩
  | xd fs => obtain ⟨mA, ⟨od, es, ep, e, c⟩, r⟩ := x; exact ⟨mA, ⟨od, es, ep, k _ _ (.inl rfl) e, c⟩, r⟩
  | rng lo hi => obtain ⟨t, u, v, e⟩ := x; exact ⟨t, u, v, k _ _ (.inl rfl) e⟩
  | frz ob u ih => obtain ⟨e, q⟩ := x; exact ⟨k _ _ (.inl rfl) e, ih q⟩
  | tbl ps =>
    have e : h.get? a = some { cls := .none, data := .fields ps } := x
    show h'.get? a = some { cls := .none, data := .fields ps }
    exact k a _ (.inl rfl) e
  | met f y =>
    have e : h.get? a = some (PySem.W.methodObj (.ref f) (.ref y)) := x
    show h'.get? a = some (PySem.W.methodObj (.ref f) (.ref y))
    exact k a _ (.inl rfl) e
  | ext φ => obtain ⟨p, ⟨o, e⟩, st⟩ := x; exact ⟨st _ _ p fun o q => k _ _ (.inl rfl) q, ⟨o, k _ _ (.inl rfl) e⟩, st⟩
theorem HOk.lt (x : HOk P w H h) (e : H a = some o) : a < h.objs.size := (x a o e).lt
theorem HOk.fresh (x : HOk P w H h) (e : h.objs.size ≤ a) : H a = none := by
  cases q : H a with
  | none => rfl
  | some u => exact absurd (Nat.lt_of_lt_of_le (x.lt q) e) (Nat.lt_irrefl _)
theorem HOk.kept (x : HOk P w H h) (k : ∀ b u, h.get? b = some u → h'.get? b = some u) : HOk P w H h' := fun a o e =>
  (x a o e).stay (fun b u _ q => k b u q) (fun _ q => q) fun _ _ q => q
theorem HOk.laid (x : HOk P w H h) (k : ∀ b u, h.get? b = some u → h'.get? b = some u) (hp : h.objs.size ≤ a) (new : ObjOk P w (upd H a o) h' a o) : HOk P w (upd H a o) h' := fun b u e => by
  have hn := x.fresh hp
  by_cases hb : b = a
  · subst hb; rw [upd_same] at e; cases e; exact new
  · rw [upd_ne hb] at e
    exact (x b u e).stay (fun c v _ q => k c v q) (fun c q => by rw [upd_ne (ne_of_none q hn)]; exact q) fun c xs q => by rw [upd_ne (ne_of_none q hn)]; exact q
end

noncomputable def Rd (H : Hp) (a : Addr) (u : HO) : Prop := H a = some u ∨ ∃ o, H a = some (.frz o u)
theorem Rd.ok {P : Program} {w : World} {H : Hp} {h : Heap} {a : Addr} {u : HO} (r : Rd H a u) (x : HOk P w H h) : ObjOk P w H h a u := by
  rcases r with r | ⟨o, r⟩
  · exact x a u r
  · obtain ⟨_, q⟩ := x a _ r
    exact q
noncomputable def Mut : Option HO → Prop
  | some (.lst _) => True
  | some (.dK _) => True
  | some (.dT _) => True
  | some (.set _ _) => True
  | some (.ins _ _ _) => True
  | some (.ext _) => True
  | _ => False
section
variable {P : Program} {w : World} {H : Hp} {h h' : Heap} {x e : Addr} {o' : HO}
theorem HOk.write (ok : HOk P w H h) (mu : Mut (H x)) (he : e = x ∨ H e = some (.own x)) (k : ∀ b u, b ≠ e → h.get? b = some u → h'.get? b = some u) (heo : ∃ u, h'.get? e = some u)
    (new : ObjOk P w (upd H x o') h' x o') : HOk P w (upd H x o') h' := fun b u q => by
  have nown : ∀ c y, H c = some (.own y) → c ≠ x := fun c y r z => by subst z; rw [r] at mu; exact mu
  have ntup : ∀ c xs, H c = some (.tup xs) → c ≠ x := fun c xs r z => by subst z; rw [r] at mu; exact mu
  by_cases hb : b = x
  · subst hb; rw [upd_same] at q; cases q; exact new
  · rw [upd_ne hb] at q
    by_cases hbe : b = e
    · have q' : H b = some (.own x) := by
        rcases he with z | z
        · exact absurd (hbe.trans z) hb
        · rw [hbe]; exact z
      rw [q] at q'; cases q'
      obtain ⟨v, hv⟩ := heo
      exact ⟨v, by rw [hbe]; exact hv⟩
    · refine (ok b u q).stay (fun c v hc r => k c v ?_ r) (fun c r => by rw [upd_ne (nown c b r)]; exact r) fun c xs r => by rw [upd_ne (ntup c xs r)]; exact r
      rcases hc with rfl | hc
      · exact hbe
      · rintro rfl
        rcases he with z | z
        · exact nown c b hc z
        · rw [hc] at z; cases z; exact hb rfl
end

structure Un (fs ex : List Addr) (H H' : Hp) (h h' : Heap) : Prop where
  keep : ∀ b o, h.get? b = some o → H b = none → b ∉ fs → b ∉ ex → h'.get? b = some o
  slot : ∀ b o, h.get? b = some o → H b = none → b ∈ fs → b ∉ ex → ∃ sl, h'.get? b = some { o with slots := sl }
  free : ∀ b o, h.get? b = some o → H b = none → b ∉ ex → H' b = none
  there : ∀ b o, h.get? b = some o → b ∉ ex → ∃ o', h'.get? b = some o'
  tups : ∀ b xs, H b = some (.tup xs) → H' b = some (.tup xs)
  frzs : ∀ b o u, H b = some (.frz o u) → H' b = some (.frz o u)
  tbls : ∀ b ps, H b = some (.tbl ps) → ∃ more, H' b = some (.tbl (ps ++ more))
section
variable {fs fs' ex ex' : List Addr} {H H1 H2 : Hp} {h h1 h2 h' : Heap} {a x e : Addr} {o : HO}
theorem Un.any (u : Un fs ex H H1 h h1) {b : Addr} {ob : Obj} (q : h.get? b = some ob) (n : H b = none) (hx : b ∉ ex) : ∃ sl, h1.get? b = some { ob with slots := sl } := by
  by_cases hb : b ∈ fs
  · exact u.slot b ob q n hb hx
  · exact ⟨ob.slots, u.keep b ob q n hb hx⟩
theorem Un.kept (k : ∀ b u, h.get? b = some u → h'.get? b = some u) : Un fs ex H H h h' :=
  ⟨fun b ob q _ _ _ => k b ob q, fun b ob q _ _ _ => ⟨ob.slots, k b ob q⟩, fun _ _ _ n _ => n, fun b ob q _ => ⟨ob, k b ob q⟩, fun _ _ q => q, fun _ _ _ q => q, fun _ ps q => ⟨#[], by rw [q]; simp⟩⟩
theorem Un.refl : Un fs ex H H h h := Un.kept fun _ _ q => q
theorem Un.laid (k : ∀ b u, h.get? b = some u → h'.get? b = some u) (hp : h.objs.size ≤ a) (hn : H a = none) : Un fs ex H (upd H a o) h h' where
  keep := fun b u q _ _ _ => k b u q
  slot := fun b u q _ _ _ => ⟨u.slots, k b u q⟩
  free := fun b u q n _ => by rw [upd_ne (Nat.ne_of_lt (Nat.lt_of_lt_of_le (Heap.lt_size q) hp))]; exact n
  there := fun b u q _ => ⟨u, k b u q⟩
  tups := fun b xs q => by rw [upd_ne (ne_of_none q hn)]; exact q
  frzs := fun b u xs q => by rw [upd_ne (ne_of_none q hn)]; exact q
  tbls := fun b ps q => ⟨#[], by rw [upd_ne (ne_of_none q hn), q]; simp⟩
theorem Un.write (mu : Mut (H x)) (he : e = x ∨ H e = some (.own x)) (k : ∀ b u, b ≠ e → h.get? b = some u → h'.get? b = some u) (heo : ∃ u, h'.get? e = some u) : Un fs ex H (upd H x o) h h' := by
  have hx : ∀ b, H b = none → b ≠ x := fun b n z => by subst z; rw [n] at mu; exact mu
  have hb : ∀ b, H b = none → b ≠ e := fun b n z => by
    subst z
    rcases he with r | r
    · exact hx b n r
    · rw [n] at r; cases r
  have hm : ∀ b u, H b = some u → ¬ Mut (some u) → b ≠ x := fun b u q nm z => by subst z; rw [q] at mu; exact nm mu
  refine ⟨fun b u q n _ _ => k b u (hb b n) q, fun b u q n _ _ => ⟨u.slots, k b u (hb b n) q⟩, fun b u q n _ => by rw [upd_ne (hx b n)]; exact n, fun b u q _ => ?_,
    fun b xs q => by rw [upd_ne (hm b _ q fun z => z)]; exact q, fun b u xs q => by rw [upd_ne (hm b _ q fun z => z)]; exact q, fun b ps q => ⟨#[], by rw [upd_ne (hm b _ q fun z => z), q]; simp⟩⟩
  by_cases hbe : b = e
  · subst hbe; exact heo
  · exact ⟨u, k b u hbe q⟩
end

noncomputable def trk (h : Heap) (H : Hp) : List Addr := (List.range h.objs.size).filter fun a => (H a).isSome
noncomputable def hidT (h : Heap) (H : Hp) : Heap := PySem.W.hideAll h (trk h H)
theorem hidT_size (h : Heap) (H : Hp) : (hidT h H).objs.size = h.objs.size := PySem.W.hideAll_size _ _
theorem hidT_get {h : Heap} {H : Hp} {b : Addr} {o : Obj} (e : h.get? b = some o) (n : H b = none) : (hidT h H).get? b = some o :=
  PySem.W.hideAll_get _ e fun hm => by
    have q : (H b).isSome = true := (List.mem_filter.mp hm).2
    rw [n] at q; simp at q
theorem of_hidT {h : Heap} {H : Hp} {b : Addr} {o : Obj} (e : (hidT h H).get? b = some o) : h.get? b = some o ∧ H b = none := by
  have e' : h.get? b = some o := PySem.W.of_hideAll (trk h H) e
  refine ⟨e', ?_⟩
  cases q : H b with
  | none => rfl
  | some x =>
    have hm : b ∈ trk h H := List.mem_filter.mpr ⟨List.mem_range.mpr (Heap.lt_size e'), by simp [q]⟩
    have z : (hidT h H).get? b = none := PySem.W.hideAll_none (trk h H) hm
    rw [z] at e; cases e

noncomputable def allNews (g h : Heap) (L : Addr) : List (Addr × Obj) := (List.range h.objs.size).filterMap fun a => if a = L ∨ (g.get? a).isSome = true then none else (h.get? a).map fun o => (a, o)
noncomputable def rest (g h : Heap) (L d : Addr) : List (Addr × Obj) := (allNews g h L).filter fun p => decide (p.1 ≠ d)
end L2

namespace L2
open PySem PySem.Spec PyProof.Rows

structure Mod (K : PySem.W.Frag) (mg : Str → Option Value) (base : Heap) : Prop where
  kin : K.In base
  glob : base.Ns mainGlobals mg
  blt : ∃ mb, base.Ns builtinsNs mb ∧ ∀ x : Str, x ≠ "__name__" → mb x = bootBuiltins x
  nolimit : base.NoLimit

structure Cx where
  prog : Program
  w : World
  K : PySem.W.Frag
  mg : Str → Option Value
  base : Heap
  A : Around
  N : List Str
  s₀ : Shared
  H₀ : Hp
  env : Env
  outer : List Env
  stack : List Env
  ex : List Addr
  fn : Str → Bool
  calm : Bool
  pn : List (Addr × Obj)
  xe : Value → Shared → Prop
noncomputable def frs (l : List Env) : List Addr := l.filterMap (·.frame)
noncomputable abbrev Cx.fs (X : Cx) : List Addr := frs X.outer

noncomputable def Vis (sc : Scope) (x : Str) : Prop := sc.names.lookup x = some .local ∨ sc.names.lookup x = some .cell ∨ sc.names.lookup x = some .free
noncomputable def Loc (sc : Scope) (x : Str) : Prop := sc.names.lookup x = some .local ∨ sc.names.lookup x = some .cell
noncomputable def Look (env : Env) (h : Heap) (m : Str → Option Value) (x : Str) (u : Value) : Prop :=
  (env.kindOf x = some .local ∧ m x = some u) ∨ ((env.kindOf x = some .cell ∨ env.kindOf x = some .free) ∧ ∃ c, env.cells.lookup x = some c ∧ h.IsCell c (some u))

structure Cx.Ok (X : Cx) : Prop where
  mod : Mod X.K X.mg X.base
  kind : X.env.scope.kind = .function
  glob : X.env.globals = mainGlobals
  blt : X.env.builtins = builtinsNs
  above : X.s₀.heap.objs.size ≤ X.env.locals
  inj : ∀ x y c, X.env.cells.lookup x = some c → X.env.cells.lookup y = some c → x = y
  has : ∀ x, (X.env.kindOf x = some .cell ∨ X.env.kindOf x = some .free) → ∃ c, X.env.cells.lookup x = some c
  cab : ∀ x c, X.fn x = true → X.env.cells.lookup x = some c → X.s₀.heap.objs.size ≤ c
  hd : X.calm = true → X.A.handled = none
  frames : X.A.frames = some X.stack
  stk : X.stack = X.outer ∨ (X.stack = X.env :: X.outer ∧ X.env.frame = some X.env.locals)
  exf : ∀ b ∈ X.ex, b ≠ X.env.locals ∧ ∀ x c, X.env.cells.lookup x = some c → c ≠ b
  bs : ∀ b o, X.base.get? b = some o → X.s₀.heap.get? b = some o ∧ X.H₀ b = none
  bsz : X.base.objs.size ≤ X.s₀.heap.objs.size
  noex : ∀ b o, X.base.get? b = some o → b ∉ X.ex
  exfs : ∀ b ∈ X.ex, b ∉ X.fs
  funs : X.s₀.heap.FunFrames X.base X.outer
  frf : ∀ b ∈ X.fs, X.H₀ b = none

structure Inv (X : Cx) (pins : List (Addr × Obj)) (σ : List (Option V)) (H : Hp) (s : Shared) : Prop where
  ok : X.Ok
  os : s.os = X.s₀.os
  bare : AllBare s.gens
  base : Un X.fs X.ex X.H₀ H X.s₀.heap s.heap
  loc : ∃ m, s.heap.Ns X.env.locals m ∧ ∀ (i : Nat) (x : Str) (v : V), X.N[i]? = some x → σ[i]? = some (some v) → Vis X.env.scope x → ∃ u, RelV v u ∧ Look X.env s.heap m x u
  cell : ∀ x c, X.env.cells.lookup x = some c → ∃ v, s.heap.IsCell c v
  free : H X.env.locals = none
  freeC : ∀ x c, X.env.cells.lookup x = some c → H c = none
  pin : ∀ p ∈ X.pn ++ pins, s.heap.get? p.1 = some p.2 ∧ H p.1 = none ∧ p.1 ≠ X.env.locals ∧ p.1 ∉ X.fs ∧ ∀ v, p.2.data ≠ .cell v
  hok : HOk X.prog X.w H s.heap
  len : σ.length = X.N.length

section
variable {X : Cx} {pins : List (Addr × Obj)} {σ : List (Option V)} {H H' : Hp} {s : Shared} {h' : Heap}

theorem Cx.Ok.nofr (ok : X.Ok) {b : Addr} {o : Obj} (e : X.base.get? b = some o) : b ∉ X.fs := fun hb => by
  have := (ok.funs.mem hb).1
  rw [e] at this; cases this
theorem Inv.bs (I : Inv X pins σ H s) : ∀ b o, X.base.get? b = some o → s.heap.get? b = some o ∧ H b = none := fun b o e =>
  ⟨I.base.keep b o (I.ok.bs b o e).1 (I.ok.bs b o e).2 (I.ok.nofr e) (I.ok.noex b o e), I.base.free b o (I.ok.bs b o e).1 (I.ok.bs b o e).2 (I.ok.noex b o e)⟩
theorem Inv.bk (I : Inv X pins σ H s) : ∀ b o, X.base.get? b = some o → s.heap.get? b = some o := fun b o e => (I.bs b o e).1
theorem Inv.mod (I : Inv X pins σ H s) : Mod X.K X.mg X.base := I.ok.mod
theorem Inv.kIn (I : Inv X pins σ H s) : X.K.In s.heap := I.ok.mod.kin.keeps I.bk
theorem Inv.lt (I : Inv X pins σ H s) : X.env.locals < s.heap.objs.size := let ⟨_, hn, _⟩ := I.loc; hn.lt
theorem Inv.sz (I : Inv X pins σ H s) : X.s₀.heap.objs.size ≤ s.heap.objs.size := Nat.le_trans I.ok.above (Nat.le_of_lt I.lt)
theorem Inv.nofs (I : Inv X pins σ H s) {a : Addr} (h : s.heap.objs.size ≤ a) : a ∉ X.fs := fun hb => by
  obtain ⟨_, o, ho, _⟩ := I.ok.funs.mem hb
  exact absurd (Nat.lt_of_lt_of_le (Heap.lt_size ho) (Nat.le_trans I.sz h)) (Nat.lt_irrefl _)
theorem Inv.cne (I : Inv X pins σ H s) : ∀ x c, X.env.cells.lookup x = some c → c ≠ X.env.locals := fun x c e z => by
  obtain ⟨v, o, ho, hd⟩ := I.cell x c e
  obtain ⟨m, ⟨o', es, ep, ho', hd', _⟩, _⟩ := I.loc
  rw [z, ho'] at ho; cases ho; rw [hd'] at hd; cases hd
theorem Inv.funs (I : Inv X pins σ H s) : s.heap.FunFrames X.base X.outer := by
  have all : ∀ (l : List Env), (∀ b ∈ frs l, b ∈ X.fs) → X.s₀.heap.FunFrames X.base l → s.heap.FunFrames X.base l := by
    intro l
    induction l with
    | nil => intro _ _; trivial
    | cons env r ih =>
      intro hs hl
      obtain ⟨hk, ⟨L, o, hf, hn, ho, hd⟩, hr⟩ := hl
      have hL : L ∈ X.fs := hs L (by unfold frs; rw [List.filterMap_cons, hf]; exact List.mem_cons_self)
      obtain ⟨sl, e⟩ := I.base.slot L o ho (I.ok.frf L hL) hL fun z => I.ok.exfs L z hL
      exact ⟨hk, ⟨L, _, hf, hn, e, hd⟩, ih (fun b hb => hs b (by unfold frs; rw [List.filterMap_cons, hf]; exact List.mem_cons_of_mem _ hb)) hr⟩
  exact all X.outer (fun _ hb => hb) I.ok.funs

theorem Inv.stack (I : Inv X pins σ H s) : s.heap.FunFrames X.base X.stack := by
  rcases I.ok.stk with e | ⟨e, hf⟩
  · rw [e]; exact I.funs
  · rw [e]
    obtain ⟨m, hn, _⟩ := I.loc
    refine .cons (by rw [I.ok.kind]; decide) hf hn ?_ I.funs
    exact Heap.get?_none_of_le (Nat.le_trans I.ok.bsz I.ok.above)
theorem Inv.stkSub (I : Inv X pins σ H s) : ∀ b ∈ frs X.stack, b ∈ X.env.locals :: X.fs := fun b hb => by
  rcases I.ok.stk with e | ⟨e, hf⟩
  · rw [e] at hb; exact List.mem_cons_of_mem _ hb
  · rw [e] at hb
    unfold frs at hb
    rw [List.filterMap_cons, hf] at hb
    exact hb
theorem Inv.stkFree (I : Inv X pins σ H s) : ∀ b ∈ frs X.stack, H b = none := fun b hb => by
  rcases List.mem_cons.mp (I.stkSub b hb) with e | hb
  · rw [e]; exact I.free
  · obtain ⟨_, o, ho, _⟩ := I.ok.funs.mem hb
    exact I.base.free b o ho (I.ok.frf b hb) fun z => I.ok.exfs b z hb

theorem Inv.step {g' : Array GenState} {t' : Nat} {d' : Drawn} {ch : List Addr} (I : Inv X pins σ H s)
    (hch : ∀ b ∈ ch, (b ∈ X.ex ∨ X.s₀.heap.objs.size ≤ b) ∧ b ≠ X.env.locals ∧ (∀ x c, X.env.cells.lookup x = some c → c ≠ b) ∧ ∀ p ∈ X.pn ++ pins, p.1 ≠ b)
    (keep : ∀ b o, b ≠ X.env.locals → b ∉ X.fs → b ∉ ch → s.heap.get? b = some o → H b = none → h'.get? b = some o)
    (slot : ∀ b o, b ≠ X.env.locals → b ∈ X.fs → b ∉ ch → s.heap.get? b = some o → H b = none → ∃ sl, h'.get? b = some { o with slots := sl }) (free : ∀ b o, b ∉ ch → s.heap.get? b = some o → H b = none → H' b = none)
    (there : ∀ b o, b ∉ ch → s.heap.get? b = some o → ∃ o', h'.get? b = some o')
    (tups : ∀ b xs, H b = some (.tup xs) → H' b = some (.tup xs)) (frzs : ∀ b o u, H b = some (.frz o u) → H' b = some (.frz o u)) (tbls : ∀ b ps, H b = some (.tbl ps) → ∃ more, H' b = some (.tbl (ps ++ more)))
    (ns : ∀ m, s.heap.Ns X.env.locals m → h'.Ns X.env.locals m) (hok : HOk X.prog X.w H' h') (hg : AllBare g') :
    Inv X pins σ H' { s with heap := h', gens := g', drawn := d', toks := t' } := by
  have neL : ∀ b o, X.s₀.heap.get? b = some o → b ≠ X.env.locals := fun b o e => Nat.ne_of_lt (Nat.lt_of_lt_of_le (Heap.lt_size e) I.ok.above)
  have neC : ∀ b o, X.s₀.heap.get? b = some o → b ∉ X.ex → b ∉ ch := fun b o e hx hb => by
    rcases (hch b hb).1 with z | z
    · exact hx z
    · exact absurd (Nat.lt_of_lt_of_le (Heap.lt_size e) z) (Nat.lt_irrefl _)
  have cellK : ∀ x c, X.env.cells.lookup x = some c → ∀ v, s.heap.IsCell c v → h'.IsCell c v := fun x c e v ⟨o, ho, hd⟩ => by
    have nch : c ∉ ch := fun z => (hch c z).2.2.1 x c e rfl
    by_cases hc : c ∈ X.fs
    · obtain ⟨sl, q⟩ := slot c o (I.cne x c e) hc nch ho (I.freeC x c e)
      exact ⟨_, q, hd⟩
    · exact ⟨o, keep c o (I.cne x c e) hc nch ho (I.freeC x c e), hd⟩
  refine ⟨I.ok, I.os, hg, ⟨fun b o e n hb hx => ?_, fun b o e n hb hx => ?_, fun b o e n hx => ?_, fun b o e hx => ?_, fun b xs e => tups b xs (I.base.tups b xs e), fun b o xs e => frzs b o xs (I.base.frzs b o xs e), fun b ps e => ?_⟩, ?_, fun x c e => ?_, ?_, fun x c e => ?_, fun p hp => ?_, hok, I.len⟩
  · exact keep b o (neL b o e) hb (neC b o e hx) (I.base.keep b o e n hb hx) (I.base.free b o e n hx)
  · obtain ⟨sl, e1⟩ := I.base.slot b o e n hb hx
    obtain ⟨sl', e2⟩ := slot b _ (neL b o e) hb (neC b o e hx) e1 (I.base.free b o e n hx)
    exact ⟨sl', e2⟩
  · obtain ⟨o', e1⟩ := I.base.there b o e hx
    exact free b o' (neC b o e hx) e1 (I.base.free b o e n hx)
  · obtain ⟨o', e1⟩ := I.base.there b o e hx
    exact there b o' (neC b o e hx) e1
  · obtain ⟨m1, e1⟩ := I.base.tbls b ps e
    obtain ⟨m2, e2⟩ := tbls b _ e1
    exact ⟨m1 ++ m2, by rw [e2, Array.append_assoc]⟩
  · obtain ⟨m, hn, hl⟩ := I.loc
    refine ⟨m, ns m hn, fun i x v e1 e2 e3 => ?_⟩
    obtain ⟨u, r, l⟩ := hl i x v e1 e2 e3
    refine ⟨u, r, ?_⟩
    rcases l with l | ⟨k, c, e, z⟩
    · exact .inl l
    · exact .inr ⟨k, c, e, cellK x c e _ z⟩
  · obtain ⟨v, z⟩ := I.cell x c e
    exact ⟨v, cellK x c e v z⟩
  · obtain ⟨m, ⟨o, _, _, ho, _⟩, _⟩ := I.loc
    exact free _ o (fun z => (hch _ z).2.1 rfl) ho I.free
  · obtain ⟨v, o, ho, hd⟩ := I.cell x c e
    exact free c o (fun z => (hch c z).2.2.1 x c e rfl) ho (I.freeC x c e)
  · obtain ⟨e, n, ne, nf, d⟩ := I.pin p hp
    have nch : p.1 ∉ ch := fun z => (hch p.1 z).2.2.2 p hp rfl
    exact ⟨keep p.1 p.2 ne nf nch e n, free p.1 p.2 nch e n, ne, nf, d⟩
theorem Inv.un {t' : Nat} (I : Inv X pins σ H s) (u : Un X.fs [] H H' s.heap h') (hok : HOk X.prog X.w H' h') : Inv X pins σ H' { s with heap := h', toks := t' } := by
  obtain ⟨m, ⟨o, es, ep, ho, r⟩, _⟩ := id I.loc
  obtain ⟨sl, hL⟩ := u.any ho I.free (by simp)
  exact I.step (g' := s.gens) (d' := s.drawn) (ch := []) (fun _ z => nomatch z) (fun b o _ hb _ e n => u.keep b o e n hb (by simp)) (fun b o _ hb _ e n => u.slot b o e n hb (by simp)) (fun b o _ e n => u.free b o e n (by simp)) (fun b o _ e => u.there b o e (by simp)) u.tups u.frzs u.tbls (fun m' hm => by
    obtain ⟨o', es', ep', ho', r'⟩ := hm
    rw [ho] at ho'; cases ho'
    exact ⟨_, es', ep', hL, r'⟩) hok I.bare
theorem Inv.call {g' : Array GenState} {t' : Nat} {d' : Drawn} {ch : List Addr} (I : Inv X pins σ H s) (u : Un (frs X.stack) ch H H' s.heap h') (hok : HOk X.prog X.w H' h') (hg : AllBare g')
    (hch : ∀ b ∈ ch, (b ∈ X.ex ∨ X.s₀.heap.objs.size ≤ b) ∧ b ≠ X.env.locals ∧ (∀ x c, X.env.cells.lookup x = some c → c ≠ b) ∧ ∀ p ∈ X.pn ++ pins, p.1 ≠ b) :
    Inv X pins σ H' { s with heap := h', gens := g', drawn := d', toks := t' } := by
  obtain ⟨m, ⟨o, es, ep, ho, r⟩, _⟩ := id I.loc
  obtain ⟨sl, hL⟩ := u.any ho I.free fun z => (hch _ z).2.1 rfl
  exact I.step (ch := ch) hch (fun b o hL hb hc e n => u.keep b o e n (fun z => (List.mem_cons.mp (I.stkSub b z)).elim hL hb) hc) (fun b o _ _ hc e n => u.any e n hc) (fun b o hc e n => u.free b o e n hc) (fun b o hc e => u.there b o e hc) u.tups u.frzs u.tbls (fun m' hm => by
    obtain ⟨o', es', ep', ho', r'⟩ := hm
    rw [ho] at ho'; cases ho'
    exact ⟨_, es', ep', hL, r'⟩) hok hg
theorem Inv.turned {t' : Nat} {it : Addr} (I : Inv X pins σ H s) (k : ∀ b o, b ≠ it → s.heap.get? b = some o → h'.get? b = some o) (hn : H it = none) (hL : it ≠ X.env.locals)
    (h1 : it ∈ X.ex ∨ X.s₀.heap.objs.size ≤ it) (h2 : ∀ x c, X.env.cells.lookup x = some c → c ≠ it) (h3 : ∀ p ∈ X.pn ++ pins, p.1 ≠ it) : Inv X pins σ H { s with heap := h', toks := t' } := by
  have nit : ∀ b u, H b = some u → b ≠ it := fun b u e z => by rw [z, hn] at e; cases e
  refine I.step (g' := s.gens) (d' := s.drawn) (ch := [it]) (fun b hb => ?_) (fun b o _ _ hc e _ => k b o (fun z => hc (by simp [z])) e) (fun b o _ _ hc e _ => ⟨o.slots, k b o (fun z => hc (by simp [z])) e⟩) (fun _ _ _ _ n => n)
    (fun b o hc e => ⟨o, k b o (fun z => hc (by simp [z])) e⟩) (fun _ _ e => e) (fun _ _ _ e => e) (fun b ps e => ⟨#[], by rw [e]; simp⟩) (fun m hm => ?_) (fun b u e => ?_) I.bare
  · have e : b = it := by simpa using hb
    subst e
    exact ⟨h1, hL, h2, h3⟩
  · obtain ⟨o, es, ep, ho, r⟩ := hm
    exact ⟨o, es, ep, k _ o (Ne.symm hL) ho, r⟩
  · refine (I.hok b u e).stay (fun c v hc q => k c v ?_ q) (fun _ q => q) fun _ _ q => q
    rcases hc with z | z
    · rw [z]; exact nit b u e
    · exact nit c _ z
theorem Inv.tok (I : Inv X pins σ H s) (t : Nat) : Inv X pins σ H { s with toks := t } := I.un (h' := s.heap) (t' := t) Un.refl I.hok
theorem Inv.kept {t' : Nat} (I : Inv X pins σ H s) (k : ∀ b u, s.heap.get? b = some u → h'.get? b = some u) : Inv X pins σ H { s with heap := h', toks := t' } := I.un (Un.kept k) (I.hok.kept k)
theorem Inv.laid {a : Addr} {o : HO} {t' : Nat} (I : Inv X pins σ H s) (k : ∀ b u, s.heap.get? b = some u → h'.get? b = some u) (hp : s.heap.objs.size ≤ a) (new : ObjOk X.prog X.w (upd H a o) h' a o) :
    Inv X pins σ (upd H a o) { s with heap := h', toks := t' } := I.un (Un.laid k hp (I.hok.fresh hp)) (I.hok.laid k hp new)
theorem Inv.write {x e : Addr} {o : HO} {t' : Nat} (I : Inv X pins σ H s) (mu : Mut (H x)) (he : e = x ∨ H e = some (.own x)) (k : ∀ b u, b ≠ e → s.heap.get? b = some u → h'.get? b = some u) (heo : ∃ u, h'.get? e = some u)
    (new : ObjOk X.prog X.w (upd H x o) h' x o) : Inv X pins σ (upd H x o) { s with heap := h', toks := t' } := I.un (Un.write mu he k heo) (I.hok.write mu he k heo new)
theorem Inv.pins_of {pins' : List (Addr × Obj)} (I : Inv X pins σ H s) (h : ∀ p ∈ pins', s.heap.get? p.1 = some p.2 ∧ H p.1 = none ∧ p.1 ≠ X.env.locals ∧ p.1 ∉ X.fs ∧ ∀ v, p.2.data ≠ .cell v) : Inv X pins' σ H s :=
  ⟨I.ok, I.os, I.bare, I.base, I.loc, I.cell, I.free, I.freeC, fun p hp => (List.mem_append.mp hp).elim (fun z => I.pin p (List.mem_append_left _ z)) (h p), I.hok, I.len⟩

theorem nodup_ix {N : List Str} (hN : N.Nodup) {i j : Nat} {x : Str} (a : N[i]? = some x) (b : N[j]? = some x) : i = j := by
  obtain ⟨h1, e1⟩ := List.getElem?_eq_some_iff.mp a
  obtain ⟨h2, e2⟩ := List.getElem?_eq_some_iff.mp b
  exact (List.getElem_inj hN).mp (e1.trans e2.symm)

theorem store_ok2 {M : Model} {A : Around} {E : Value → Shared → Prop} {i : Nat} {x : Str} {v : V} {u : Value} {Q : Unit → Shared → Prop} (I : Inv X pins σ H s) (hN : X.N.Nodup) (hi : X.N[i]? = some x) (hx : Loc X.env.scope x) (r : RelV v u)
    (h : ∀ s', Inv X pins (σ.set i (some v)) H s' → (∃ a, Heap.SameBut a s.heap s'.heap ∧ (a = X.env.locals ∨ X.env.cells.lookup x = some a)) → Q () s') (hf : X.fn x = true ∨ X.env.scope.names.lookup x = some .local := by first | exact .inl rfl | exact .inr rfl | assumption) : wpAny M A (storeName X.env x u) Q E s := by
  obtain ⟨m, hn, hl⟩ := id I.loc
  have hcls : (X.env.scope.kind == .class || (X.env.scope.kind == .module && X.env.locals != X.env.globals)) = false := by rw [I.ok.kind]; rfl
  have hiσ : i < σ.length := by rw [I.len]; exact (List.getElem?_eq_some_iff.mp hi).1
  have cne := I.cne
  have tracked : ∀ {a : Addr} {h' : Heap}, (∃ o, s.heap.get? a = some o ∧ H a = none) → Heap.SameBut a s.heap h' → HOk X.prog X.w H h' := fun {a h'} ha hs b ob e => by
    obtain ⟨_, _, hfree⟩ := ha
    refine (I.hok b ob e).stay (fun c w' hc q => (hs.2 c ?_).trans q) (fun _ q => q) fun _ _ q => q
    rintro rfl
    rcases hc with rfl | hc
    · rw [hfree] at e; cases e
    · rw [hfree] at hc; cases hc
  rcases hx with hk | hk
  · refine wpAny_storeName_local hk hn (fun h' hn' hs => ?_) hcls
    obtain ⟨oL, _, _, hoL, _⟩ := id hn
    refine h _ ⟨I.ok, I.os, I.bare, ⟨fun b o e n hb hx => ?_, fun b o e n hb hx => ?_, I.base.free, fun b o e hx => ?_, I.base.tups, I.base.frzs, I.base.tbls⟩, ⟨_, hn', fun j y v' e1 e2 e3 => ?_⟩, fun y c e => ?_, I.free, I.freeC, fun p hp => ?_, tracked ⟨oL, hoL, I.free⟩ hs, by simpa using I.len⟩ ⟨_, hs, .inl rfl⟩
    · exact (hs.2 b (Nat.ne_of_lt (Nat.lt_of_lt_of_le (Heap.lt_size e) I.ok.above))).trans (I.base.keep b o e n hb hx)
    · obtain ⟨sl, e1⟩ := I.base.slot b o e n hb hx
      exact ⟨sl, (hs.2 b (Nat.ne_of_lt (Nat.lt_of_lt_of_le (Heap.lt_size e) I.ok.above))).trans e1⟩
    · obtain ⟨o', e1⟩ := I.base.there b o e hx
      exact ⟨o', (hs.2 b (Nat.ne_of_lt (Nat.lt_of_lt_of_le (Heap.lt_size e) I.ok.above))).trans e1⟩
    · by_cases hj : j = i
      · subst hj
        rw [hi] at e1; cases e1
        rw [List.getElem?_set_self hiσ] at e2
        cases e2
        exact ⟨u, r, .inl ⟨hk, by simp⟩⟩
      · rw [List.getElem?_set_ne (Ne.symm hj)] at e2
        obtain ⟨u', r', q⟩ := hl j y v' e1 e2 e3
        refine ⟨u', r', ?_⟩
        rcases q with ⟨k, e⟩ | ⟨k, c, e, z⟩
        · refine .inl ⟨k, ?_⟩
          have : y ≠ x := fun e => hj (nodup_ix hN e1 (e ▸ hi))
          simp [this, e]
        · exact .inr ⟨k, c, e, z.sameBut hs (cne y c e)⟩
    · obtain ⟨w', z⟩ := I.cell y c e
      exact ⟨w', z.sameBut hs (cne y c e)⟩
    · obtain ⟨e, n, ne, nf, d⟩ := I.pin p hp
      exact ⟨(hs.2 p.1 ne).trans e, n, ne, nf, d⟩
  · have hfn : X.fn x = true := by
      rcases hf with z | z
      · exact z
      · rw [z] at hk; cases hk
    obtain ⟨c, hc⟩ := I.ok.has x (.inl hk)
    obtain ⟨w', z⟩ := I.cell x c hc
    refine wpAny_storeName_cell I.ok.kind hk hc z (fun h' hc' hs => ?_)
    obtain ⟨oc, hoc, hocd⟩ := id z
    refine h { s with heap := h' } ⟨I.ok, I.os, I.bare, ⟨fun b o e n hb hx => ?_, fun b o e n hb hx => ?_, I.base.free, fun b o e hx => ?_, I.base.tups, I.base.frzs, I.base.tbls⟩, ⟨m, hn.sameBut hs (Ne.symm (cne x c hc)), fun j y v' e1 e2 e3 => ?_⟩, fun y c' e => ?_, I.free, I.freeC, fun p hp => ?_, tracked ⟨oc, hoc, I.freeC x c hc⟩ hs, by simpa using I.len⟩ ⟨c, hs, .inr hc⟩
    · exact (hs.2 b (Nat.ne_of_lt (Nat.lt_of_lt_of_le (Heap.lt_size e) (I.ok.cab x c hfn hc)))).trans (I.base.keep b o e n hb hx)
    · obtain ⟨sl, e1⟩ := I.base.slot b o e n hb hx
      exact ⟨sl, (hs.2 b (Nat.ne_of_lt (Nat.lt_of_lt_of_le (Heap.lt_size e) (I.ok.cab x c hfn hc)))).trans e1⟩
    · obtain ⟨o', e1⟩ := I.base.there b o e hx
      exact ⟨o', (hs.2 b (Nat.ne_of_lt (Nat.lt_of_lt_of_le (Heap.lt_size e) (I.ok.cab x c hfn hc)))).trans e1⟩
    · by_cases hj : j = i
      · subst hj
        rw [hi] at e1; cases e1
        rw [List.getElem?_set_self hiσ] at e2
        cases e2
        exact ⟨u, r, .inr ⟨.inl hk, c, hc, hc'⟩⟩
      · rw [List.getElem?_set_ne (Ne.symm hj)] at e2
        obtain ⟨u', r', q⟩ := hl j y v' e1 e2 e3
        refine ⟨u', r', ?_⟩
        rcases q with q | ⟨k, c', e, z'⟩
        · exact .inl q
        · refine .inr ⟨k, c', e, z'.sameBut hs ?_⟩
          rintro rfl
          exact hj (nodup_ix hN e1 (I.ok.inj _ _ _ e hc ▸ hi))
    · by_cases hcc : c' = c
      · subst hcc; exact ⟨_, hc'⟩
      · obtain ⟨w2, z2⟩ := I.cell y c' e
        exact ⟨w2, z2.sameBut hs hcc⟩
    · obtain ⟨e, n, ne, nf, d⟩ := I.pin p hp
      refine ⟨(hs.2 p.1 ?_).trans e, n, ne, nf, d⟩
      intro q
      rw [q, hoc] at e
      have q' : oc = p.2 := Option.some.inj e
      exact d w' (by rw [← q']; exact hocd)
theorem store_ok {M : Model} {A : Around} {E : Value → Shared → Prop} {i : Nat} {x : Str} {v : V} {u : Value} {Q : Unit → Shared → Prop} (I : Inv X pins σ H s) (hN : X.N.Nodup) (hi : X.N[i]? = some x) (hx : Loc X.env.scope x) (r : RelV v u)
    (h : ∀ s', Inv X pins (σ.set i (some v)) H s' → Q () s') (hf : X.fn x = true ∨ X.env.scope.names.lookup x = some .local := by first | exact .inl rfl | exact .inr rfl | assumption) : wpAny M A (storeName X.env x u) Q E s :=
  store_ok2 I hN hi hx r (fun s' I' _ => h s' I') hf
end

noncomputable abbrev XK := Value → Option Addr → Hp → Prop
noncomputable abbrev St := List (Option V)
noncomputable abbrev VK := V → Hp → Prop
noncomputable abbrev TE := St → Hp → VK → Prop
noncomputable abbrev TT := St → Hp → (Bool → Hp → Prop) → Prop
noncomputable abbrev TA := St → Hp → (List V → Hp → Prop) → Prop
structure Ends where
  nx : St → Hp → Prop
  rt : VK
  bk : St → Hp → Prop := fun _ _ => False
  ct : St → Hp → Prop := fun _ _ => False
noncomputable abbrev TS := Ends → St → Hp → Prop

noncomputable def EP (X : Cx) (pins : List (Addr × Obj)) (σ : St) (Q : VK) (u : Value) (s' : Shared) : Prop := ∃ v H', Inv X pins σ H' s' ∧ RelV v u ∧ Q v H'
noncomputable def TP (X : Cx) (pins : List (Addr × Obj)) (σ : St) (Q : Bool → Hp → Prop) (b : Bool) (s' : Shared) : Prop := ∃ H', Inv X pins σ H' s' ∧ Q b H'
noncomputable def AP (X : Cx) (pins : List (Addr × Obj)) (σ : St) (Q : List V → Hp → Prop) (us : List Value) (s' : Shared) : Prop := ∃ vs H', Inv X pins σ H' s' ∧ Vals vs us ∧ Q vs H'
noncomputable def SP (X : Cx) (pins : List (Addr × Obj)) (D : Ends) (f : Flow) (s' : Shared) : Prop :=
  match f with
  | .next => ∃ σ' H', Inv X pins σ' H' s' ∧ D.nx σ' H'
  | .brk => ∃ σ' H', Inv X pins σ' H' s' ∧ D.bk σ' H'
  | .cont => ∃ σ' H', Inv X pins σ' H' s' ∧ D.ct σ' H'
  | .ret u => ∃ v σ' H', Inv X pins σ' H' s' ∧ RelV v u ∧ D.rt v H'

noncomputable def PE (X : Cx) (e : Expr) (t : TE) : Prop :=
  ∀ (pins : List (Addr × Obj)) (s : Shared) (σ : St) (H : Hp) (Q : VK), Inv X pins σ H s → t σ H Q → wpAny (model X.prog X.w) X.A (eval e X.env) (EP X pins σ Q) X.xe s
noncomputable def PT (X : Cx) (e : Expr) (t : TT) : Prop :=
  ∀ (pins : List (Addr × Obj)) (s : Shared) (σ : St) (H : Hp) (Q : Bool → Hp → Prop), Inv X pins σ H s → t σ H Q → wpAny (model X.prog X.w) X.A (isTrue e X.env (eval e X.env)) (TP X pins σ Q) X.xe s
noncomputable def PW (X : Cx) (e : Expr) (t : TT) : Prop :=
  ∀ (whole : Sem Value) (pins : List (Addr × Obj)) (s : Shared) (σ : St) (H : Hp) (Q : Bool → Hp → Prop), Inv X pins σ H s → t σ H Q → wpAny (model X.prog X.w) X.A (isTrue e X.env whole) (TP X pins σ Q) X.xe s
theorem PW.pt {X : Cx} {e : Expr} {t : TT} (h : PW X e t) : PT X e t := h _
noncomputable def PA (X : Cx) (es : List Expr) (t : TA) : Prop :=
  ∀ (pos : Pos) (pins : List (Addr × Obj)) (s : Shared) (σ : St) (H : Hp) (Q : List V → Hp → Prop), Inv X pins σ H s → t σ H Q → wpAny (model X.prog X.w) X.A (spliced (backTo pos (starEach es X.env))) (AP X pins σ Q) X.xe s
noncomputable def PS (X : Cx) (st : Stmt) (t : TS) : Prop :=
  ∀ (pins : List (Addr × Obj)) (s : Shared) (σ : St) (H : Hp) (D : Ends), Inv X pins σ H s → t D σ H → wpAny (model X.prog X.w) X.A (exec st X.env) (SP X pins D) X.xe s
noncomputable def PSs (X : Cx) (st : List Stmt) (t : TS) : Prop :=
  ∀ (pins : List (Addr × Obj)) (s : Shared) (σ : St) (H : Hp) (D : Ends), Inv X pins σ H s → t D σ H → wpAny (model X.prog X.w) X.A (execs st X.env) (SP X pins D) X.xe s
theorem thn {α : Type} {t : Sem α} {Q Q' : α → Shared → Prop} {M : Model} {A : Around} {E : Value → Shared → Prop} {s : Shared} (h : wpAny M A t Q E s) (hQ : ∀ a s, Q a s → Q' a s) : wpAny M A t Q' E s := wpAny_mono h hQ fun _ _ x => x
end L2

namespace L2
open PySem PySem.Spec PyProof.Rows
section
variable {X : Cx}

noncomputable def tVar (i : Nat) : TE := fun σ H Q => ∃ v, σ[i]? = some (some v) ∧ Q v H
noncomputable def tC (v : V) : TE := fun _ H Q => Q v H
theorem pe_var {i : Nat} {x : Str} {pos : Pos} (hN : X.N[i]? = some x) (hv : Vis X.env.scope x) (hd : (x == ("__debug__" : Str)) = false := by decide) (hcd : (x == ("__classdict__" : Str)) = false := by decide) : PE X (.Name x pos) (tVar i) := by
  intro pins s σ H Q I h
  obtain ⟨v, e, h⟩ := h
  obtain ⟨m, hn, hl⟩ := I.loc
  obtain ⟨u, r, l⟩ := hl i x v hN e hv
  have fin : EP X pins σ Q u s := ⟨v, H, I, r, h⟩
  rcases l with ⟨hk, hm⟩ | ⟨hk, c, hc, hcell⟩
  · exact wpAny_Name (wpAny_loadName_local I.ok.kind hk hn hm fin) hd
  · rcases hk with hk | hk
    · exact wpAny_Name (wpAny_loadName_cell I.ok.kind hk hc hcell fin) hd
    · exact wpAny_Name (wpAny_loadName_free I.ok.kind hk hc hcell fin hcd) hd
theorem pe_int {i j pos} : PE X (.Constant (.int i) j pos) (tC (.int i)) := fun _ _ _ H _ I h => wpAny_Constant_int ⟨.int i, H, I.tok _, ⟨_, rfl⟩, h⟩
theorem pe_bl {b j pos} : PE X (.Constant (.bool b) j pos) (tC (.bl b)) := fun _ _ _ H _ I h => Constant_bool ⟨.bl b, H, I, rfl, h⟩
theorem pe_str {x j pos} : PE X (.Constant (.str x) j pos) (tC (.str x)) := fun _ _ _ H _ I h => Calls.Constant_str ⟨.str x, H, I.tok _, ⟨_, rfl⟩, h⟩

noncomputable def Gl (X : Cx) (x : Str) : Prop := X.env.kindOf x = some .globalImplicit
theorem ld_glob {E : Value → Shared → Prop} {pins : List (Addr × Obj)} {s : Shared} {σ : St} {H : Hp} {x : Str} {u : Value} {pos : Pos} {Q : Value → Shared → Prop} (I : Inv X pins σ H s) (hg : Gl X x) (hm : X.mg x = some u) (h : Q u s)
    (hd : (x == ("__debug__" : Str)) = false := by decide) : wpAny (model X.prog X.w) X.A (eval (.Name x pos) X.env) Q E s :=
  Calls.Name_function_global I.ok.kind hg (Calls.loadGlobal_global (by rw [I.ok.glob]; exact I.mod.glob.keeps I.bk) hm h) hd
theorem ld_blt {E : Value → Shared → Prop} {pins : List (Addr × Obj)} {s : Shared} {σ : St} {H : Hp} {x : Str} {u : Value} {pos : Pos} {Q : Value → Shared → Prop} (I : Inv X pins σ H s) (hg : Gl X x) (hm : X.mg x = none) (hv : bootBuiltins x = some u) (h : Q u s)
    (hn : x ≠ "__name__" := by decide) (hd : (x == ("__debug__" : Str)) = false := by decide) : wpAny (model X.prog X.w) X.A (eval (.Name x pos) X.env) Q E s := by
  obtain ⟨mb, h1, h2⟩ := I.mod.blt
  exact Calls.Name_function_global I.ok.kind hg (Calls.loadGlobal_builtin (by rw [I.ok.glob]; exact I.mod.glob.keeps I.bk) hm (by rw [I.ok.blt]; exact h1.keeps I.bk) ((h2 x hn).trans hv) h) hd
theorem pe_glob {x : Str} {v : V} {u : Value} {pos : Pos} (hg : Gl X x) (hm : X.mg x = some u) (r : RelV v u) (hd : (x == ("__debug__" : Str)) = false := by decide) : PE X (.Name x pos) (tC v) :=
  fun _ _ _ H _ I h => ld_glob I hg hm ⟨v, H, I, r, h⟩ hd
theorem pe_bltn {x : Str} {v : V} {u : Value} {pos : Pos} (hg : Gl X x) (hm : X.mg x = none) (hv : bootBuiltins x = some u) (r : RelV v u) (hn : x ≠ "__name__" := by decide) (hd : (x == ("__debug__" : Str)) = false := by decide) : PE X (.Name x pos) (tC v) :=
  fun _ _ _ H _ I h => ld_blt I hg hm hv ⟨v, H, I, r, h⟩ hn hd

variable {a b : Expr} {ta tb : TE} {pos : Pos}
noncomputable def tB (t : TE) : TT := fun σ H Q => t σ H fun x H1 => ∃ c, x = .bl c ∧ Q c H1
theorem pt_val {e : Expr} {t : TE} (h : PE X e t) (he : ∀ whole, isTrue e X.env whole = (do let v ← whole; standAt e.pos; holding [v] (truthy v)) := by intro _; rfl) : PT X e (tB t) := by
  intro pins s σ H Q I hw
  refine isTrue_plain (thn (h pins s σ H _ I hw) fun v s1 ⟨x, H1, I1, r1, q1⟩ => ?_) (he _)
  obtain ⟨d, rfl, q⟩ := q1
  cases r1
  exact wpAny_truthy_bool ⟨H1, I1, q⟩

variable {tA tB' : TT} {rest : List Expr}
noncomputable def tAnd (t u : TT) : TT := fun σ H Q => t σ H fun c H1 => if c = true then u σ H1 Q else Q false H1
noncomputable def tOr (t u : TT) : TT := fun σ H Q => t σ H fun c H1 => if c = true then Q true H1 else u σ H1 Q
noncomputable def tNot (t : TT) : TT := fun σ H Q => t σ H fun c H1 => Q (!c) H1
theorem pw_or1 (ha : PT X a tA) : PW X (.BoolOp .Or [a] pos) tA := by
  intro wh pins s σ H Q I h
  refine isTrue_or (thn (ha pins s σ H Q I h) fun c s1 e => ?_)
  cases c with
  | false => exact isTrue_or_nil e
  | true => exact e
theorem pw_or (ha : PT X a tA) (hb : PW X (.BoolOp .Or (b :: rest) pos) tB') : PW X (.BoolOp .Or (a :: b :: rest) pos) (tOr tA tB') := by
  intro wh pins s σ H Q I h
  refine isTrue_or (thn (ha pins s σ H _ I h) fun c s1 ⟨H1, I1, q1⟩ => ?_)
  cases c with
  | true => exact ⟨H1, I1, q1⟩
  | false => exact hb wh pins s1 σ H1 Q I1 q1
theorem pt_not (ha : PT X a tA) : PT X (.UnaryOp .Not a pos) (tNot tA) := by
  intro pins s σ H Q I h
  exact isTrue_not (ha pins s σ H (fun c H1 => Q (!c) H1) I h)
noncomputable def tAndV (ta tb : TE) : TE := fun σ H Q => ta σ H fun x H1 => ∃ c, x = .bl c ∧ if c = true then tb σ H1 Q else Q (.bl false) H1
noncomputable def tOrV (ta tb : TE) : TE := fun σ H Q => ta σ H fun x H1 => ∃ c, x = .bl c ∧ if c = true then Q (.bl true) H1 else tb σ H1 Q
noncomputable def tNotV (ta : TE) : TE := fun σ H Q => ta σ H fun x H1 => ∃ c, x = .bl c ∧ Q (.bl (!c)) H1
theorem pe_one {op} {t : TE} (h : PE X a t) : PE X (.BoolOp op [a] pos) t := fun pins s σ H Q I hw => BoolOp_one (h pins s σ H Q I hw)
theorem pe_and (ha : PE X a ta) (hb : PE X (.BoolOp .And (b :: rest) pos) tb) : PE X (.BoolOp .And (a :: b :: rest) pos) (tAndV ta tb) := by
  intro pins s σ H Q I h
  refine BoolOp_and (thn (ha pins s σ H _ I h) fun v s1 ⟨x, H1, I1, r1, q1⟩ => ?_)
  obtain ⟨c, rfl, q1⟩ := q1
  cases r1
  refine wpAny_truthy_bool ?_
  cases c with
  | true => exact hb pins s1 σ H1 Q I1 q1
  | false => exact ⟨.bl false, H1, I1, rfl, q1⟩
theorem pe_not (ha : PE X a ta) : PE X (.UnaryOp .Not a pos) (tNotV ta) := by
  intro pins s σ H Q I h
  refine UnaryOp_ (thn (ha pins s σ H _ I h) fun v s1 ⟨x, H1, I1, r1, q1⟩ => ?_)
  obtain ⟨c, rfl, q1⟩ := q1
  cases r1
  exact not_of (wpAny_truthy_bool ⟨.bl (!c), H1, I1, rfl, q1⟩)
end
end L2

namespace L2
open PySem PySem.Spec PyProof.Rows

noncomputable def SqL (K : PySem.W.Frag) (H : Hp) (a : Addr) (xs : List V) : Prop :=
  Rd H a (.lst xs) ∨
    ∃ (o : Obj) (its : Array Value) (n : Nat), K.lookup a = some o ∧ o.cls = .type "list" ∧ o.dict = none ∧ o.data = .seq its n ∧ its.size ≤ sizeLine ∧ Vals xs its.toList
noncomputable def SqT (K : PySem.W.Frag) (H : Hp) (a : Addr) (xs : List V) : Prop :=
  Rd H a (.tup xs) ∨
    ∃ (o : Obj) (its : Array Value) (n : Nat), K.lookup a = some o ∧ o.cls = .type "tuple" ∧ o.data = .seq its n ∧ its.size ≤ sizeLine ∧ Vals xs its.toList
section
variable {X : Cx} {pins : List (Addr × Obj)} {σ : St} {H : Hp} {s : Shared} {a : Addr} {xs ys : List V}
theorem SqL.of {K : PySem.W.Frag} (h : H a = some (.lst xs)) : SqL K H a xs := .inl (.inl h)
theorem SqT.of {K : PySem.W.Frag} (h : H a = some (.tup xs)) : SqT K H a xs := .inl (.inl h)
theorem Inv.list (I : Inv X pins σ H s) (h : SqL X.K H a xs) : ∃ its : List Value, Vals xs its ∧ PlainL s.heap a its.toArray ∧ xs.length ≤ sizeLine := by
  rcases h with h | ⟨o, its, n, hk, hc, hd, hs, hz, r⟩
  · obtain ⟨z, its, n, r, e⟩ := h.ok I.hok
    exact ⟨its, r, ⟨_, n, e, rfl, rfl, rfl⟩, z⟩
  · refine ⟨its.toList, r, ⟨o, n, I.kIn a o hk, hc, hd, by simpa using hs⟩, ?_⟩
    have e := r.length
    simp only [Array.length_toList] at e
    omega
theorem Inv.tuple (I : Inv X pins σ H s) (h : SqT X.K H a xs) : ∃ its : List Value, Vals xs its ∧ IsTup s.heap a its.toArray ∧ xs.length ≤ sizeLine := by
  rcases h with h | ⟨o, its, n, hk, hc, hs, hz, r⟩
  · obtain ⟨z, its, r, p⟩ := h.ok I.hok
    exact ⟨its, r, p, z⟩
  · refine ⟨its.toList, r, ⟨o, I.kIn a o hk, hc, n, by simpa using hs⟩, ?_⟩
    have e := r.length
    simp only [Array.length_toList] at e
    omega
end

section
variable {X : Cx} {pins : List (Addr × Obj)} {σ : St} {H : Hp} {s : Shared} {E : Value → Shared → Prop}
end

section
variable {X : Cx} {st : Stmt} {rest : List Stmt} {t u : TS} {e : Expr} {te : TE} {pos : Pos}
noncomputable def tNext : TS := fun D σ H => D.nx σ H
noncomputable def tSeq (t u : TS) : TS := fun D σ H => t { D with nx := u D } σ H
theorem pss_nil : PSs X [] tNext := fun _ _ σ H _ I h => wpAny_execs_nil ⟨σ, H, I, h⟩
theorem pss_cons (h1 : PS X st t) (h2 : PSs X rest u) : PSs X (st :: rest) (tSeq t u) := by
  intro pins s σ H D I h
  refine wpAny_execs_cons (thn (h1 pins s σ H { D with nx := u D } I h) fun f s1 q => ?_)
  cases f with
  | next =>
    obtain ⟨σ', H', I', q⟩ := q
    exact h2 pins s1 σ' H' D I' q
  | ret v => exact q
  | brk => exact q
  | cont => exact q
theorem pss_one (h1 : PS X st t) : PSs X [st] t := by
  intro pins s σ H D I h
  refine wpAny_execs_cons (thn (h1 pins s σ H D I h) fun f s1 q => ?_)
  cases f with
  | next => exact wpAny_execs_nil q
  | ret v => exact q
  | brk => exact q
  | cont => exact q
noncomputable def tRet (te : TE) : TS := fun D σ H => te σ H D.rt
theorem ps_ret (he : PE X e te) : PS X (.Return (some e) pos) (tRet te) := by
  intro pins s σ H D I h
  exact wpAny_Return_some (thn (he pins s σ H _ I h) fun v s1 ⟨x, H1, I1, r1, q1⟩ => ⟨x, σ, H1, I1, r1, q1⟩)
noncomputable def tIfS (c : TT) (t u : TS) : TS := fun D σ H => c σ H fun b H1 => if b = true then t D σ H1 else u D σ H1
theorem ps_if {c : Expr} {a b : List Stmt} {tc : TT} (hc : PT X c tc) (ha : PSs X a t) (hb : PSs X b u) : PS X (.If c a b pos) (tIfS tc t u) := by
  intro pins s σ H D I h
  refine wpAny_If (thn (hc pins s σ H _ I h) fun d s1 ⟨H1, I1, q1⟩ => ?_)
  cases d with
  | true => exact ha pins s1 σ H1 D I1 q1
  | false => exact hb pins s1 σ H1 D I1 q1
end

noncomputable abbrev TG := V → St → Hp → (St → Hp → Prop) → Prop
noncomputable def PG (X : Cx) (target : Expr) (t : TG) : Prop :=
  ∀ (pins : List (Addr × Obj)) (s : Shared) (σ : St) (H : Hp) (v : V) (u : Value) (Q : St → Hp → Prop), Inv X pins σ H s → RelV v u → t v σ H Q →
    wpAny (model X.prog X.w) X.A (assign target X.env u) (fun _ s' => ∃ σ' H', Inv X pins σ' H' s' ∧ Q σ' H') X.xe s
section
variable {X : Cx} {pos : Pos}
noncomputable def gName (i : Nat) : TG := fun v σ H Q => Q (σ.set i (some v)) H
theorem pg_name {i : Nat} {x : Str} (hN : X.N.Nodup) (hi : X.N[i]? = some x) (hx : Loc X.env.scope x) (hf : X.fn x = true ∨ X.env.scope.names.lookup x = some .local := by first | exact .inl rfl | exact .inr rfl | assumption) : PG X (.Name x pos) (gName i) := by
  intro pins s σ H v u Q I r h
  exact wpAny_assign_Name (store_ok I hN hi hx r (fun s' I' => ⟨_, H, I', h⟩) hf)
noncomputable def tAsg (te : TE) (g : TG) : TS := fun D σ H => te σ H fun x H1 => g x σ H1 D.nx
theorem ps_set {i : Nat} {x : Str} {e : Expr} {te : TE} {pos' : Pos} (hN : X.N.Nodup) (hi : X.N[i]? = some x) (hx : Loc X.env.scope x) (he : PE X e te) (hs : swapsWith e (some (.Name x pos')) pos.line X.env = pure false := by rfl) (hf : X.fn x = true ∨ X.env.scope.names.lookup x = some .local := by first | exact .inl rfl | exact .inr rfl | assumption) :
    PS X (.Assign [.Name x pos'] e pos) (tAsg te (gName i)) := by
  intro pins s σ H D I h
  refine wpAny_Assign_Name (thn (he pins s σ H _ I h) fun v s1 ⟨y, H1, I1, r1, q1⟩ => ?_) hs
  exact store_ok I1 hN hi hx r1 (fun s2 I2 => ⟨_, H1, I2, q1⟩) hf
end

section
variable {X : Cx} {pos : Pos}
end

structure It where
  go : Nat → Hp → Prop
  yld : Nat → Hp → V → Hp → Prop
  stop : Nat → Hp → Prop
noncomputable def FpOk (X : Cx) (pins : List (Addr × Obj)) (H : Hp) (b : Addr) : Prop :=
  H b = none ∧ b ≠ X.env.locals ∧ b ∉ X.fs ∧ (b ∈ X.ex ∨ X.s₀.heap.objs.size ≤ b) ∧ (∀ x c, X.env.cells.lookup x = some c → c ≠ b) ∧ ∀ p ∈ X.pn ++ pins, p.1 ≠ b
theorem Inv.fpOk {X : Cx} {pins : List (Addr × Obj)} {σ : St} {H H' : Hp} {s : Shared} {b : Addr} (I : Inv X pins σ H s) (hb : s.heap.objs.size ≤ b) (hn : H' b = none) : FpOk X pins H' b := by
  refine ⟨hn, Nat.ne_of_gt (Nat.lt_of_lt_of_le I.lt hb), I.nofs hb, .inr (Nat.le_trans I.sz hb), fun x c e z => ?_, fun p hp z => ?_⟩
  · obtain ⟨v, q⟩ := I.cell x c e
    exact absurd (Nat.lt_of_lt_of_le q.lt (by rw [z]; exact hb)) (Nat.lt_irrefl _)
  · exact absurd (Nat.lt_of_lt_of_le (Heap.lt_size (I.pin p hp).1) (by rw [z]; exact hb)) (Nat.lt_irrefl _)
structure Turn (P : Program) (w : World) (K : PySem.W.Frag) (tg : Expr) (J : It) (fp : List Addr) (it : Addr) (tn : Nat → Heap → Prop) : Prop where
  mem : it ∈ fp
  obj : ∀ i h, tn i h → ∀ b ∈ fp, ∃ o, h.get? b = some o ∧ ∀ v, o.data ≠ .cell v
  keep : ∀ i h h', tn i h → (∀ b ∈ fp, ∀ o, h.get? b = some o → h'.get? b = some o) → tn i h'
  item : ∀ (X : Cx), X.prog = P → X.w = w → X.K = K → X.calm = true → ∀ (i : Nat) (pins : List (Addr × Obj)) (s : Shared) (σ : St) (H : Hp) (E : Value → Shared → Prop), Inv X pins σ H s → (∀ b ∈ fp, FpOk X pins H b) → tn i s.heap → J.go i H →
    wpAny (model P w) X.A (pyNext (.ref it)) (fun r s1 => ∃ u, r = some u ∧
      wpAny (model P w) X.A (letOwnedTupleGo tg (.ref it) u) (fun _ s2 => ∃ x H', Inv X pins σ H' s2 ∧ RelV x u ∧ J.yld i H x H' ∧ tn (i + 1) s2.heap ∧ ∀ b ∈ fp, H' b = none) E s1) E s
  done : ∀ (X : Cx), X.prog = P → X.w = w → X.K = K → X.calm = true → ∀ (i : Nat) (pins : List (Addr × Obj)) (s : Shared) (σ : St) (H : Hp) (E : Value → Shared → Prop), Inv X pins σ H s → (∀ b ∈ fp, FpOk X pins H b) → tn i s.heap → J.stop i H →
    wpAny (model P w) X.A (pyNext (.ref it)) (fun r s1 => r = none ∧ Inv X pins σ H s1) E s
  self : ∀ (A : Around) (i : Nat) (s : Shared) (Q : Value → Shared → Prop) (E : Value → Shared → Prop), tn i s.heap → Q (.ref it) s → wpAny (model P w) A (pyIter (.ref it)) Q E s
noncomputable abbrev TI := St → Hp → (It → Hp → Prop) → Prop
noncomputable def PIE (X : Cx) (pins : List (Addr × Obj)) (σ : St) (tg : Expr) (R : It → Hp → Prop) (itv : Value) (s2 : Shared) : Prop :=
  ∃ (it : Addr) (fp : List Addr) (tn : Nat → Heap → Prop) (J : It) (H' : Hp), itv = .ref it ∧ Inv X pins σ H' s2 ∧ Turn X.prog X.w X.K tg J fp it tn ∧ tn 0 s2.heap ∧ (∀ b ∈ fp, FpOk X pins H' b) ∧ R J H'
noncomputable def PI (X : Cx) (tg iter : Expr) (wi : TI) : Prop :=
  ∀ (pins : List (Addr × Obj)) (s : Shared) (σ : St) (H : Hp) (R : It → Hp → Prop), Inv X pins σ H s → wi σ H R →
    wpAny (model X.prog X.w) X.A (eval iter X.env) (fun v s1 => wpAny (model X.prog X.w) X.A (pyIter v) (PIE X pins σ tg R) X.xe s1) X.xe s

theorem go_of {M : Model} {A : Around} {E : Value → Shared → Prop} {s : Shared} {tg : Expr} {it : Addr} {u : Value} {o : Obj} {n : String} {vs : Array Value} {Q : Unit → Shared → Prop} (ho : s.heap.get? it = some o) (hc : o.cls = .type n) (hd : o.data = .fields vs)
    (hn : ["enumerate", "zip", "dict_itemiterator", "dict_reverseitemiterator", "odict_iterator", "itertools.zip_longest", "itertools.pairwise"].contains n = false) (hQ : Q () s) : wpAny M A (letOwnedTupleGo tg (.ref it) u) Q E s := by
  unfold letOwnedTupleGo
  cases tg <;> first
    | exact wpAny_pure hQ
    | (cases u <;> first
        | exact wpAny_pure hQ
        | (refine wpAny_bind (wpAny_load ho ?_)
           rw [hc, hd]
           show wpAny M A (if (["enumerate", "zip", "dict_itemiterator", "dict_reverseitemiterator", "odict_iterator", "itertools.zip_longest", "itertools.pairwise"].contains n && vs[0]? == some (rawInt _)) = true then _ else _) Q E s
           rw [if_neg (by intro h; rw [hn, Bool.false_and] at h; cases h)]
           exact wpAny_pure hQ))

noncomputable def Itr (lo : Int) (n : Nat) : It := ⟨fun i _ => i < n, fun i H x H' => H' = H ∧ x = .int (lo + i), fun i _ => n ≤ i⟩
theorem turn_range {P : Program} {w : World} {K : PySem.W.Frag} {tg : Expr} (it : Addr) (lo : Int) (n : Nat) : Turn P w K tg (Itr lo n) [it] it (fun i h => IsRangeIter h it (lo + (i : Nat) * 1) ((n : Int) - (i : Nat)) 1) where
  mem := by simp
  obj := fun i h st b hb => by
    have e : b = it := by simpa using hb
    subst e
    exact ⟨_, st, fun v z => by
      have z' : Data.fields _ = Data.cell v := z
      cases z'⟩
  keep := fun i h h' st k => k it (by simp) _ st
  item := by
    intro X hP hw hK hc i pins s σ H E I hf st hg
    subst hP hw hK
    obtain ⟨f0, f1, f2, f3, f4, f5⟩ := hf it (by simp)
    have W := Walks.range (prog := X.prog) (w := X.w) (I.ok.hd hc) it lo 1 n
    refine W.item i s _ _ hg st fun v h' tk hv st' kk => ?_
    obtain ⟨t, rfl⟩ := hv
    have I1 : Inv X pins σ H { s with heap := h', toks := tk } := I.turned (fun b o hb e => kk b o (by simpa using hb) e) f0 f1 f3 f4 f5
    refine ⟨_, rfl, go_of (s := { s with heap := h', toks := tk }) (n := "range_iterator") st' rfl rfl (by decide) ⟨.int (lo + i), H, I1, ⟨t, ?_⟩, ⟨rfl, rfl⟩, st', fun b hb => (hf b hb).1⟩⟩
    rw [Int.mul_one]
  done := by
    intro X hP hw hK hc i pins s σ H E I hf st hg
    subst hP hw hK
    obtain ⟨f0, f1, f2, f3, f4, f5⟩ := hf it (by simp)
    exact wpAny_pyNext_range_end (I.ok.hd hc) st (by have : n ≤ i := hg; omega) fun h' eb => ⟨rfl, I.turned (t' := s.toks) (fun b o hb e => eb b o hb e) f0 f1 f3 f4 f5⟩
  self := fun _ _ _ _ _ st h => wpAny_pyIter_rangeiter st h
end L2

namespace L2
open PySem PySem.Spec PyProof.Rows
section
variable {X : Cx} {tg : Expr}
theorem range_it {pins : List (Addr × Obj)} {σ : St} {H : Hp} {s : Shared} {R : It → Hp → Prop} {E : Value → Shared → Prop} {lo hi : Int} {t u v : Tok} {tk : Nat} (I : Inv X pins σ H s) (h1 : -(2 ^ 62) ≤ lo) (h2 : lo < 2 ^ 62) (h3 : -(2 ^ 62) ≤ hi) (h4 : hi < 2 ^ 62)
    (q : R (Itr lo (hi - lo).toNat) H) : wpAny (model X.prog X.w) X.A (pyIter (.ref s.heap.objs.size)) (PIE X pins σ tg R) E { s with heap := s.heap.push { cls := .type "range", data := .fields #[.int lo t, .int hi u, .int 1 v] }, toks := tk } := by
  refine wpAny_pyIter_range (IsRange.new ..) (small_one h1 h2 h3 h4) ?_
  have I1 : Inv X pins σ H { s with heap := s.heap.push { cls := .type "range", data := .fields #[.int lo t, .int hi u, .int 1 v] }, toks := tk } := I.kept fun b o e => Heap.get?_push_of_some _ e
  refine ⟨(s.heap.push { cls := .type "range", data := .fields #[.int lo t, .int hi u, .int 1 v] }).objs.size, [(s.heap.push { cls := .type "range", data := .fields #[.int lo t, .int hi u, .int 1 v] }).objs.size], _, _, H, rfl,
    I1.kept (t' := tk) fun b o e => Heap.get?_push_of_some _ e, turn_range _ lo (hi - lo).toNat, ?_, fun b hb => ?_, q⟩
  · have e1 : lo + ((0 : Nat) : Int) * 1 = lo := by simp
    have e2 : (((hi - lo).toNat : Nat) : Int) - ((0 : Nat) : Int) = Builtin.Range.rangeSize lo hi 1 := by rw [rangeSize_one]; split <;> omega
    show IsRangeIter _ _ (lo + ((0 : Nat) : Int) * 1) ((((hi - lo).toNat : Nat) : Int) - ((0 : Nat) : Int)) 1
    rw [e1, e2]
    exact Heap.get?_push_size _ rfl
  · have e : b = (s.heap.push { cls := .type "range", data := .fields #[.int lo t, .int hi u, .int 1 v] }).objs.size := by simpa using hb
    subst e
    exact I1.fpOk (Nat.le_refl _) (I1.hok.fresh (Nat.le_refl _))
noncomputable def iRng1 (ta : TA) : TI := fun σ H R => ta σ H fun vs H1 => ∃ j : Int, vs = [.int j] ∧ -(2 ^ 62) ≤ j ∧ j < 2 ^ 62 ∧ R (Itr 0 j.toNat) H1
theorem pi_range1 {a : Expr} {ta : TA} {p pos : Pos} (hg : Gl X "range") (hm : X.mg "range" = none) (ha : PA X [a] ta) (hs : starEach [a] X.env = [(false, eval a X.env)] := by rfl) : PI X tg (.Call (.Name "range" p) [a] [] pos) (iRng1 ta) := by
  intro pins s σ H R I h
  refine Call_ (ld_blt I hg hm boot_range (PyProof.Rows.callWith_type1 (thn (ha pos pins s σ H _ I h) fun us s1 ⟨vs, H1, I1, r1, q1⟩ => ?_) hs rfl))
  obtain ⟨j, e, q1, q2, q⟩ := q1
  subst e
  cases r1 with
  | cons r rr =>
    cases rr
    obtain ⟨t, rfl⟩ := r
    exact call_range_1 (range_it I1 (by omega) (by omega) q1 q2 (by simpa using q))
noncomputable def tFor (wi : TI) (g : TG) (tb : TS) : TS := fun D σ H => wi σ H fun J H1 => ∃ W : Nat → Nat → St → Hp → Prop, (∃ m, W 0 m σ H1) ∧ ∀ i m σ H, W i m σ H →
  (J.stop i H ∧ D.nx σ H) ∨ (J.go i H ∧ ∃ N : St → Hp → Prop, (∀ σ' H', N σ' H' → ∃ m', m' < m ∧ W (i + 1) m' σ' H') ∧ ∀ x H', J.yld i H x H' → g x σ H' fun σ2 H2 => tb { D with nx := N, ct := N, bk := D.nx } σ2 H2)
noncomputable def pinsAt (fp : List Addr) (h : Heap) : List (Addr × Obj) := fp.filterMap fun b => (h.get? b).map fun o => (b, o)
theorem mem_pinsAt {fp : List Addr} {h : Heap} {b : Addr} {o : Obj} (hb : b ∈ fp) (e : h.get? b = some o) : (b, o) ∈ pinsAt fp h := List.mem_filterMap.mpr ⟨b, hb, by rw [e]; rfl⟩
theorem of_pinsAt {fp : List Addr} {h : Heap} {p : Addr × Obj} (hp : p ∈ pinsAt fp h) : p.1 ∈ fp ∧ h.get? p.1 = some p.2 := by
  obtain ⟨b, hb, e⟩ := List.mem_filterMap.mp hp
  cases q : h.get? b with
  | none => rw [q] at e; cases e
  | some o =>
    rw [q] at e
    have e' : (b, o) = p := Option.some.inj e
    subst e'
    exact ⟨hb, q⟩
theorem Inv.pinned {pins : List (Addr × Obj)} {σ : St} {H : Hp} {s : Shared} {fp : List Addr} (I : Inv X pins σ H s) (hf : ∀ b ∈ fp, FpOk X pins H b) (ho : ∀ b ∈ fp, ∃ o, s.heap.get? b = some o ∧ ∀ v, o.data ≠ .cell v) : Inv X (pins ++ pinsAt fp s.heap) σ H s :=
  I.pins_of fun p hp => (List.mem_append.mp hp).elim (fun z => I.pin p (List.mem_append_right _ z)) fun z => by
    obtain ⟨hb, e⟩ := of_pinsAt z
    obtain ⟨f0, f1, f2, _⟩ := hf p.1 hb
    obtain ⟨o, e', d⟩ := ho p.1 hb
    rw [e] at e'; cases e'
    exact ⟨e, f0, f1, f2, d⟩
theorem Inv.unpinned {pins pl : List (Addr × Obj)} {σ : St} {H : Hp} {s : Shared} (I : Inv X (pins ++ pl) σ H s) : Inv X pins σ H s := I.pins_of fun p hp => I.pin p (List.mem_append_right _ (List.mem_append_left _ hp))
theorem ps_for {iter : Expr} {body : List Stmt} {wi : TI} {g : TG} {tb : TS} {pos : Pos} (hp : PassesOwn (model X.prog X.w) X.A X.env X.xe) (hc : X.calm = true) (hi : PI X tg iter wi) (hg : PG X tg g) (hb : PSs X body tb)
    (hs : ∀ x, foldedSetIterable iter X.env x = pure x := by intro _; rfl) : PS X (.For tg iter body [] pos) (tFor wi g tb) := by
  intro pins s σ H D I h
  refine wpAny_For (thn (hi pins s σ H _ I h) fun v s1 h1 => thn h1 fun itv s2 h2 => ?_) hs
  obtain ⟨it, fp, tn, J, H2, e, I2, T, st2, f2, W, ⟨m0, w0⟩, turn⟩ := h2
  subst e
  -- what stays true of the iterator's objects through the loop
  have stat : ∀ {H' : Hp}, (∀ b ∈ fp, H' b = none) → ∀ b ∈ fp, FpOk X pins H' b := fun hn b hb => ⟨hn b hb, (f2 b hb).2⟩
  refine codeAny_forLoop_any (fun n s' => ∃ i σ' H', Inv X pins σ' H' s' ∧ tn i s'.heap ∧ (∀ b ∈ fp, H' b = none) ∧ W i n σ' H') ?_ m0 ⟨0, σ, H2, I2, st2, fun b hb => (f2 b hb).1, w0⟩
  rintro n s3 ⟨i, σ3, H3, I3, st3, fr3, w3⟩
  rcases turn i n σ3 H3 w3 with ⟨stop, qn⟩ | ⟨go, N, hN, step⟩
  · refine wpAny_passesOwn hp (thn (T.done X rfl rfl rfl hc i pins s3 σ3 H3 X.xe I3 (stat fr3) st3 stop) fun r s4 ⟨hr, I4⟩ => ?_)
    subst hr
    exact wpAny_execs_nil ⟨σ3, H3, I4, qn⟩
  · refine wpAny_passesOwn hp (thn (T.item X rfl rfl rfl hc i pins s3 σ3 H3 X.xe I3 (stat fr3) st3 go) fun r s4 ⟨u, hr, h4⟩ => ?_)
    subst hr
    refine wpAny_passesOwn hp (thn h4 fun _ s5 ⟨x, H5, I5, r5, y5, st5, fr5⟩ => ?_)
    have I5' := I5.pinned (stat fr5) (T.obj _ _ st5)
    refine wpAny_passesOwn hp (thn (hg _ s5 σ3 H5 x u _ I5' r5 (step x H5 y5)) fun _ s6 ⟨σ6, H6, I6, q6⟩ => ?_)
    refine wpAny_passesOwn hp (thn (hb _ s6 σ6 H6 _ I6 q6) fun f s7 q7 => ?_)
    have again : ∀ {σ7 : St} {H7 : Hp}, Inv X (pins ++ pinsAt fp s5.heap) σ7 H7 s7 → N σ7 H7 → ∃ m, m < n ∧ ∃ i σ' H', Inv X pins σ' H' s7 ∧ tn i s7.heap ∧ (∀ b ∈ fp, H' b = none) ∧ W i m σ' H' := fun {σ7 H7} I7 n7 => by
      obtain ⟨m', hm, w7⟩ := hN σ7 H7 n7
      refine ⟨m', hm, i + 1, σ7, H7, I7.unpinned, T.keep _ _ _ st5 fun b hb o e => (I7.pin (b, o) (List.mem_append_right _ (List.mem_append_right _ (mem_pinsAt hb e)))).1, fun b hb => ?_, w7⟩
      obtain ⟨o, e, d⟩ := T.obj _ _ st5 b hb
      exact (I7.pin (b, o) (List.mem_append_right _ (List.mem_append_right _ (mem_pinsAt hb e)))).2.1
    cases f with
    | next => obtain ⟨σ7, H7, I7, n7⟩ := q7; exact again I7 n7
    | cont => obtain ⟨σ7, H7, I7, n7⟩ := q7; exact again I7 n7
    | brk => obtain ⟨σ7, H7, I7, q7⟩ := q7; exact ⟨σ7, H7, I7.unpinned, q7⟩
    | ret v => obtain ⟨x7, σ7, H7, I7, r7, q7⟩ := q7; exact ⟨x7, σ7, H7, I7.unpinned, r7, q7⟩
end

theorem for_range {lo : Int} {n : Nat} {g : TG} {tb : TS} {D : Ends} {σ : St} {H : Hp} (Pv : Nat → St → Hp → Prop) (h0 : Pv 0 σ H)
    (hs : ∀ i σ H, i < n → Pv i σ H → g (.int (lo + i)) σ H fun σ2 H2 => tb { D with nx := Pv (i + 1), ct := Pv (i + 1), bk := D.nx } σ2 H2) (hd : ∀ σ H, Pv n σ H → D.nx σ H) :
    ∃ W : Nat → Nat → St → Hp → Prop, (∃ m, W 0 m σ H) ∧ ∀ i m σ H, W i m σ H →
      ((Itr lo n).stop i H ∧ D.nx σ H) ∨ ((Itr lo n).go i H ∧ ∃ N : St → Hp → Prop, (∀ σ' H', N σ' H' → ∃ m', m' < m ∧ W (i + 1) m' σ' H') ∧ ∀ x H', (Itr lo n).yld i H x H' → g x σ H' fun σ2 H2 => tb { D with nx := N, ct := N, bk := D.nx } σ2 H2) := by
  refine ⟨fun i m σ H => m = n - i ∧ i ≤ n ∧ Pv i σ H, ⟨n, by simp, Nat.zero_le _, h0⟩, ?_⟩
  rintro i m σ H ⟨rfl, hi, p⟩
  by_cases hlt : i < n
  · refine .inr ⟨hlt, Pv (i + 1), fun σ' H' p' => ⟨n - (i + 1), by omega, rfl, hlt, p'⟩, fun x H' y => ?_⟩
    obtain ⟨e, y⟩ := y
    subst e y
    exact hs i σ _ hlt p
  · have e : i = n := by omega
    subst e
    exact .inl ⟨Nat.le_refl _, hd σ H p⟩
end L2

namespace L2
open PySem PySem.Spec PyProof.Rows

noncomputable abbrev R2 := V → V → Hp → VK → Prop
noncomputable def OpR (X : Cx) (f : Value → Value → Sem Value) (r : R2) : Prop :=
  ∀ (pins : List (Addr × Obj)) (s : Shared) (σ : St) (H : Hp) (x y : V) (v u : Value) (Q : VK), Inv X pins σ H s → RelV x v → RelV y u → r x y H Q →
    wpAny (model X.prog X.w) X.A (f v u) (EP X pins σ Q) X.xe s
noncomputable def CallR (X : Cx) (f : Value) (r : List V → Hp → VK → Prop) : Prop :=
  ∀ (pins : List (Addr × Obj)) (s : Shared) (σ : St) (H : Hp) (xs : List V) (us : List Value) (Q : VK), Inv X pins σ H s → Vals xs us → r xs H Q →
    wpAny (model X.prog X.w) X.A (call f us) (EP X pins σ Q) X.xe s
noncomputable def tOp (r : R2) (ta tb : TE) : TE := fun σ H Q => ta σ H fun x H1 => tb σ H1 fun y H2 => r x y H2 Q
noncomputable def tUn (r : V → Hp → VK → Prop) (ta : TE) : TE := fun σ H Q => ta σ H fun x H1 => r x H1 Q
noncomputable def rI (C : Int → Int → Prop) (g : Int → Int → V) : R2 := fun x y H Q => ∃ i j, x = .int i ∧ y = .int j ∧ C i j ∧ Q (g i j) H
noncomputable def rI0 (g : Int → Int → V) : R2 := fun x y H Q => ∃ i j, x = .int i ∧ y = .int j ∧ Q (g i j) H
noncomputable def rU (g : Int → V) : V → Hp → VK → Prop := fun x H Q => ∃ i, x = .int i ∧ Q (g i) H

section
variable {X : Cx} {a b c : Expr} {ta tb tc : TE} {pos : Pos}

theorem binT (ha : PE X a ta) (hb : PE X b tb) {pins : List (Addr × Obj)} {s : Shared} {σ : St} {H : Hp} {R : V → V → Hp → Prop} (I : Inv X pins σ H s)
    (h : ta σ H fun x H1 => tb σ H1 fun y H2 => R x y H2) {Q : Value → Shared → Prop} {f : Value → Value → Sem Value}
    (hf : ∀ v u s2 x y H2, Inv X pins σ H2 s2 → RelV x v → RelV y u → R x y H2 → wpAny (model X.prog X.w) X.A (f v u) Q X.xe s2) :
    wpAny (model X.prog X.w) X.A (eval a X.env) (fun v s₁ => wpAny (model X.prog X.w) X.A (eval b X.env) (fun u s₂ => wpAny (model X.prog X.w) X.A (f v u) Q X.xe s₂) X.xe s₁) X.xe s := by
  refine thn (ha pins s σ H _ I h) fun v s1 ⟨x, H1, I1, r1, q1⟩ => ?_
  refine thn (hb pins s1 σ H1 _ I1 q1) fun u s2 ⟨y, H2, I2, r2, q2⟩ => ?_
  exact hf v u s2 x y H2 I2 r1 r2 q2

theorem pe_op {op : Operator} {r : R2} (ho : OpR X (binaryOp op) r) (ha : PE X a ta) (hb : PE X b tb) : PE X (.BinOp a op b pos) (tOp r ta tb) := by
  intro pins s σ H Q I h
  exact wpAny_BinOp (binT ha hb I h fun v u s2 x y H2 I2 rx ry q => ho pins s2 σ H2 x y v u Q I2 rx ry q)
theorem opI {f : Value → Value → Sem Value} {C : Int → Int → Prop} {g : Int → Int → Int}
    (rule : ∀ (i j : Int) (t u : Tok) (s : Shared) (Q : Value → Shared → Prop) (E : Value → Shared → Prop), C i j → Q (.int (g i j) s.toks) { s with toks := s.toks + 1 } → wpAny (model X.prog X.w) X.A (f (.int i t) (.int j u)) Q E s) :
    OpR X f (rI C fun i j => .int (g i j)) := by
  intro pins s σ H x y v u Q I rx ry h
  obtain ⟨i, j, rfl, rfl, hc, q⟩ := h
  obtain ⟨t, rfl⟩ := rx
  obtain ⟨t', rfl⟩ := ry
  exact rule i j t t' s _ _ hc ⟨.int (g i j), H, I.tok _, ⟨_, rfl⟩, q⟩
theorem opI0 {f : Value → Value → Sem Value} {g : Int → Int → Int}
    (rule : ∀ (i j : Int) (t u : Tok) (s : Shared) (Q : Value → Shared → Prop) (E : Value → Shared → Prop), Q (.int (g i j) s.toks) { s with toks := s.toks + 1 } → wpAny (model X.prog X.w) X.A (f (.int i t) (.int j u)) Q E s) :
    OpR X f (rI0 fun i j => .int (g i j)) := by
  intro pins s σ H x y v u Q I rx ry h
  obtain ⟨i, j, rfl, rfl, q⟩ := h
  obtain ⟨t, rfl⟩ := rx
  obtain ⟨t', rfl⟩ := ry
  exact rule i j t t' s _ _ ⟨.int (g i j), H, I.tok _, ⟨_, rfl⟩, q⟩
theorem opB0 {f : Value → Value → Sem Value} {g : Int → Int → Bool}
    (rule : ∀ (i j : Int) (t u : Tok) (s : Shared) (Q : Value → Shared → Prop) (E : Value → Shared → Prop), Q (.bool (g i j)) s → wpAny (model X.prog X.w) X.A (f (.int i t) (.int j u)) Q E s) :
    OpR X f (rI0 fun i j => .bl (g i j)) := by
  intro pins s σ H x y v u Q I rx ry h
  obtain ⟨i, j, rfl, rfl, q⟩ := h
  obtain ⟨t, rfl⟩ := rx
  obtain ⟨t', rfl⟩ := ry
  exact rule i j t t' s _ _ ⟨.bl (g i j), H, I, rfl, q⟩

noncomputable def CDiv (i j : Int) : Prop := 0 < j ∧ j < 1073741824
noncomputable def CPow (i j : Int) : Prop := 0 ≤ j ∧ j ≤ 1000000 ∧ i.natAbs < 2 ^ 64
noncomputable def CMul (i j : Int) : Prop := (-(2 ^ 64) < i ∧ i < 2 ^ 64) ∨ (-(2 ^ 64) < j ∧ j < 2 ^ 64)
theorem op_add : OpR X (binaryOp .Add) (rI0 fun i j => .int (i + j)) := opI0 fun _ _ _ _ _ _ _ q => add_int q
theorem op_sub : OpR X (binaryOp .Sub) (rI0 fun i j => .int (i - j)) := opI0 fun _ _ _ _ _ _ _ q => sub_int q
theorem op_mod : OpR X (binaryOp .Mod) (rI (fun _ j => 0 < j) fun i j => .int (i % j)) := opI fun i j _ _ _ _ _ hc q => by
  have h1 : (0 : Int) < j := hc
  exact mod_int' (by omega) (by rw [Int.fmod_eq_emod_of_nonneg i (by omega)]; exact q)
end

noncomputable def scal : V → V → Bool
  | .non, .non => true | .non, .int _ => true | .int _, .non => true | .non, .bl _ => true | .bl _, .non => true | .non, .str _ => true | .str _, .non => true
  | .int _, .int _ => true | .bl _, .bl _ => true | .str _, .str _ => true | .byt _, .byt _ => true
  | .int _, .str _ => true | .str _, .int _ => true | .bl _, .str _ => true | .str _, .bl _ => true
  | _, _ => false
noncomputable def rEq : R2 := fun x y H Q => scal x y = true ∧ Q (.bl (decide (x = y))) H
noncomputable def rNe : R2 := fun x y H Q => scal x y = true ∧ Q (.bl (!decide (x = y))) H

theorem dec_int {i j : Int} : decide (V.int i = V.int j) = (i == j) := by
  rw [Bool.eq_iff_iff]
  simp
theorem dec_bl {i j : Bool} : decide (V.bl i = V.bl j) = (i == j) := by
  rw [Bool.eq_iff_iff]
  simp
theorem dec_str {i j : Str} : decide (V.str i = V.str j) = (i == j) := by
  rw [Bool.eq_iff_iff]
  simp
theorem dec_byt {i j : Array UInt8} : decide (V.byt i = V.byt j) = (i.toList == j.toList) := by
  rw [Bool.eq_iff_iff]
  cases i
  cases j
  simp

section
variable {X : Cx} {a b c : Expr} {ta tb tc : TE} {pos : Pos}
theorem fin_bl {pins : List (Addr × Obj)} {σ : St} {H : Hp} {s : Shared} {Q : VK} {k k' : Bool} (I : Inv X pins σ H s) (q : Q (.bl k) H) (e : k = k') : EP X pins σ Q (.bool k') s := by
  subst e
  exact ⟨.bl k, H, I, rfl, q⟩
theorem op_eq : OpR X (compareOp .Eq) rEq := by
  intro pins s σ H x y v u Q I rx ry h
  obtain ⟨hs, q⟩ := h
  cases x with
  | non =>
    cases rx
    cases y with
    | non => cases ry; exact PySem.EqNone.eq_none_none (fin_bl I q (by simp))
    | bl j => cases ry; exact PySem.EqNone.eq_none_bool (fin_bl I q (by simp))
    | int j => obtain ⟨t', rfl⟩ := ry; exact PySem.EqNone.eq_none_int (fin_bl I q (by simp))
    | str j => obtain ⟨t', rfl⟩ := ry; exact PySem.EqNone.eq_none_str (fin_bl I q (by simp))
    | _ => exact absurd (show false = true from hs) Bool.false_ne_true
  | bl i =>
    cases rx
    cases y with
    | non => cases ry; exact PySem.EqNone.eq_bool_none (fin_bl I q (by simp))
    | bl j => cases ry; exact eq_bool (fin_bl I q dec_bl)
    | str j => obtain ⟨t', rfl⟩ := ry; exact PySem.EqMixed.eq_bool_str (fin_bl I q (by simp))
    | _ => exact absurd (show false = true from hs) Bool.false_ne_true
  | int i =>
    obtain ⟨t, rfl⟩ := rx
    cases y with
    | non => cases ry; exact PySem.EqNone.eq_int_none (fin_bl I q (by simp))
    | int j => obtain ⟨t', rfl⟩ := ry; exact eq_int (fin_bl I q dec_int)
    | str j => obtain ⟨t', rfl⟩ := ry; exact PySem.EqMixed.eq_int_str (fin_bl I q (by simp))
    | _ => exact absurd (show false = true from hs) Bool.false_ne_true
  | str i =>
    obtain ⟨t, rfl⟩ := rx
    cases y with
    | non => cases ry; exact PySem.EqNone.eq_str_none (fin_bl I q (by simp))
    | bl j => cases ry; exact PySem.EqMixed.eq_str_bool (fin_bl I q (by simp))
    | int j => obtain ⟨t', rfl⟩ := ry; exact PySem.EqMixed.eq_str_int (fin_bl I q (by simp))
    | str j => obtain ⟨t', rfl⟩ := ry; exact eq_str (fin_bl I q dec_str)
    | _ => exact absurd (show false = true from hs) Bool.false_ne_true
  | byt i =>
    obtain ⟨t, rfl⟩ := rx
    cases y with
    | byt j => obtain ⟨t', rfl⟩ := ry; exact PySem.W.eq_bytes (fin_bl I q dec_byt)
    | _ => exact absurd (show false = true from hs) Bool.false_ne_true
  | _ => cases y <;> exact absurd (show false = true from hs) Bool.false_ne_true
theorem op_ne : OpR X (compareOp .NotEq) rNe := by
  intro pins s σ H x y v u Q I rx ry h
  obtain ⟨hs, q⟩ := h
  cases x with
  | non =>
    cases rx
    cases y with
    | non => cases ry; exact PySem.EqNone.ne_none_none (fin_bl I q (by simp))
    | bl j => cases ry; exact PySem.EqNone.ne_none_bool (fin_bl I q (by simp))
    | int j => obtain ⟨t', rfl⟩ := ry; exact PySem.EqNone.ne_none_int (fin_bl I q (by simp))
    | str j => obtain ⟨t', rfl⟩ := ry; exact PySem.EqNone.ne_none_str (fin_bl I q (by simp))
    | _ => exact absurd (show false = true from hs) Bool.false_ne_true
  | bl i =>
    cases rx
    cases y with
    | non => cases ry; exact PySem.EqNone.ne_bool_none (fin_bl I q (by simp))
    | bl j => cases ry; exact ne_bool (fin_bl I q (congrArg not dec_bl))
    | str j => obtain ⟨t', rfl⟩ := ry; exact PySem.EqMixed.ne_bool_str (fin_bl I q (by simp))
    | _ => exact absurd (show false = true from hs) Bool.false_ne_true
  | int i =>
    obtain ⟨t, rfl⟩ := rx
    cases y with
    | non => cases ry; exact PySem.EqNone.ne_int_none (fin_bl I q (by simp))
    | int j => obtain ⟨t', rfl⟩ := ry; exact ne_int (fin_bl I q (congrArg not dec_int))
    | str j => obtain ⟨t', rfl⟩ := ry; exact PySem.EqMixed.ne_int_str (fin_bl I q (by simp))
    | _ => exact absurd (show false = true from hs) Bool.false_ne_true
  | str i =>
    obtain ⟨t, rfl⟩ := rx
    cases y with
    | non => cases ry; exact PySem.EqNone.ne_str_none (fin_bl I q (by simp))
    | bl j => cases ry; exact PySem.EqMixed.ne_str_bool (fin_bl I q (by simp))
    | int j => obtain ⟨t', rfl⟩ := ry; exact PySem.EqMixed.ne_str_int (fin_bl I q (by simp))
    | str j => obtain ⟨t', rfl⟩ := ry; exact ne_str (fin_bl I q (congrArg not dec_str))
    | _ => exact absurd (show false = true from hs) Bool.false_ne_true
  | byt i =>
    obtain ⟨t, rfl⟩ := rx
    cases y with
    | byt j => obtain ⟨t', rfl⟩ := ry; exact PySem.W.ne_bytes (fin_bl I q (congrArg not dec_byt))
    | _ => exact absurd (show false = true from hs) Bool.false_ne_true
  | _ => cases y <;> exact absurd (show false = true from hs) Bool.false_ne_true

theorem op_lt : OpR X (compareOp .Lt) (rI0 fun i j => .bl (decide (i < j))) := opB0 fun _ _ _ _ _ _ _ q => lt_int q
theorem nomark (b : Expr) {op : CmpOp} (h : op ≠ .In := by decide) (h2 : op ≠ .NotIn := by decide) : behindInMarks op b = false := by
  have e1 : (op == CmpOp.In) = false := by cases op <;> first | rfl | exact absurd rfl h
  have e2 : (op == CmpOp.NotIn) = false := by cases op <;> first | rfl | exact absurd rfl h2
  cases b <;> simp [behindInMarks, e1, e2]
theorem pe_cmpR {op : CmpOp} {r : R2} (ho : OpR X (compareOp op) r) (ha : PE X a ta) (hb : PE X b tb) (hm : behindInMarks op b = false) : PE X (.Compare a [op] [b] pos) (tOp r ta tb) := by
  intro pins s σ H Q I h
  exact wpAny_Compare1 (binT ha hb I h fun v u s2 x y H2 I2 rx ry q => ho pins s2 σ H2 x y v u Q I2 rx ry q) hm
noncomputable def tTest (t : TE) : TT := fun σ H Q => t σ H fun x H' => ∃ k, x = .bl k ∧ Q k H'
theorem pt_cmpR {op : CmpOp} {r : R2} (ho : OpR X (compareOp op) r) (ha : PE X a ta) (hb : PE X b tb) (hm : behindInMarks op b = false) : PT X (.Compare a [op] [b] pos) (tTest (tOp r ta tb)) := by
  intro pins s σ H Q I h
  refine wpAny_isTrue_Compare1 (thn (ha pins s σ H _ I h) fun v s1 ⟨x, H1, I1, r1, q1⟩ => thn (hb pins s1 σ H1 _ I1 q1) fun u s2 ⟨y, H2, I2, r2, q2⟩ =>
    thn (ho pins s2 σ H2 x y v u _ I2 r1 r2 q2) fun c s3 ⟨z, H3, I3, r3, k, e, q3⟩ => ?_) hm
  subst e
  cases r3
  exact wpAny_truthy_bool ⟨H3, I3, q3⟩
theorem line63 : (sizeLine : Nat) < 2 ^ 63 := by rw [sizeLine_eq]; decide
theorem op_add_str : OpR X (binaryOp .Add) (fun x y H Q => ∃ i j, x = .str i ∧ y = .str j ∧ i.length + j.length ≤ sizeLine ∧ Q (.str (i ++ j)) H) := by
  intro pins s σ H x y v u Q I rx ry h
  obtain ⟨i, j, rfl, rfl, hz, q⟩ := h
  obtain ⟨t, rfl⟩ := rx
  obtain ⟨t', rfl⟩ := ry
  exact add_str (fun t' tk => ⟨.str (i ++ j), H, I.tok _, ⟨_, rfl⟩, q⟩) hz
theorem vals1 {x : V} {us : List Value} (r : Vals [x] us) : ∃ u, us = [u] ∧ RelV x u := by
  cases r with
  | cons r1 r2 => cases r2; exact ⟨_, rfl, r1⟩
theorem vals2 {x y : V} {us : List Value} (r : Vals [x, y] us) : ∃ u w', us = [u, w'] ∧ RelV x u ∧ RelV y w' := by
  cases r with
  | cons r1 r2 =>
    cases r2 with
    | cons r3 r4 => cases r4; exact ⟨_, _, rfl, r1, r3⟩
end
end L2

namespace L2
open PySem PySem.Spec PyProof.Rows

structure ObjM (h : Heap) (x dx C : Addr) (mA : Str → Option Value) : Prop where
  obj : h.get? x = some (PySem.W.instObj C dx)
  ns : h.Ns1 dx mA
  ne : dx ≠ x

theorem lookIn_ns {h : Heap} {dx : Addr} {mA : Str → Option Value} (n : h.Ns1 dx mA) : ∃ od, h.get? dx = some od ∧ ∀ name, PySem.W.lookIn name od = some (mA name) := by
  obtain ⟨o, es, ep, ho, hd, hk, _, hm⟩ := n
  refine ⟨o, ho, fun name => ?_⟩
  have e := hm name
  unfold nsFind findBy at e
  rw [← Array.find?_toList] at e
  unfold PySem.W.lookIn
  rw [hd]
  dsimp only
  split
  · rename_i y q
    rw [q] at e
    exact congrArg some e
  · rename_i q
    rw [q] at e
    have a : es.toList.any (·.refKey) = false := by
      rw [List.any_eq_false]
      intro y hy
      obtain ⟨z, t, hkey⟩ := hk y (Array.mem_toList_iff.mp hy)
      simp [DictEntry.refKey, hkey]
    have a' : ¬ es.toList.any (·.refKey) = true := by rw [a]; exact Bool.false_ne_true
    rw [if_neg a']
    exact congrArg some e

theorem ObjM.look {h : Heap} {x dx C : Addr} {mA : Str → Option Value} (I : ObjM h x dx C mA) : ∃ od, PySem.W.InstAt h x (PySem.W.instObj C dx) C (some od) ∧ ∀ name, PySem.W.lookIn name od = some (mA name) :=
  let ⟨od, ho, hl⟩ := lookIn_ns I.ns
  ⟨od, ⟨I.obj, rfl, rfl, ho⟩, hl⟩

section
variable {prog : Program} {w : World} {A : Around} {E : Value → Shared → Prop} {s : Shared} {K : PySem.W.Frag} {x dx C f : Addr} {mA : Str → Option Value} {name : Str} {v : Value}

end

noncomputable def putF (f : Str) (v : V) : List (Str × V) → List (Str × V)
  | [] => [(f, v)]
  | (g, x) :: r => if g = f then (g, v) :: r else (g, x) :: putF f v r
theorem lookup_putF (f g : Str) (v : V) : ∀ fs : List (Str × V), (putF f v fs).lookup g = if g = f then some v else fs.lookup g
  | [] => by
    show List.lookup g [(f, v)] = _
    by_cases h : g = f
    · have hb : (g == f) = true := beq_iff_eq.mpr h
      simp only [List.lookup, hb, if_pos h]
    · have hb : (g == f) = false := beq_eq_false_iff_ne.mpr h
      simp only [List.lookup, hb, if_neg h]
  | (k, x) :: r => by
    have ih := lookup_putF f g v r
    rw [show putF f v ((k, x) :: r) = (if k = f then (k, v) :: r else (k, x) :: putF f v r) from rfl]
    by_cases hk : k = f
    · rw [if_pos hk]
      by_cases h : g = k
      · have hb : (g == k) = true := beq_iff_eq.mpr h
        simp only [List.lookup, hb, if_pos (h.trans hk)]
      · have hb : (g == k) = false := beq_eq_false_iff_ne.mpr h
        simp only [List.lookup, hb, if_neg (fun e : g = f => h (e.trans hk.symm))]
    · rw [if_neg hk]
      by_cases h : g = k
      · have hb : (g == k) = true := beq_iff_eq.mpr h
        simp only [List.lookup, hb, if_neg (fun e : g = f => hk (h.symm.trans e))]
      · have hb : (g == k) = false := beq_eq_false_iff_ne.mpr h
        simp only [List.lookup, hb]
        exact ih
theorem keys_putF (f : Str) (v : V) : ∀ fs : List (Str × V), f ∈ (putF f v fs).map (·.1) ∧ ∀ g, g ∈ fs.map (·.1) → g ∈ (putF f v fs).map (·.1)
  | [] => ⟨by simp [putF], fun g h => by simp at h⟩
  | (k, x) :: r => by
    obtain ⟨i1, i2⟩ := keys_putF f v r
    rw [show putF f v ((k, x) :: r) = (if k = f then (k, v) :: r else (k, x) :: putF f v r) from rfl]
    by_cases hk : k = f
    · rw [if_pos hk]
      subst hk
      exact ⟨by simp, fun g h => by simpa using h⟩
    · rw [if_neg hk]
      refine ⟨?_, fun g h => ?_⟩
      · rw [List.map_cons]
        exact List.mem_cons_of_mem _ i1
      · rw [List.map_cons] at h ⊢
        rcases List.mem_cons.mp h with e | e
        · exact List.mem_cons.mpr (.inl e)
        · exact List.mem_cons_of_mem _ (i2 g e)
theorem length_putF (f : Str) (v : V) : ∀ fs : List (Str × V), (putF f v fs).length ≤ fs.length + 1
  | [] => by simp [putF]
  | (k, x) :: r => by
    have ih := length_putF f v r
    rw [show putF f v ((k, x) :: r) = (if k = f then (k, v) :: r else (k, x) :: putF f v r) from rfl]
    by_cases hk : k = f
    · rw [if_pos hk, List.length_cons, List.length_cons]; omega
    · rw [if_neg hk, List.length_cons, List.length_cons]; omega

theorem RelO.some_of {v : V} {o : Option Value} (r : RelO (some v) o) : ∃ u, o = some u ∧ RelV v u := by
  cases o with
  | none => exact (show False from r).elim
  | some u => exact ⟨u, rfl, r⟩
theorem RelO.none_of {o : Option Value} (r : RelO none o) : o = none := by
  cases o with
  | none => rfl
  | some u => exact (show False from r).elim
theorem handed_of {v : V} {u : Value} (r : RelV v u) : PySem.W.handedIn u = true := by
  cases v with
  | non => cases (show u = Value.none from r); rfl
  | bl b => cases (show u = Value.bool b from r); rfl
  | int i => obtain ⟨t, e⟩ := (show ∃ t, u = Value.int i t from r); cases e; rfl
  | str x => obtain ⟨t, e⟩ := (show ∃ t, u = Value.str x t from r); cases e; rfl
  | byt b => obtain ⟨t, e⟩ := (show ∃ t, u = Value.bytes b t from r); cases e; rfl
  | flt b => obtain ⟨t, e⟩ := (show ∃ t, u = Value.float b t from r); cases e; rfl
  | ref a => cases (show u = Value.ref a from r); rfl
  | ty n => cases (show u = Value.type n from r); rfl

section
variable {P : Program} {w : World} {H H' : Hp} {h h' : Heap} {a C dx : Addr} {fs fs' : List (Str × V)}
theorem ins_get (hok : HOk P w H h) (e : H a = some (.ins C dx fs)) : ∃ mA, ObjM h a dx C mA ∧ (∀ f, RelO (fs.lookup f) (mA f)) ∧ PySem.Within mA (fs.map (·.1)) ∧ fs.length ≤ 1000 ∧ H dx = some (.own a) := by
  obtain ⟨d, z, ne, ob, mA, n, r, q⟩ := (show ObjOk P w H h a (.ins C dx fs) from hok a _ e)
  exact ⟨mA, ⟨ob, n, ne⟩, r, q, z, d⟩
end

structure Cls (K : PySem.W.Frag) (C : Addr) : Prop where
  pg : PySem.W.plainGet K C Str.empty = true
  hd : PySem.W.hasDictIn K C = true
  po : PySem.W.plainOver K C = true
  sa : PySem.W.findIn K (.ref C) "__setattr__" = some (some (.builtin "object.__setattr__"))
theorem Cls.get {K : PySem.W.Frag} {C : Addr} (c : Cls K C) (f : Str) : PySem.W.plainGet K C f = true := c.pg
structure Con (K : PySem.W.Frag) (C : Addr) (f : Str) (v : V) (u : Value) : Prop where
  at_ : PySem.W.findIn K (.ref C) f = some (some u)
  rel : RelV v u
  get : PySem.W.specialIn K u "__get__" = some none
  cp : PySem.W.copiedNames.contains f = false
structure Meth (K : PySem.W.Frag) (C : Addr) (m : Str) (f : Addr) : Prop where
  at_ : PySem.W.findIn K (.ref C) m = some (some (.ref f))
  fn : PySem.W.isFn K (.ref f) = true
  kp : PySem.W.keepIn K (.ref f) = true

section
variable {X : Cx} {pins : List (Addr × Obj)} {σ : St} {H : Hp} {s : Shared} {a C dx : Addr} {fs : List (Str × V)} {f : Str} {v : V} {A : Around} {E : Value → Shared → Prop}

theorem attr_of {prog : Program} {w : World} {env : Env} {e : Expr} {f : Str} {pos : Pos} {s : Shared} {Q : Value → Shared → Prop} (hb : attributeBase e f env (eval e env) = eval e env)
    (h : wpAny (model prog w) A (eval e env) (fun o s₁ => wpAny (model prog w) A (getAttr o f true) Q E s₁) E s) : wpAny (model prog w) A (eval (.Attribute e f pos) env) Q E s :=
  Attribute_any_ h (by rw [arm_eval_Attribute, hb])
end

section
variable {X : Cx} {o e value : Expr} {f : Str} {pos pos' tpos : Pos} {ta tv : TE}
end

section
variable {X : Cx} {pins : List (Addr × Obj)} {σ : St} {H : Hp} {s : Shared} {A : Around} {E : Value → Shared → Prop} {Q : Value → Shared → Prop} {c : Value} {b : Bool}
inductive TyOf (K : PySem.W.Frag) (H : Hp) : V → Value → Prop where
  | non : TyOf K H .non (.type "NoneType")
  | bl (x : Bool) : TyOf K H (.bl x) (.type "bool")
  | int (i : Int) : TyOf K H (.int i) (.type "int")
  | str (x : Str) : TyOf K H (.str x) (.type "str")
  | flt (x : UInt64) : TyOf K H (.flt x) (.type "float")
  | lst {a : Addr} {xs : List V} (e : H a = some (.lst xs)) : TyOf K H (.ref a) (.type "list")
  | frz {a : Addr} {o : Obj} {xs : List V} (e : H a = some (.frz o (.lst xs))) : TyOf K H (.ref a) (.type "list")
  | tup {a : Addr} {xs : List V} (e : H a = some (.tup xs)) : TyOf K H (.ref a) (.type "tuple")
  | dK {a : Addr} {kvs : List (Key × V)} (e : H a = some (.dK kvs)) : TyOf K H (.ref a) (.type "dict")
  | dT {a : Addr} {kvs : List (List Key × V)} (e : H a = some (.dT kvs)) : TyOf K H (.ref a) (.type "dict")
  | ins {a C dx : Addr} {fs : List (Str × V)} (e : H a = some (.ins C dx fs)) (cl : Cls K C) (ha : PySem.W.findIn K (.ref C) "__class__" = some (some (.builtin "object.__class__")))
      (hn : PySem.W.specialIn K (.builtin "object.__class__") "__get__" = some (some (.builtin "getset_descriptor.__get__"))) (htk : PySem.W.takesIn K (.builtin "object.__class__") = some true)
      (hm : PySem.W.mroIn K C (.type "object") = some true) : TyOf K H (.ref a) (.ref C)
theorem isinst_ok {x : V} {u t : Value} (I : Inv X pins σ H s) (rx : RelV x u) (ty : TyOf X.K H x t) (e : PySem.W.kitOne X.K t c = some b) (h : ∀ tk, Q (.bool b) { s with toks := tk }) :
    wpAny (model X.prog X.w) A (call (.builtin "isinstance") [u, c]) Q E s := by
  cases ty with
  | non => cases (show u = Value.none from rx); exact PySem.W.kia_one PySem.W.kitx_none I.kIn True.intro e (fun z => nomatch z) h
  | bl y => cases (show u = Value.bool y from rx); exact PySem.W.kia_one PySem.W.kitx_bool I.kIn True.intro e (fun z => nomatch z) h
  | int i => obtain ⟨t, q⟩ := (show ∃ t, u = Value.int i t from rx); cases q; exact PySem.W.kia_one PySem.W.kitx_int I.kIn True.intro e (fun z => nomatch z) h
  | str y => obtain ⟨t, q⟩ := (show ∃ t, u = Value.str y t from rx); cases q; exact PySem.W.kia_one PySem.W.kitx_str I.kIn True.intro e (fun z => nomatch z) h
  | flt y => obtain ⟨t, q⟩ := (show ∃ t, u = Value.float y t from rx); cases q; exact PySem.W.kia_one PySem.W.kitx_float I.kIn True.intro e (fun z => nomatch z) h
  | @lst a xs ea =>
    cases (show u = Value.ref a from rx)
    obtain ⟨_, _, n, _, h1⟩ := (show ObjOk X.prog X.w H s.heap a (.lst xs) from I.hok a _ ea)
    exact PySem.W.kia_one PySem.W.kitx_list I.kIn ⟨_, h1, rfl⟩ e (fun z => nomatch z) h
  | @frz a ob xs ea =>
    cases (show u = Value.ref a from rx)
    obtain ⟨_, _, _, n, _, h1⟩ := (show ObjOk X.prog X.w H s.heap a (.frz ob (.lst xs)) from I.hok a _ ea)
    exact PySem.W.kia_one PySem.W.kitx_list I.kIn ⟨_, h1, rfl⟩ e (fun z => nomatch z) h
  | @tup a xs ea =>
    cases (show u = Value.ref a from rx)
    obtain ⟨_, _, _, p⟩ := (show ObjOk X.prog X.w H s.heap a (.tup xs) from I.hok a _ ea)
    obtain ⟨o, h1, h2, _⟩ := p
    exact PySem.W.kia_one PySem.W.kitx_tuple I.kIn ⟨o, h1, h2⟩ e (fun z => nomatch z) h
  | @dK a kvs ea =>
    cases (show u = Value.ref a from rx)
    obtain ⟨_, _, vs, _, p⟩ := (show ObjOk X.prog X.w H s.heap a (.dK kvs) from I.hok a _ ea)
    obtain ⟨o, es, ep, h1, h2, _⟩ := p
    exact PySem.W.kia_one PySem.W.kitx_dict I.kIn ⟨o, h1, h2.1⟩ e (fun z => nomatch z) h
  | @dT a kvs ea =>
    cases (show u = Value.ref a from rx)
    obtain ⟨_, _, xs, _, o, es, ep, h1, h2, _⟩ := (show ObjOk X.prog X.w H s.heap a (.dT kvs) from I.hok a _ ea)
    exact PySem.W.kia_one PySem.W.kitx_dict I.kIn ⟨o, h1, h2.1⟩ e (fun z => nomatch z) h
  | @ins a C dx fs ea cl ha hn htk hm =>
    cases (show u = Value.ref a from rx)
    obtain ⟨mA, O, _⟩ := ins_get I.hok ea
    obtain ⟨od, J, _⟩ := O.look
    exact PySem.W.kia_one (PySem.W.kitx_own (cl.get _) cl.hd ha hn htk hm) I.kIn J e (fun z => nomatch z) h
end
end L2

namespace L2
open PySem PySem.Spec PyProof.Rows

structure Room (k : Nat) (A : Around) : Prop where
  hd : A.handled = none
  dp : A.depth + 3 * k + 5 < recursionLimit
  un : A.units + 16 * k + 200 < cLine
theorem Room.mono {j k : Nat} {A : Around} (r : Room k A) (h : j ≤ k) : Room j A := ⟨r.hd, by have := r.dp; omega, by have := r.un; omega⟩
theorem Room.deeper {k : Nat} {A : Around} (r : Room (k + 1) A) (env : Env) : Room k (A.deeper env) :=
  ⟨r.hd, by have := r.dp; show A.depth + 1 + 3 * k + 5 < _; omega, by have := r.un; show A.units + 3 + 16 * k + 200 < _; omega⟩
theorem make_depth {A : Around} {C : Addr} {us : List Value} {kw : List (Str × Value)} : (A.under (.builtin "type.__call__" ⟨.ref C :: us, kw⟩)).depth = A.depth + 1 := by
  first | rfl | simp [Around.under, Code.weight, Code.isCreation, Code.isGuard, Code.isCaller, Code.frames, Code.isFrame, guardIds]
theorem make_units {A : Around} {C : Addr} {us : List Value} {kw : List (Str × Value)} : (A.under (.builtin "type.__call__" ⟨.ref C :: us, kw⟩)).units = A.units + 1 := by
  first | rfl | simp [Around.under, Code.cUnits, Code.frames, Code.isFrame]
theorem Room.make {k : Nat} {A : Around} (r : Room (k + 1) A) (C : Addr) (us : List Value) (kw : List (Str × Value)) : Room k (A.under (.builtin "type.__call__" ⟨.ref C :: us, kw⟩)) :=
  ⟨r.hd, by have := r.dp; rw [make_depth]; omega, by have := r.un; rw [make_units]; omega⟩
theorem Room.depth {k : Nat} {A : Around} (r : Room k A) : A.depth < recursionLimit := by have := r.dp; omega
noncomputable def tNil : TA := fun _ H Q => Q [] H
noncomputable def tCons (ta : TE) (tr : TA) : TA := fun σ H Q => ta σ H fun x H1 => tr σ H1 fun xs H2 => Q (x :: xs) H2
section
variable {X : Cx} {e : Expr} {es : List Expr} {te : TE} {t : TA} {pos : Pos}
theorem pa_nil : PA X [] tNil := fun _ _ _ _ H Q I h => Calls.spliced_nil ⟨[], H, I, .nil, h⟩
theorem pa_cons (ha : PE X e te) (hr : PA X es t) (hs : starEach (e :: es) X.env = (false, eval e X.env) :: starEach es X.env := by rfl) : PA X (e :: es) (tCons te t) := by
  intro pos pins s σ H Q I h
  rw [hs]
  show wpAny _ _ (spliced ((false, eval e X.env) :: backTo pos (starEach es X.env))) _ _ s
  refine Calls.spliced_cons (thn (ha pins s σ H _ I h) fun u s1 ⟨x, H1, I1, r1, q1⟩ => ?_)
  exact thn (hr pos pins s1 σ H1 _ I1 q1) fun us s2 ⟨xs, H2, I2, r2, q2⟩ => ⟨x :: xs, H2, I2, .cons r1 r2, q2⟩

noncomputable def tLst (t : TA) : TE := fun σ H Q => t σ H fun xs H1 => xs.length ≤ sizeLine ∧ ∀ p, H1 p = none → Q (.ref p) (upd H1 p (.lst xs))
theorem pe_lst (h : PA X es t) : PE X (.List es pos) (tLst t) := by
  intro pins s σ H Q I hq
  refine wpAny_List_spliced (thn (h pos pins s σ H _ I hq) fun us s1 ⟨xs, H1, I1, r, z, q⟩ => ⟨by rw [← r.length]; exact z, ?_⟩)
  have hf : H1 s1.heap.objs.size = none := I1.hok.fresh (Nat.le_refl _)
  refine ⟨.ref s1.heap.objs.size, upd H1 s1.heap.objs.size (.lst xs), I1.laid (t' := s1.toks) (fun b u e => Heap.get?_push_of_some _ e) (Nat.le_refl _) ?_, rfl, q _ hf⟩
  exact ⟨z, us, 0, r, Heap.get?_push_size _ rfl⟩
end

noncomputable abbrev Sp := List V → Hp → VK → XK → Prop
noncomputable abbrev CXT := List Env → Hp → Shared → XK → Value → Shared → Prop

structure Env0 (P : Program) (w : World) (K : PySem.W.Frag) (mg : Str → Option Value) (base : Heap) (A : Around) (outer : List Env) (s : Shared) (H : Hp) : Prop where
  frames : A.frames = some outer
  mod : Mod K mg base
  bs : ∀ b o, base.get? b = some o → s.heap.get? b = some o ∧ H b = none
  bsz : base.objs.size ≤ s.heap.objs.size
  funs : s.heap.FunFrames base outer
  frf : ∀ b ∈ frs outer, H b = none
  hok : HOk P w H s.heap
  bare : AllBare s.gens
noncomputable def CE (outer : List Env) (P : Program) (w : World) (H : Hp) (s : Shared) (Q : VK) (u : Value) (s' : Shared) : Prop :=
  ∃ v H', s'.os = s.os ∧ AllBare s'.gens ∧ Un (frs outer) [] H H' s.heap s'.heap ∧ HOk P w H' s'.heap ∧ RelV v u ∧ Q v H'
noncomputable def CR (CX : CXT) (outer : List Env) (P : Program) (w : World) (H : Hp) (s : Shared) (Q : VK) (E : XK) (r : Result) (s' : Shared) : Prop :=
  match r with
  | .ok (.ret u) => CE outer P w H s Q u s'
  | .ok _ => False
  | .error e => CX outer H s E e s'
structure FnOk (P : Program) (w : World) (K : PySem.W.Frag) (mg : Str → Option Value) (base : Heap) (CX : CXT) (k : Nat) (f : Addr) (fd : FuncData) (ps : List Str) (sp : Sp) : Prop where
  len : ∀ vs H Q E, sp vs H Q E → vs.length = ps.length
  run : ∀ (A : Around) (outer : List Env) (s : Shared) (H : Hp) (args : Args) (us : List Value) (vs : List V) (Q : VK) (E : XK), Room k A → Env0 P w K mg base A outer s H → BindsTo s fd args (ps.zip us) → Vals vs us → sp vs H Q E →
    codeAny (model P w) A (.call (.ref f) args) (CR CX outer P w H s Q E) s
theorem FnOk.mono {P : Program} {w : World} {K : PySem.W.Frag} {mg : Str → Option Value} {base : Heap} {CX : CXT} {j k : Nat} {f : Addr} {fd : FuncData} {ps : List Str} {sp : Sp} (F : FnOk P w K mg base CX j f fd ps sp) (h : j ≤ k) :
    FnOk P w K mg base CX k f fd ps sp := ⟨F.len, fun A outer s H args us vs Q E hr => F.run A outer s H args us vs Q E (hr.mono h)⟩
theorem Env0.make {P : Program} {w : World} {K : PySem.W.Frag} {mg : Str → Option Value} {base : Heap} {A : Around} {outer : List Env} {s : Shared} {H : Hp} (e : Env0 P w K mg base A outer s H) (C : Addr) (us : List Value) (kw : List (Str × Value)) :
    Env0 P w K mg base (A.under (.builtin "type.__call__" ⟨.ref C :: us, kw⟩)) outer s H := ⟨by first | exact e.frames | (simpa [Around.under, Code.envs, Code.isFrame, pushEnvs] using e.frames), e.mod, e.bs, e.bsz, e.funs, e.frf, e.hok, e.bare⟩
section
variable {X : Cx} {pins : List (Addr × Obj)} {σ : St} {H : Hp} {s s' : Shared}
theorem Inv.env0 (I : Inv X pins σ H s) : Env0 X.prog X.w X.K X.mg X.base X.A X.stack s H :=
  ⟨I.ok.frames, I.ok.mod, I.bs, Nat.le_trans I.ok.bsz I.sz, I.stack, I.stkFree, I.hok, I.bare⟩
theorem Inv.after {Q : VK} {u : Value} (I : Inv X pins σ H s) (h : CE X.stack X.prog X.w H s Q u s') : EP X pins σ Q u s' := by
  obtain ⟨v, H', os, bare, un, hok, r, q⟩ := h
  obtain ⟨hh, g, d, t, os'⟩ := s'
  obtain rfl : os' = s.os := os
  exact ⟨v, H', I.call (h' := hh) (g' := g) (d' := d) (t' := t) (ch := []) un hok bare (fun b z => absurd z (by simp)), r, q⟩
end

noncomputable def tCall (sp : Sp) (dvs : List V) (E : XK) (t : TA) : TE := fun σ H Q => t σ H fun vs H1 => sp (vs ++ dvs) H1 Q E
noncomputable def Binds (K : PySem.W.Frag) (fd : FuncData) (ps : List Str) (ds : List Value) : Prop :=
  ∀ (s : Shared) (us : List Value), K.In s.heap → (us ++ ds).length = ps.length → BindsTo s fd ⟨us, []⟩ (ps.zip (us ++ ds))
theorem Binds.all {K : PySem.W.Frag} {fd : FuncData} {ps : List Str} (h : ∀ us : List Value, us.length = ps.length → bindArgs fd ⟨us, []⟩ = pure (ps.zip us)) : Binds K fd ps [] := fun s us _ hl => by
  rw [List.append_nil] at hl ⊢
  exact .of_eq (h us hl)

noncomputable def Passes (CX : CXT) (X : Cx) (E : XK) : Prop := ∀ (pins : List (Addr × Obj)) (σ : St) (H : Hp) (s : Shared) (e : Value) (s' : Shared), Inv X pins σ H s → CX X.stack H s E e s' → X.xe e s'

section
variable {X : Cx} {CX : CXT} {k : Nat} {f C : Addr} {fd : FuncData} {ps : List Str} {sp : Sp} {dvs : List V} {ds : List Value} {E : XK} {x m : Str} {p pos apos : Pos} {e o : Expr} {es : List Expr} {ta : TE} {t : TA}

theorem run_fn {pins : List (Addr × Obj)} {σ : St} {H : Hp} {s : Shared} {Q : VK} {us : List Value} {vs : List V} (F : FnOk X.prog X.w X.K X.mg X.base CX k f fd ps sp) (hr : Room k X.A) (hb : Binds X.K fd ps ds) (hd : Vals dvs ds) (hx : Passes CX X E)
    (I : Inv X pins σ H s) (r : Vals vs us) (h : sp (vs ++ dvs) H Q E) : wpAny (model X.prog X.w) X.A (call (.ref f) us) (EP X pins σ Q) X.xe s := by
  have r2 : Vals (vs ++ dvs) (us ++ ds) := r.append hd
  have hl : (us ++ ds).length = ps.length := by rw [← r2.length]; exact F.len _ _ _ _ h
  refine wpAny_call (codeAny_mono (F.run X.A X.stack s H ⟨us, []⟩ (us ++ ds) (vs ++ dvs) Q E hr I.env0 (hb s us I.kIn hl) r2 h) fun r s' hq => ?_)
  cases r with
  | error e => exact hx pins σ H s e s' I hq
  | ok fl =>
    cases fl with
    | ret u => exact I.after hq
    | next => exact False.elim hq
    | brk => exact False.elim hq
    | cont => exact False.elim hq

theorem pe_call (F : FnOk X.prog X.w X.K X.mg X.base CX k f fd ps sp) (hr : Room k X.A) (hg : Gl X x) (hm : X.mg x = some (.ref f)) (hk : PySem.W.keepIn X.K (.ref f) = true) (hb : Binds X.K fd ps ds) (hd : Vals dvs ds) (hx : Passes CX X E)
    (ha : PA X (e :: es) t) (hdb : (x == ("__debug__" : Str)) = false := by decide) (he : starEach (e :: es) X.env = (false, eval e X.env) :: starEach es X.env := by rfl) (hpl : (backTo pos (starEach es X.env)).any (·.1) = false := by rfl) :
    PE X (.Call (.Name x p) (e :: es) [] pos) (tCall sp dvs E t) := by
  intro pins s σ H Q I h
  refine wpAny_Call_Name_kw (ld_glob I hg hm ?_ hdb)
  refine PySem.W.callWith_K (h₀ := X.base) I.ok.mod.kin hk (thn (ha pos pins s σ H _ I h) fun us s1 ⟨vs, H1, I1, r, q⟩ => ⟨I1.kIn, ?_⟩) he hpl
  exact run_fn F hr hb hd hx I1 r q
structure Mk (K : PySem.W.Frag) (C f : Addr) : Prop where
  makes : PySem.W.makesIn K C = true
  init : PySem.W.findIn K (.ref C) "__init__" = some (some (.ref f))
  fn : PySem.W.isFn K (.ref f) = true
  kp : PySem.W.keepIn K (.ref C) = true

end

section
variable {X : Cx} {CX : CXT} {k : Nat} {f C : Addr} {fd : FuncData} {ps ks : List Str} {sp : Sp} {E : XK} {x m : Str} {p pos apos kpos : Pos} {e o : Expr} {es : List Expr} {kws : List Keyword} {te ta : TE} {t tk : TA} {nm : Option Str}
structure KBinds (K : PySem.W.Frag) (fd : FuncData) (ps ks : List Str) (g : List Value → List Value → List Value) (gV : List V → List V → List V) : Prop where
  to : ∀ (s : Shared) (us ws : List Value), K.In s.heap → (g us ws).length = ps.length → BindsTo s fd ⟨us, ks.zip ws⟩ (ps.zip (g us ws))
  rel : ∀ {vs : List V} {us : List Value} {zs : List V} {ws : List Value}, Vals vs us → Vals zs ws → Vals (gV vs zs) (g us ws)
variable {g : List Value → List Value → List Value} {gV : List V → List V → List V}
end

structure FnScope (N P : List Str) (sc : Scope) : Prop where
  kind : sc.kind = .function
  co : sc.isCoroutine = false
  gen : sc.isGenerator = false
  nd : N.Nodup
  pre : N.take P.length = P
  par : ∀ x ∈ P, sc.names.lookup x = some .local ∨ sc.names.lookup x = some .cell
  nofree : ∀ y ∈ sc.names, y.2 ≠ .free

theorem bindL_out {kindOf : Str → Option NameKind} {x : Str} : ∀ {binds : List (Str × Value)} {m : Str → Option Value}, (∀ v, (x, v) ∉ binds) → bindL kindOf binds m x = m x
  | [], _, _ => rfl
  | (n, v) :: r, m, h => by
    unfold bindL
    rw [bindL_out fun w hw => h w (List.mem_cons_of_mem _ hw)]
    split
    · have : x ≠ n := by rintro rfl; exact h v List.mem_cons_self
      simp [this]
    · rfl
theorem bindC_out {kindOf : Str → Option NameKind} {x : Str} : ∀ {binds : List (Str × Value)} {m : Str → Option Value}, (∀ v, (x, v) ∉ binds) → bindC kindOf binds m x = m x
  | [], _, _ => rfl
  | (n, v) :: r, m, h => by
    unfold bindC
    rw [bindC_out fun w hw => h w (List.mem_cons_of_mem _ hw)]
    split
    · rfl
    · have : x ≠ n := by rintro rfl; exact h v List.mem_cons_self
      simp [this]
theorem bindL_get {kindOf : Str → Option NameKind} {x : Str} {v : Value} : ∀ {P : List Str} {vs : List Value} {i : Nat} {m : Str → Option Value}, P.Nodup → P[i]? = some x → vs[i]? = some v → kindOf x = some .local →
    bindL kindOf (P.zip vs) m x = some v
  | [], _, _, _, _, h, _, _ => by simp at h
  | _ :: _, [], _, _, _, _, h, _ => by simp at h
  | p :: P, w :: vs, 0, m, nd, h1, h2, hk => by
    simp at h1 h2; subst h1; subst h2
    show bindL kindOf ((p, w) :: P.zip vs) m p = _
    unfold bindL
    rw [bindL_out fun v hv => (List.nodup_cons.mp nd).1 (List.of_mem_zip hv).1, if_pos hk]
    simp
  | p :: P, w :: vs, i + 1, m, nd, h1, h2, hk => by
    show bindL kindOf ((p, w) :: P.zip vs) m x = _
    unfold bindL
    exact bindL_get (i := i) (List.nodup_cons.mp nd).2 (by simpa using h1) (by simpa using h2) hk
theorem bindC_get {kindOf : Str → Option NameKind} {x : Str} {v : Value} : ∀ {P : List Str} {vs : List Value} {i : Nat} {m : Str → Option Value}, P.Nodup → P[i]? = some x → vs[i]? = some v → kindOf x ≠ some .local →
    bindC kindOf (P.zip vs) m x = some v
  | [], _, _, _, _, h, _, _ => by simp at h
  | _ :: _, [], _, _, _, _, h, _ => by simp at h
  | p :: P, w :: vs, 0, m, nd, h1, h2, hk => by
    simp at h1 h2; subst h1; subst h2
    show bindC kindOf ((p, w) :: P.zip vs) m p = _
    unfold bindC
    rw [bindC_out fun v hv => (List.nodup_cons.mp nd).1 (List.of_mem_zip hv).1, if_neg hk]
    simp
  | p :: P, w :: vs, i + 1, m, nd, h1, h2, hk => by
    show bindC kindOf ((p, w) :: P.zip vs) m x = _
    unfold bindC
    exact bindC_get (i := i) (List.nodup_cons.mp nd).2 (by simpa using h1) (by simpa using h2) hk

noncomputable def start (N : List Str) (vs : List V) : St := vs.map some ++ List.replicate (N.length - vs.length) none

noncomputable def cxOf (CX : CXT) (P : Program) (w : World) (K : PySem.W.Frag) (mg : Str → Option Value) (base : Heap) (N : List Str) (qual : Str) (scope : Scope) (f : Addr) (cd : Value) (A : Around) (outer : List Env) (s : Shared) (H : Hp) (E : XK) : Cx where
  prog := P
  w := w
  K := K
  mg := mg
  base := base
  A := A.deeper (envOfC qual scope s.heap.objs.size f cd)
  N := N
  s₀ := s
  H₀ := H
  env := envOfC qual scope s.heap.objs.size f cd
  outer := outer
  stack := envOfC qual scope s.heap.objs.size f cd :: outer
  ex := []
  calm := true
  fn := fun _ => true
  pn := []
  xe := fun e s' => wpAny (model P w) (A.deeper (envOfC qual scope s.heap.objs.size f cd)) (leaving (envOfC qual scope s.heap.objs.size f cd) e) (fun _ s'' => CX outer H s E e s'') (fun e' s'' => CX outer H s E e' s'') s'

theorem cell_has {sc : Scope} {n : Nat} {x : Str} (h : sc.names.lookup x = some .cell) : ∃ c, (cellsFrom n sc.names []).lookup x = some c := by
  have q := PySem.W.cellsFrom_some sc.names n [] (.inl h)
  exact Option.isSome_iff_exists.mp q

theorem inv_start {CX : CXT} {P : Program} {w : World} {K : PySem.W.Frag} {mg : Str → Option Value} {base : Heap} {N ps : List Str} {qual : Str} {scope : Scope} {f : Addr} {cd : Value} {A : Around} {outer : List Env} {s s1 : Shared} {H : Hp} {E : XK} {us : List Value} {vs : List V}
    (S : FnScope N ps scope) (hd : A.handled = none) (e0 : Env0 P w K mg base A outer s H) (hl : vs.length = ps.length) (r : Vals vs us)
    (x : InCallC s s.heap.objs.size (bindL (envOfC qual scope s.heap.objs.size f cd).kindOf (ps.zip us) fun _ => none) (cellsFrom (s.heap.objs.size + 1) scope.names []) (bindC (envOfC qual scope s.heap.objs.size f cd).kindOf (ps.zip us) fun _ => none) s1) :
    Inv (cxOf CX P w K mg base N qual scope f cd A outer s H E) [] (start N vs) H s1 := by
  have hpl : ps.length ≤ N.length := by have := congrArg List.length S.pre; rw [List.length_take] at this; omega
  obtain ⟨h1, tk, rfl, hk⟩ := x.done
  have noA : ∀ b : Addr, b ∉ (cxOf CX P w K mg base N qual scope f cd A outer s H E).ex := fun b z => absurd (show b ∈ ([] : List Addr) from z) (by simp)
  refine ⟨⟨e0.mod, S.kind, rfl, rfl, Nat.le_refl _, fun y z c h1 h2 => ?_, fun y hy => ?_, fun y c _ h => ?_, fun _ => hd, Around.frames_deeper e0.frames, .inr ⟨rfl, rfl⟩, fun b z => absurd z (noA b), e0.bs, e0.bsz, fun b _ _ => noA b, fun b z => absurd z (noA b), e0.funs, e0.frf⟩,
    rfl, e0.bare, Un.kept hk, ⟨_, x.toInCall.ns, fun i y v h1 h2 h3 => ?_⟩, fun y c h => ⟨_, x.cell y c h⟩, e0.hok.fresh (Nat.le_refl _), fun y c h => ?_, fun p hp => absurd (show p ∈ ([] : List (Addr × Obj)) from hp) (by simp), e0.hok.kept hk, ?_⟩
  · exact name_of_addr x.apart (PySem.mem_of_lookup h1) (PySem.mem_of_lookup h2)
  · have hy : scope.names.lookup y = some .cell ∨ scope.names.lookup y = some .free := hy
    rcases hy with hy | hy
    · exact cell_has hy
    · exact absurd rfl (S.nofree _ (PySem.mem_of_lookup hy))
  · exact Nat.le_of_lt (x.above y c (PySem.mem_of_lookup h))
  · have hi : i < vs.length := by
      unfold start at h2
      by_cases hi : i < vs.length
      · exact hi
      · rw [List.getElem?_append_right (by simpa using hi)] at h2
        rw [List.getElem?_replicate] at h2
        split at h2 <;> cases h2
    have ha : vs[i]? = some v := by
      unfold start at h2
      rw [List.getElem?_append_left (by simpa using hi), List.getElem?_map] at h2
      cases e : vs[i]? with
      | none => rw [e] at h2; cases h2
      | some a => rw [e] at h2; cases h2; rfl
    obtain ⟨u, hu, rv⟩ := r.get ha
    have hp : ps[i]? = some y := by
      rw [← S.pre, List.getElem?_take_of_lt (by omega)]; exact h1
    have ndP : ps.Nodup := by rw [← S.pre]; exact S.nd.sublist (List.take_sublist _ _)
    refine ⟨u, rv, ?_⟩
    rcases S.par y (List.mem_of_getElem? hp) with k | k
    · exact .inl ⟨k, bindL_get ndP hp hu k⟩
    · obtain ⟨c, e⟩ := cell_has (n := s.heap.objs.size + 1) k
      refine .inr ⟨.inl k, c, e, ?_⟩
      have q := x.cell y c e
      rw [bindC_get ndP hp hu (by show scope.names.lookup y ≠ _; rw [k]; decide)] at q
      exact q
  · exact e0.hok.fresh (Nat.le_of_lt (x.above y c (PySem.mem_of_lookup h)))
  · unfold start
    show _ = N.length
    rw [List.length_append, List.length_map, List.length_replicate]
    omega

theorem fn_of {CX : CXT} {P : Program} {w : World} {K : PySem.W.Frag} {mg : Str → Option Value} {base : Heap} {k : Nat} {f : Addr} {name qual : Str} {params : Arguments} {body : List Stmt} {scope : Scope} {dV kV doc pm cdv ct oc : Value} {an od : Option Addr}
    {osl : Array (Option Value)} {N ps : List Str} {sp : Sp} (lk : K.lookup f = some ⟨oc, od, .func (PySem.W.fnOf name qual params body scope dV kV doc pm an cdv ct), osl⟩) (hcd : PySem.W.codeIn K cdv qual = true) (S : FnScope N ps scope)
    (len : ∀ vs H Q E, sp vs H Q E → vs.length = ps.length)
    (hbody : ∀ (A : Around) (outer : List Env) (s : Shared) (H : Hp) (vs : List V) (Q : VK) (E : XK), Room k (A.deeper (envOfC qual scope s.heap.objs.size f cdv)) → sp vs H Q E →
      ∃ t, PSs (cxOf CX P w K mg base N qual scope f cdv A outer s H E) body t ∧ t { nx := fun _ H' => Q .non H', rt := Q } (start N vs) H) :
    FnOk P w K mg base CX (k + 1) f (PySem.W.fnOf name qual params body scope dV kV doc pm an cdv ct) ps sp := by
  refine ⟨len, fun A outer s H args us vs Q E hr e0 hb r hsp => ?_⟩
  have hl := len _ _ _ _ hsp
  have KX : K.In s.heap := e0.mod.kin.keeps fun b o e => (e0.bs b o e).1
  have lim : s.heap.NoLimit := e0.mod.nolimit.keeps fun b o e => (e0.bs b o e).1
  have hkind : ∀ y ∈ ps.zip us, scope.names.lookup y.1 = some .local ∨ (scope.names.lookup y.1 = some .cell ∧ ((cellsFrom (s.heap.objs.size + 1) scope.names []).lookup y.1).isSome = true) := fun ⟨n, v⟩ hy => by
    rcases S.par n (List.of_mem_zip hy).1 with q | q
    · exact .inl q
    · exact .inr ⟨q, PySem.W.cellsFrom_some _ _ _ (.inl q)⟩
  refine codeAny_call_function hr.depth (KX _ _ lk) rfl S.co S.gen rfl (PySem.W.codeRec_of KX hcd) (hb _ _ _ _ ?_)
  refine wpAny_newFunctionEnv_cells S.kind hkind fun env he s1 x => ?_
  subst he
  refine ⟨lim.keeps x.toInCall.keep, codeAny_func ?_⟩
  obtain ⟨t, ht, hq⟩ := hbody A outer s H vs Q E (hr.deeper _) hsp
  have I : Inv (cxOf CX P w K mg base N qual scope f cdv A outer s H E) [] (start N vs) H s1 := inv_start S hr.hd e0 hl r x
  refine wpAny_mono (ht [] s1 (start N vs) H _ I hq) (fun fl s' hs => ?_) fun e s' hs => hs
  have fin : ∀ {σ' : St} {H' : Hp} {v : V} {u : Value}, Inv (cxOf CX P w K mg base N qual scope f cdv A outer s H E) [] σ' H' s' → RelV v u → Q v H' → CE outer P w H s Q u s' :=
    fun {σ' H' v u} J rv q => ⟨v, H', J.os, J.bare, J.base, J.hok, rv, q⟩
  cases fl with
  | ret u =>
    obtain ⟨v, σ', H', J, rv, q⟩ := hs
    exact fin J rv q
  | next =>
    obtain ⟨σ', H', J, q⟩ := hs
    exact fin (v := V.non) (u := Value.none) J rfl q
  | brk =>
    obtain ⟨_, _, _, q⟩ := hs
    exact False.elim q
  | cont =>
    obtain ⟨_, _, _, q⟩ := hs
    exact False.elim q
end L2

namespace L2
open PySem PySem.Spec PyProof.Rows
section
variable {X : Cx} {x : Str} {p pos : Pos} {e : Expr} {es : List Expr} {t : TA} {id T : String} {r : List V → Hp → VK → Prop}

noncomputable def tCB (r : List V → Hp → VK → Prop) (t : TA) : TE := fun σ H Q => t σ H fun vs H1 => r vs H1 Q
theorem pe_callB (hc : CallR X (.builtin id) r) (hg : Gl X x) (hm : X.mg x = none) (hv : bootBuiltins x = some (.builtin id)) (ha : PA X (e :: es) t) (hn : x ≠ "__name__" := by decide) (hdb : (x == ("__debug__" : Str)) = false := by decide)
    (he : starEach (e :: es) X.env = (false, eval e X.env) :: starEach es X.env := by rfl) (hpl : (backTo pos (starEach es X.env)).any (·.1) = false := by rfl) : PE X (.Call (.Name x p) (e :: es) [] pos) (tCB r t) := by
  intro pins s σ H Q I h
  refine wpAny_Call_Name_kw (ld_blt I hg hm hv ?_ hn hdb)
  exact PyProof.Rows.callWith_builtin1 (thn (ha pos pins s σ H _ I h) fun us s1 ⟨vs, H1, I1, r1, q1⟩ => hc pins s1 σ H1 vs us Q I1 r1 q1) he hpl
end
end L2

namespace HT
open PySem PyProof.Rows

section
open PySem.SeqAt
open PySem.AutoSeq1 (wpAny_loadPart')
open PySem.MeetsSeq PySem.MeetsSeq2 PySem.MeetsSeq3

end

section
variable {prog : Program} {w : World} {A : Around} {E : Value → Shared → Prop} {s : Shared}

end
end HT

namespace L2
open PySem PySem.Spec PyProof.Rows

noncomputable abbrev TO := St → Hp → (Option Int → Hp → Prop) → Prop
noncomputable def PO (X : Cx) (e : Option Expr) (t : TO) : Prop :=
  ∀ (pins : List (Addr × Obj)) (s : Shared) (σ : St) (H : Hp) (Q : Option Int → Hp → Prop), Inv X pins σ H s → t σ H Q →
    wpAny (model X.prog X.w) X.A (evalPart e X.env) (fun u s' => ∃ o H', Inv X pins σ H' s' ∧ IsPart u o ∧ Q o H') X.xe s
noncomputable def tNoPart : TO := fun _ H Q => Q none H
noncomputable def tPart (t : TE) : TO := fun σ H Q => t σ H fun x H1 => ∃ i, x = .int i ∧ Q (some i) H1

section
variable {X : Cx} {e : Expr} {te : TE} {lo hi : Option Expr} {tl th : TO} {pos p2 : Pos}

theorem po_none : PO X none tNoPart := by
  intro pins s σ H Q I h
  rw [evalPart_none]
  exact wpAny_pure ⟨none, H, I, .none, h⟩
theorem po_some (h : PE X e te) : PO X (some e) (tPart te) := by
  intro pins s σ H Q I hw
  rw [evalPart_some]
  refine thn (h pins s σ H _ I hw) fun u s1 ⟨x, H1, I1, r1, q1⟩ => ?_
  obtain ⟨i, rfl, q⟩ := q1
  obtain ⟨t, rfl⟩ := r1
  exact ⟨some i, H1, I1, .int i t, q⟩

noncomputable def SlR (X : Cx) (r : V → Option Int → Option Int → Hp → VK → Prop) : Prop :=
  ∀ (pins : List (Addr × Obj)) (s : Shared) (σ : St) (H : Hp) (x : V) (v vl vu : Value) (lo hi : Option Int) (sl : Addr) (Q : VK), Inv X pins σ H s → RelV x v → s.heap.IsSliceOf sl vl vu .none → IsPart vl lo → IsPart vu hi → r x lo hi H Q →
    ∃ T id, typeLookup (.type T) "__getitem__" = pure (some (.builtin id)) ∧ s.TypeIs v T ∧ wpAny (model X.prog X.w) X.A (getItem v (.ref sl)) (EP X pins σ Q) X.xe s
noncomputable def tSl (r : V → Option Int → Option Int → Hp → VK → Prop) (te : TE) (tl th : TO) : TE := fun σ H Q => te σ H fun x H1 => tl σ H1 fun l H2 => th σ H2 fun u H3 => r x l u H3 Q
theorem pe_slice {r : V → Option Int → Option Int → Hp → VK → Prop} (hr : SlR X r) (he : PE X e te) (hl : PO X lo tl) (hu : PO X hi th) : PE X (.Subscript e (.Slice lo hi none p2) pos) (tSl r te tl th) := by
  intro pins s σ H Q I h
  refine Subscript_ (thn (he pins s σ H _ I h) fun v s1 ⟨x, H1, I1, r1, q1⟩ => ?_)
  refine wpAny_Slice (thn (hl pins s1 σ H1 _ I1 q1) fun vl s2 ⟨l, H2, I2, pl, q2⟩ => thn (hu pins s2 σ H2 _ I2 q2) fun vu s3 ⟨u, H3, I3, pu, q3⟩ => ?_)
  rw [evalPart_none]
  refine wpAny_pure ?_
  have I4 : Inv X pins σ H3 { s3 with heap := s3.heap.push { cls := .type "slice", data := .fields #[vl, vu, .none] } } := I3.kept (t' := s3.toks) fun b ob q => Heap.get?_push_of_some _ q
  obtain ⟨T, id, hT, ht, hg⟩ := hr pins { s3 with heap := s3.heap.push { cls := .type "slice", data := .fields #[vl, vu, .none] } } σ H3 x v vl vu l u s3.heap.objs.size Q I4 r1 (Heap.IsSliceOf.new ..) pl pu q3
  show wpAny (model X.prog X.w) X.A (subscriptTail e (.Slice lo hi none p2) v (.ref s3.heap.objs.size)) (EP X pins σ Q) X.xe { s3 with heap := s3.heap.push { cls := .type "slice", data := .fields #[vl, vu, .none] } }
  exact tail_any (ops := [.ref s3.heap.objs.size, v]) ht hT hg (by with_unfolding_all rfl)

end
end L2

namespace L2
open PySem PySem.Spec PyProof.Rows

noncomputable def ixN (n : Nat) (i : Int) : Option Nat := if 0 ≤ i then (if i < n then some i.toNat else none) else if -(n : Int) ≤ i then some (i + n).toNat else none
noncomputable def atI {α : Type} (xs : List α) (i : Int) : Option α := (ixN xs.length i).bind fun j => xs[j]?
theorem ixN_seq {n : Nat} {i : Int} {j : Nat} (h : ixN n i = some j) : seqIndex? i n = some j ∧ j < n ∧ -(n : Int) ≤ i ∧ i < n := by
  unfold ixN at h
  by_cases h0 : 0 ≤ i
  · rw [if_pos h0] at h
    by_cases h1 : i < n
    · rw [if_pos h1] at h
      have e : i.toNat = j := Option.some.inj h
      exact ⟨by rw [seqIndex_of h0 h1, e], by omega, by omega, h1⟩
    · rw [if_neg h1] at h; cases h
  · rw [if_neg h0] at h
    by_cases h1 : -(n : Int) ≤ i
    · rw [if_pos h1] at h
      have e : (i + n).toNat = j := Option.some.inj h
      exact ⟨by rw [seqIndex_neg (by omega) h1, e], by omega, h1, by omega⟩
    · rw [if_neg h1] at h; cases h
theorem atI_get {α : Type} {xs : List α} {i : Int} {v : α} (h : atI xs i = some v) : ∃ j, seqIndex? i xs.length = some j ∧ xs[j]? = some v ∧ j < xs.length ∧ -(xs.length : Int) ≤ i ∧ i < xs.length := by
  unfold atI at h
  cases e : ixN xs.length i with
  | none => rw [e] at h; cases h
  | some j =>
    rw [e] at h
    obtain ⟨h1, h2, h3, h4⟩ := ixN_seq e
    exact ⟨j, h1, h, h2, h3, h4⟩
theorem atI_nat {α : Type} {xs : List α} {j : Nat} {v : α} (h : xs[j]? = some v) : atI xs (j : Int) = some v := by
  have hj : j < xs.length := (List.getElem?_eq_some_iff.mp h).1
  have e : ixN xs.length (j : Int) = some j := by
    unfold ixN
    rw [if_pos (by omega), if_pos (by omega)]; simp
  unfold atI; rw [e]; exact h
noncomputable def PlainIx (b : Expr) : Prop := ∀ o i, subscripted b false o i = operate [o, i] (getItem o i)
noncomputable def IxR (X : Cx) (r : R2) : Prop :=
  ∀ (value slice : Expr) (pins : List (Addr × Obj)) (s : Shared) (σ : St) (H : Hp) (x y : V) (v u : Value) (Q : VK), Inv X pins σ H s → RelV x v → RelV y u → r x y H Q →
    subscripted slice false v u = operate [v, u] (getItem v u) → wpAny (model X.prog X.w) X.A (subscriptTail value slice v u) (EP X pins σ Q) X.xe s
section
variable {X : Cx} {a b : Expr} {ta tb : TE} {pos : Pos}
theorem pe_ix {r : R2} (hr : IxR X r) (ha : PE X a ta) (hb : PE X b tb) (hs : PlainIx b) : PE X (.Subscript a b pos) (tOp r ta tb) := by
  intro pins s σ H Q I h
  exact Subscript_ (binT ha hb I h fun v u s2 x y H2 I2 rx ry q => hr a b pins s2 σ H2 x y v u Q I2 rx ry q (hs _ _))

noncomputable def rIxL (K : PySem.W.Frag) : R2 := fun x y H Q => ∃ p xs i v, x = .ref p ∧ y = .int i ∧ SqL K H p xs ∧ atI xs i = some v ∧ Q v H
noncomputable def rIxT (K : PySem.W.Frag) : R2 := fun x y H Q => ∃ p xs i v, x = .ref p ∧ y = .int i ∧ SqT K H p xs ∧ atI xs i = some v ∧ Q v H
noncomputable def rIxS : R2 := fun x y H Q => ∃ z i c, x = .str z ∧ y = .int i ∧ z.length ≤ sizeLine ∧ atI z.cps.toList i = some c ∧ Q (.str ⟨#[c]⟩) H
theorem ix_list : IxR X (rIxL X.K) := by
  intro value slice pins s σ H x y v u Q I rx ry h hs
  obtain ⟨p, xs, i, z, rfl, rfl, hq, he, q⟩ := h
  cases rx
  obtain ⟨t, rfl⟩ := ry
  obtain ⟨its, r, pl, hz⟩ := I.list hq
  obtain ⟨j, h1, h2, h3, h4, h5⟩ := atI_get he
  obtain ⟨w, ew, rw'⟩ := r.get h2
  have hl := r.length
  have hn := line63
  have fin : EP X pins σ Q w s := ⟨z, H, I, rw', q⟩
  by_cases h0 : 0 ≤ i
  · have hj : i.toNat = j := by
      rw [seqIndex_of h0 h5] at h1
      exact Option.some.inj h1
    exact item_listR pl.isList h0 (by omega) (by rw [hj]; simpa using ew) fin hs
  · have hj : (i + (its.toArray.size : Int)).toNat = j := by
      rw [seqIndex_neg (by omega) h4] at h1
      rw [List.size_toArray, ← hl]
      exact Option.some.inj h1
    exact subscriptTail_builtinR (x := w) pl.isList.typeIs slot_list_getitem.lookup
      (wpAny_getItem_list_neg (Q := fun r s' => r = w ∧ EP X pins σ Q r s') pl.isList (by omega) (by rw [List.size_toArray] <;> omega) (by omega) (by rw [hj]; simpa using ew) ⟨rfl, fin⟩) hs
theorem ix_str : IxR X rIxS := by
  intro value slice pins s σ H x y v u Q I rx ry h hs
  obtain ⟨z, i, c, rfl, rfl, hz, he, q⟩ := h
  obtain ⟨t, rfl⟩ := rx
  obtain ⟨t', rfl⟩ := ry
  obtain ⟨j, h1, h2, h3, h4, h5⟩ := atI_get he
  have hl : z.cps.toList.length = z.length := by simp [Str.length]
  rw [hl] at h1 h4 h5
  have hn := line63
  exact tail_any (typeIs_str s z t) slot_str_getitem.lookup (getItem_str (c := c) (by
    have e1 : decide (i < -(2 ^ 63 : Int)) = false := decide_eq_false (by omega)
    have e2 : decide (i ≥ 2 ^ 63) = false := decide_eq_false (by omega)
    rw [e1, e2, Bool.or_false]) (by rw [h1]; simpa using h2) ⟨.str ⟨#[c]⟩, H, I.tok _, ⟨_, rfl⟩, q⟩) hs
theorem call_len_seq : CallR X (.builtin "len") (fun xs H Q => ∃ p ys, xs = [.ref p] ∧ (SqL X.K H p ys ∨ SqT X.K H p ys) ∧ Q (.int ys.length) H) := by
  intro pins s σ H xs us Q I r h
  obtain ⟨p, ys, rfl, hq, q⟩ := h
  obtain ⟨u, rfl, rx⟩ := vals1 r
  cases rx
  have hn := line63
  rcases hq with hq | hq
  · obtain ⟨its, r', pl, hz⟩ := I.list hq
    have hlen := r'.length
    exact Calls.call_len_list pl.isList (by simp only [List.size_toArray] <;> omega) ⟨.int ys.length, H, I.tok _, ⟨s.toks + 1, by rw [List.size_toArray, hlen]⟩, q⟩
  · obtain ⟨its, r', pl, hz⟩ := I.tuple hq
    have hlen := r'.length
    exact len_tuple pl (by simp only [List.size_toArray] <;> omega) ⟨.int ys.length, H, I.tok _, ⟨s.toks + 1, by rw [List.size_toArray, hlen]⟩, q⟩
variable {o e : Expr} {es : List Expr} {to : TE} {t : TA} {name : Str} {apos cpos : Pos} {T id : String} {r : V → List V → Hp → VK → Prop}
end
end L2

namespace L2
open PySem PySem.Spec PyProof.Rows

section
variable {X : Cx} {pins : List (Addr × Obj)} {σ : St} {H : Hp} {s : Shared} {l b : Addr} {xs ys zs : List V}

theorem Inv.lnew {its : List Value} {t' : Nat} (I : Inv X pins σ H s) (hv : Vals ys its) (hz : ys.length ≤ sizeLine) :
    Inv X pins σ (upd H s.heap.objs.size (.lst ys)) { s with heap := s.heap.push { cls := .type "list", data := .seq its.toArray }, toks := t' } :=
  I.laid (fun _ _ q => Heap.get?_push_of_some _ q) (Nat.le_refl _) ⟨hz, its, 0, hv, Heap.get?_push_size _ rfl⟩
theorem Inv.fresh (I : Inv X pins σ H s) : H s.heap.objs.size = none := I.hok.fresh (Nat.le_refl _)
theorem Inv.lstM (I : Inv X pins σ H s) (hH : H l = some (.lst xs)) : xs.length ≤ sizeLine ∧ ∃ (its : List Value) (n : Nat), Vals xs its ∧ xs.length = its.length ∧ s.heap.get? l = some { cls := .type "list", data := .seq its.toArray n } := by
  obtain ⟨z, its, n, r, e⟩ := I.hok l _ hH
  exact ⟨z, its, n, r, r.length, e⟩

end

section
variable {X : Cx}

noncomputable def rCat : R2 := fun x y H Q => ∃ l b xs zs, x = .ref l ∧ y = .ref b ∧ H l = some (.lst xs) ∧ H b = some (.lst zs) ∧ xs.length + zs.length ≤ sizeLine ∧ ∀ p, H p = none → Q (.ref p) (upd H p (.lst (xs ++ zs)))
theorem op_cat : OpR X (binaryOp .Add) rCat := by
  intro pins s σ H x y v u Q I rx ry h
  obtain ⟨l, b, xs, zs, rfl, rfl, hH, hB, hz, q⟩ := h
  cases rx
  cases ry
  obtain ⟨z, its, n, r, hl, e⟩ := I.lstM hH
  obtain ⟨z2, its2, n2, r2, hl2, e2⟩ := I.lstM hB
  refine PySem.P.add_list e e2 ?_ (by rw [List.size_toArray, List.size_toArray]; omega)
  have ea : its.toArray ++ its2.toArray = (its ++ its2).toArray := by simp
  rw [ea]
  exact ⟨.ref _, _, I.lnew (t' := s.toks) (r.append r2) (by rw [List.length_append]; omega), rfl, q _ I.fresh⟩
end

section
variable {prog : Program} {w : World} {A : Around} {E : Value → Shared → Prop} {s : Shared}
end

section
variable {X : Cx}
end
end L2

namespace Att
open PySem PySem.W PySem.Calls PyProof.Rows

theorem ints_of_wellAll {P : Params} {h : Heap} : ∀ (ns : List Int) (vs : List Value), WellAll P h vs (ns.map WData.int) → IntsAre vs ns := by
  intro ns
  induction ns with
  | nil =>
    intro vs w
    rw [List.map_nil] at w
    cases w
    exact .nil
  | cons n ns ih =>
    intro vs w
    rw [List.map_cons] at w
    cases w with
    | cons a b =>
      cases a
      exact .cons _ _ (ih _ b)

theorem script_of {l : OpenLaw} {n : Nat} (hn : l.most = some n) {P : Params} {h : Heap} {args : List WData} {vals : List Value}
    (hpre : l.row.toRowW.claim.pre args = true) (hwl : WellAll P h vals args) :
    ∃ a vs ns, vals = [Value.ref a] ∧ args = [WData.list (ns.map WData.int)] ∧ h.get? a = some { cls := .type "list", data := .seq vs.toArray } ∧ IntsAre vs ns ∧ ns.length ≤ n := by
  have hsh : WShape.hasAll [] args [.list .int] = true := (pre_splitW hpre).1
  have hc : l.pre.holds [] { args := args } = true := (pre_splitW hpre).2
  obtain ⟨d, r, rfl, h1, h2⟩ := hasAllW_cons hsh
  obtain rfl := hasAllW_nil h2
  obtain ⟨xs, rfl, h3⟩ := hasW_list h1
  obtain ⟨ns, rfl⟩ := items_int h3
  have hlen : ns.length ≤ n := by
    unfold OpenLaw.pre at hc
    have h4 : (WTm.not (.lt (.lit (.int (n : Int))) (.len (.arg 0)))).holds [] { args := [.list (ns.map .int)] } = true := by
      have h4 := (holds_andW hc).1
      rw [hn] at h4
      exact h4
    have h5 := condW_of h4 (w_not (w_lt w_lit (w_len_list (w_arg rfl))))
    rw [List.length_map] at h5
    refine Nat.le_of_not_lt fun q => ?_
    have q' : (n : Int) < ((ns.length : Nat) : Int) := by omega
    first
      | (rw [decide_eq_true q'] at h5; exact absurd h5 (by decide))
      | (simp at h5; omega)
  cases hwl with
  | cons w1 w2 =>
    cases w2
    cases w1 with
    | list ho hall => exact ⟨_, _, ns, rfl, rfl, ho, ints_of_wellAll ns _ hall, hlen⟩

theorem post_true (l : OpenLaw) (args : List WData) : l.row.toRowW.claim.post args (.bool true) args = true :=
  postW_of (r := l.row.toRowW) (X := (true == true))
    (show WShape.has [] (.bool true) .bool = true by first | rfl | decide | simp [WShape.has, WShape.arms, WShape.armsAll])
    (show (WTm.eq .res (.lit (.bool true))).value [] { args := args, res := some (.bool true), after := args } = some (.bool (true == true)) from w_eq_bool (w_res rfl) w_lit) rfl

theorem attach_call {l : OpenLaw} {n : Nat} {q : Program} {loose : List Str} {XP : (Str → Option Value) → Heap → Prop} {YP : World → Heap → Prop} {d : DefRec}
    (hn : l.most = some n) (hdf : d.params.defaults = [])
    (call : ∀ (w : World) (s₀ s₁ : Shared) (mg mb : Str → Option Value) (fa : Addr) (o : Obj) (pm cd doc : Value) (a : Addr) (vs : List Value) (ns : List Int),
      Ground q loose [] XP w s₀ mg mb s₁.heap → YP w s₁.heap →
      s₁.heap.get? fa = some o → o.data = .func (docDef d.name d.params d.body d.scope pm cd doc) → s₁.heap.CodeRec cd d.name → mg d.name = some (.ref fa) →
      s₁.heap.get? a = some { cls := .type "list", data := .seq vs.toArray } → IntsAre vs ns → ns.length ≤ n → s₁.gens = #[] →
      codeAny (model l.prog w) callerA (.call (.ref fa) ⟨[.ref a], []⟩) (fun r s' => r = .ok (.ret (.bool true)) ∧ OldK s₁.heap s'.heap ∧ s'.os = s₁.os ∧ AllBare s'.gens) s₁) :
    WalkO q loose XP YP l.row.toRowW d [] (fun f vs => PySem.call f vs) := by
  intro w s₀ s₁ mg mb G Y fa o pm cd doc dV kV ho hd hcd hD hmg hg args vals as hpre hlay hrd hwl hlo
  obtain rfl : dV = .none := Dflts.none hD hdf
  obtain rfl : kV = .none := Dflts.noKw hD
  obtain ⟨a, vs, ns, rfl, rfl, hobj, hints, hlen⟩ := script_of hn hpre hwl
  refine enter_call (codeAny_mono (call w s₀ s₁ mg mb fa o pm cd doc a vs ns G Y ho (fd_plain hd) hcd hmg hobj hints hlen hg) fun r s' hq => ?_)
  obtain ⟨rfl, h2, h3, h4⟩ := hq
  exact ⟨.inl ⟨.bool true, .bool true, [], rfl, fun _ => rfl, .bool true, post_true l _, fun _ => ⟨List.Pairwise.nil, fun _ hm => (nomatch hm)⟩⟩, h2, h3, h4⟩

section
variable {prog : Program} {w : World} {A : Around} {E : Value → Shared → Prop} {s : Shared} {K : Frag}

end
end Att

namespace L2
open PySem PySem.Spec PyProof.Rows

theorem vals_ints : ∀ {vs : List Value} {ns : List Int}, IntsAre vs ns → Vals (ns.map V.int) vs
  | _, _, .nil => .nil
  | _, _, .cons n t h => .cons ⟨t, rfl⟩ (vals_ints h)

noncomputable def Only (H : Hp) : Prop := ∀ b, H b = none ∨ ∃ o xs, H b = some (.frz o (.lst xs))

theorem law_call {P : Program} {w : World} {K : PySem.W.Frag} {mg mb : Str → Option Value} {CX : CXT} {k : Nat} {fa a : Addr} {fd : FuncData} {x : Str} {sp : Sp} {s₁ : Shared} {vs : List Value} {ns : List Int}
    (KX : K.In s₁.heap) (hns : s₁.heap.Ns mainGlobals mg) (hb : s₁.heap.Ns builtinsNs mb) (hbb : ∀ x : Str, x ≠ "__name__" → mb x = bootBuiltins x) (hlim : s₁.heap.NoLimit) (hg : s₁.gens = #[])
    (ha : s₁.heap.get? a = some { cls := .type "list", data := .seq vs.toArray }) (hi : IntsAre vs ns) (hl : ns.length ≤ sizeLine) (hr : Room k callerA)
    (F : ∀ base : Heap, K.In base → base.Ns mainGlobals mg → FnOk P w K mg base CX k fa fd [x] sp) (hbind : ∀ (s : Shared) (u : Value), BindsTo s fd ⟨[u], []⟩ [(x, u)])
    (hsp : ∀ H : Hp, Only H → SqL K H a (ns.map V.int) → sp [.ref a] H (fun v _ => v = .bl true) fun _ _ _ => False)
    (hCX : ∀ H e s', CX [] H s₁ (fun _ _ _ => False) e s' → False) :
    codeAny (model P w) callerA (.call (.ref fa) ⟨[.ref a], []⟩) (fun r s' => r = .ok (.ret (.bool true)) ∧ OldK s₁.heap s'.heap ∧ s'.os = s₁.os ∧ AllBare s'.gens) s₁ := by
  have rv := vals_ints hi
  have lenV := hi.length
  -- from an abstract heap in which nothing but the script may be tracked
  have core : ∀ H : Hp, Only H → SqL K H a (ns.map V.int) → HOk P w H s₁.heap → (∀ b, H b ≠ none → b = a) → (H a ≠ none → K.lookup a = none) →
      codeAny (model P w) callerA (.call (.ref fa) ⟨[.ref a], []⟩) (fun r s' => r = .ok (.ret (.bool true)) ∧ OldK s₁.heap s'.heap ∧ s'.os = s₁.os ∧ AllBare s'.gens) s₁ := by
    intro H hO hS hok hA hK
    have base_of : ∀ {b : Addr} {o : Obj}, s₁.heap.get? b = some o → H b = none → (hidT s₁.heap H).get? b = some o := fun e n => hidT_get e n
    have noA : ∀ {b : Addr} {o : Obj} {es : Array DictEntry} {ep : Nat}, s₁.heap.get? b = some o → o.data = .dict es ep → H b = none := fun {b o es ep} e d => by
      cases q : H b with
      | none => rfl
      | some u =>
        have e' : b = a := hA b (by rw [q]; simp)
        subst e'
        rw [ha] at e; cases e
        have d' : Data.seq vs.toArray _ = Data.dict es ep := d
        cases d'
    have nsK : ∀ {b : Addr} {m : Str → Option Value}, s₁.heap.Ns b m → (hidT s₁.heap H).Ns b m := fun {b m} ⟨o, es, ep, e, d, r⟩ => ⟨o, es, ep, base_of e (noA e d), d, r⟩
    have hKb : K.In (hidT s₁.heap H) := fun b o e => base_of (KX b o e) (by
      cases q : H b with
      | none => rfl
      | some u =>
        have e' : b = a := hA b (by rw [q]; simp)
        subst e'
        rw [hK (by rw [q]; simp)] at e; cases e)
    have hM : Mod K mg (hidT s₁.heap H) := ⟨hKb, nsK hns, ⟨mb, nsK hb, hbb⟩, let ⟨mc, h1, h2⟩ := hlim; ⟨mc, nsK h1, h2⟩⟩
    have e0 : Env0 P w K mg (hidT s₁.heap H) callerA [] s₁ H := ⟨rfl, hM, fun b o e => of_hidT e, Nat.le_of_eq (hidT_size _ _), trivial, fun b hb => absurd (show b ∈ ([] : List Addr) from hb) (by simp), hok, .of_eq hg⟩
    refine codeAny_mono ((F _ hKb (nsK hns)).run callerA [] s₁ H ⟨[.ref a], []⟩ [.ref a] [.ref a] _ _ hr e0 (hbind s₁ (.ref a)) (.cons rfl .nil) (hsp H hO hS)) fun r s' h => ?_
    cases r with
    | error e => exact (hCX H e s' h).elim
    | ok fl =>
      cases fl with
      | next => exact False.elim h
      | brk => exact False.elim h
      | cont => exact False.elim h
      | ret u =>
        obtain ⟨v, H', os, bare, un, hok', r', q⟩ := h
        have q' : v = .bl true := q
        subst q'
        obtain rfl : u = Value.bool true := r'
        refine ⟨rfl, OldK.of_keep fun b o e => ?_, os, bare⟩
        cases q : H b with
        | none => exact un.keep b o e q (by intro z; exact absurd (show b ∈ ([] : List Addr) from z) (by simp)) (by simp)
        | some u =>
          rcases hO b with z | ⟨ob, xs, z⟩
          · rw [q] at z; cases z
          · have z2 := un.frzs b ob _ z
            obtain ⟨e1, _⟩ := hok b _ z
            obtain ⟨e2, _⟩ := hok' b _ z2
            rw [e] at e1; cases e1
            exact e2
  cases hk : K.lookup a with
  | some o =>
    -- the script is one of the module's own objects
    have e := KX a o hk
    rw [ha] at e
    cases e
    refine core (fun _ => none) (fun _ => .inl rfl) (.inr ⟨_, vs.toArray, _, hk, rfl, rfl, rfl, by rw [List.size_toArray, lenV]; exact hl, by simpa using rv⟩) (fun b u z => by have z' : (none : Option HO) = some u := z; cases z') (fun b z => absurd rfl z) fun z => absurd rfl z
  | none =>
    refine core (fun b => if b = a then some (.frz { cls := .type "list", data := .seq vs.toArray } (.lst (ns.map V.int))) else none) (fun b => ?_) (.inl (.inr ⟨{ cls := .type "list", data := .seq vs.toArray }, if_pos rfl⟩)) (fun b u z => ?_) (fun b z => ?_) fun _ => hk
    · by_cases hb : b = a
      · exact .inr ⟨_, _, if_pos hb⟩
      · exact .inl (if_neg hb)
    · by_cases hb : b = a
      · have z' := (if_pos hb).symm.trans z
        cases z'
        subst hb
        exact ⟨ha, by rw [List.length_map]; exact hl, vs, _, rv, ha⟩
      · have z' := (if_neg hb).symm.trans z
        cases z'
    · by_cases hb : b = a
      · exact hb
      · exact absurd (if_neg hb) z
end L2

namespace L2
open PySem PySem.Spec PyProof.Rows

theorem walk_of {l : PySem.W.OpenLaw} {n k : Nat} {q : Program} {loose : List Str} {XP : (Str → Option Value) → Heap → Prop} {YP : World → Heap → Prop} {d : DefRec} {K : Params → PySem.W.Frag} {CX : World → CXT} {sp : World → Sp} {x : Str}
    (hn : l.most = some n) (hn2 : n ≤ sizeLine) (hdf : d.params.defaults = []) (hr : Room k callerA)
    (hY : ∀ (w : World) (h : Heap), YP w h → (K w.params).In h)
    (F : ∀ (w : World) (mg : Str → Option Value) (fa : Addr) (h : Heap), (K w.params).In h → h.Ns mainGlobals mg → mg d.name = some (.ref fa) →
      ∃ fd : FuncData, (∀ (s : Shared) (u : Value), BindsTo s fd ⟨[u], []⟩ [(x, u)]) ∧
        ∀ base : Heap, (K w.params).In base → base.Ns mainGlobals mg → FnOk l.prog w (K w.params) mg base (CX w) k fa fd [x] (sp w))
    (hsp : ∀ (w : World) (H : Hp) (a : Addr) (ns : List Int), ns.length ≤ n → Only H → SqL (K w.params) H a (ns.map V.int) → sp w [.ref a] H (fun v _ => v = .bl true) fun _ _ _ => False)
    (hCX : ∀ (w : World) (H : Hp) (s : Shared) (e : Value) (s' : Shared), CX w [] H s (fun _ _ _ => False) e s' → False) :
    PySem.W.WalkO q loose XP YP l.row.toRowW d [] (fun f vs => PySem.call f vs) := by
  refine Att.attach_call hn hdf fun w s₀ s₁ mg mb fa o pm cd doc a vs ns G Y ho hd hcd hmg hobj hints hlen hg => ?_
  have KX := hY w _ Y
  obtain ⟨fd, hb, hF⟩ := F w mg fa _ KX G.T.g hmg
  exact law_call KX G.T.g G.T.b G.T.builtins G.T.nolimit hg hobj hints (Nat.le_trans hlen hn2) hr hF hb (fun H hO hS => hsp w H a ns hlen hO hS) fun H e s' => hCX w H s₁ e s'
end L2

namespace L2
open PySem PySem.Spec PyProof.Rows

noncomputable def inClass (s : Stmt) (j : Nat) : Stmt := match s with
  | .ClassDef _ _ _ body _ _ _ _ _ _ _ => body.getD j (.Pass ⟨0, 0, 0, 0⟩)
  | _ => .Pass ⟨0, 0, 0, 0⟩
noncomputable def defArgs (s : Stmt) : Arguments := match s with
  | .FunctionDef _ a _ _ _ _ _ _ _ _ => a
  | _ => { posonlyargs := [], args := [], vararg := none, kwonlyargs := [], kw_defaults := [], kwarg := none, defaults := [] }
noncomputable def defBody (s : Stmt) : List Stmt := match s with
  | .FunctionDef _ _ b _ _ _ _ _ _ _ => b
  | _ => []
noncomputable def defScope (s : Stmt) : Scope := match s with
  | .FunctionDef _ _ _ _ _ _ sc _ _ _ => sc
  | _ => { kind := .function, names := [], isGenerator := false, isCoroutine := false }

structure Fun (K : PySem.W.Frag) (x qual : Str) (st : Stmt) (f : Addr) (fd : FuncData) : Prop where
  ex : ∃ (oc : Value) (od : Option Addr) (kV doc pm : Value) (an : Option Addr) (cdv ct : Value) (osl : Array (Option Value)),
    fd = PySem.W.fnOf x qual (defArgs st) (defBody st) (defScope st) .none kV doc pm an cdv ct ∧ K.lookup f = some ⟨oc, od, .func fd, osl⟩ ∧ PySem.W.codeIn K cdv qual = true
  kp : PySem.W.keepIn K (.ref f) = true
section
variable {P : Program} {w : World} {K : PySem.W.Frag} {mg : Str → Option Value} {base : Heap}
theorem Fun.binds {x qual : Str} {st : Stmt} {f : Addr} {fd : FuncData} {ps : List Str} (F : Fun K x qual st f fd)
    (h : ∀ (kV doc pm : Value) (an : Option Addr) (cdv ct : Value) (us : List Value), us.length = ps.length → bindArgs (PySem.W.fnOf x qual (defArgs st) (defBody st) (defScope st) .none kV doc pm an cdv ct) ⟨us, []⟩ = pure (ps.zip us)) : Binds K fd ps [] := by
  obtain ⟨oc, od, kV, doc, pm, an, cdv, ct, osl, rfl, lk, hcd⟩ := F.ex
  exact .all (h kV doc pm an cdv ct)
theorem fun_mk {x qual : Str} {st : Stmt} {f : Addr} {oc : Value} {od an : Option Addr} {osl : Array (Option Value)} {kV doc pm cdv ct : Value} (l : K.lookup f = some ⟨oc, od, .func (PySem.W.fnOf x qual (defArgs st) (defBody st) (defScope st) .none kV doc pm an cdv ct), osl⟩)
    (c : PySem.W.codeIn K cdv qual = true) (k : PySem.W.keepIn K (.ref f) = true) : Fun K x qual st f (PySem.W.fnOf x qual (defArgs st) (defBody st) (defScope st) .none kV doc pm an cdv ct) := ⟨⟨oc, od, kV, doc, pm, an, cdv, ct, osl, rfl, l, c⟩, k⟩
end
section
variable {X : Cx}
theorem pv (i : Nat) {x : Str} {pos : Pos} (hN : X.N[i]? = some x := by rfl) (hv : Vis X.env.scope x := by first | exact Or.inl rfl | exact Or.inr (Or.inl rfl) | exact Or.inr (Or.inr rfl)) (hd : (x == ("__debug__" : Str)) = false := by decide)
    (hcd : (x == ("__classdict__" : Str)) = false := by decide) : PE X (.Name x pos) (tVar i) := pe_var hN hv hd hcd
end

noncomputable def Same (H H' : Hp) : Prop := ∀ b o, H b = some o → H' b = some o
theorem Same.refl (H : Hp) : Same H H := fun _ _ h => h
theorem Same.trans {H H1 H2 : Hp} (a : Same H H1) (b : Same H1 H2) : Same H H2 := fun c o h => b c o (a c o h)
theorem Same.seq {K : PySem.W.Frag} {H H' : Hp} {a : Addr} {xs : List V} (e : Same H H') (h : SqL K H a xs) : SqL K H' a xs := by
  rcases h with (h | ⟨o, h⟩) | h
  · exact .inl (.inl (e _ _ h))
  · exact .inl (.inr ⟨o, e _ _ h⟩)
  · exact .inr h

end L2

set_option Elab.async false
set_option linter.all false
set_option maxRecDepth 100000
namespace L2
open PySem PySem.Spec PyProof.Rows

section
variable {κ : Type} [DecidableEq κ]
end


section
variable {P : Program} {w : World} {H : Hp} {h : Heap} {a : Addr}
end

section
variable {X : Cx} {pins : List (Addr × Obj)} {σ : St} {H : Hp} {s : Shared} {a : Addr} {y v : V} {u r : Value} {o : Option V} {A : Around} {E : Value → Shared → Prop}

end

section
variable {X : Cx} {pins : List (Addr × Obj)} {σ : St} {H : Hp} {s : Shared} {a : Addr} {kvs : List (Key × V)} {k : Key} {u : Value} {A : Around} {E : Value → Shared → Prop}
end


section
variable {X : Cx} {o i e value : Expr} {pos pos' tpos : Pos} {td ty tv : TE}
end


section
variable {X : Cx} {pos : Pos}
end

structure M1 (X : Cx) (o : Expr) (m : Str) (apos : Pos) (e : Expr) (cpos : Pos) : Prop where
  base : attributeBase o m X.env (eval o X.env) = eval o X.env
  few : ((backTo cpos (starEach [e] X.env)).all (fun x => !x.1) && (backToKw cpos (keywordEach [] X.env)).all (fun x => x.1.isSome)
    && decide (([e] : List Expr).length + ([] : List Keyword).length + (if ([] : List Keyword).isEmpty then 0 else 1) < 30)) = true
  line : (apos.endLine == cpos.line) = true
  trees : backTo cpos (starEach [e] X.env) = [(false, eval e X.env)]
structure M2 (X : Cx) (o : Expr) (m : Str) (apos : Pos) (e f : Expr) (cpos : Pos) : Prop where
  base : attributeBase o m X.env (eval o X.env) = eval o X.env
  few : ((backTo cpos (starEach [e, f] X.env)).all (fun x => !x.1) && (backToKw cpos (keywordEach [] X.env)).all (fun x => x.1.isSome)
    && decide (([e, f] : List Expr).length + ([] : List Keyword).length + (if ([] : List Keyword).isEmpty then 0 else 1) < 30)) = true
  line : (apos.endLine == cpos.line) = true
  trees : backTo cpos (starEach [e, f] X.env) = [(false, eval e X.env), (false, eval f X.env)]

section
variable {X : Cx} {pins : List (Addr × Obj)} {σ : St} {H : Hp} {s : Shared} {a : Addr} {y d : V} {u r : Value} {o : Option V} {A : Around} {E : Value → Shared → Prop}
end

section
variable {X : Cx} {o e f : Expr} {apos cpos : Pos} {td ty tx : TE}
end

section
variable {X : Cx} {pins : List (Addr × Obj)} {σ : St} {H : Hp} {s : Shared} {a : Addr} {kvs : List (Key × V)} {A : Around} {E : Value → Shared → Prop}
end


section
variable {X : Cx} {pins : List (Addr × Obj)} {σ : St} {H : Hp} {s : Shared} {a : Addr} {y : V} {u : Value} {A : Around} {E : Value → Shared → Prop}
end
end L2

namespace L2
open PySem PySem.Spec PyProof.Rows
section
variable {X : Cx}
end
section
variable {κ : Type} [DecidableEq κ]
end
end L2

set_option Elab.async false
set_option linter.all false
set_option maxRecDepth 100000
set_option maxHeartbeats 4000000
namespace L2
open PySem PySem.Spec PyProof.Rows

structure Def (P : Program) (w : World) (K : PySem.W.Frag) (mg : Str → Option Value) (base : Heap) (CX : CXT) (k : Nat) (x : Str) (ps : List Str) (sp : Sp) : Prop where
  ex : ∃ (f : Addr) (fd : FuncData), FnOk P w K mg base CX k f fd ps sp ∧ mg x = some (.ref f) ∧ PySem.W.keepIn K (.ref f) = true ∧ Binds K fd ps []
noncomputable def tCallD (sp : Sp) (E : XK) (t : TA) : TE := fun σ H Q => t σ H fun vs H1 => sp vs H1 Q E
section
variable {X : Cx} {CX : CXT} {k j : Nat} {ps : List Str} {sp : Sp} {E : XK} {x : Str} {p pos : Pos} {e : Expr} {es : List Expr} {t : TA}
theorem pe_callD (D : Def X.prog X.w X.K X.mg X.base CX j x ps sp) (hr : Room k X.A) (hg : Gl X x) (hx : Passes CX X E) (ha : PA X (e :: es) t) (hj : j ≤ k := by decide)
    (hdb : (x == ("__debug__" : Str)) = false := by decide) (he : starEach (e :: es) X.env = (false, eval e X.env) :: starEach es X.env := by rfl) (hpl : (backTo pos (starEach es X.env)).any (·.1) = false := by rfl) :
    PE X (.Call (.Name x p) (e :: es) [] pos) (tCallD sp E t) := by
  obtain ⟨f, fd, F, hm, hk, hb⟩ := D.ex
  intro pins s σ H Q I h
  refine pe_call (F.mono hj) hr hg hm hk hb .nil hx ha hdb he hpl pins s σ H Q I ?_
  show t σ H fun vs H1 => sp (vs ++ []) H1 Q E
  have z : (fun (vs : List V) (H1 : Hp) => sp (vs ++ []) H1 Q E) = fun vs H1 => sp vs H1 Q E := by funext vs H1; rw [List.append_nil]
  rw [z]
  exact h
end

theorem big_pow : (10 : Nat) ^ 100 ≤ 2 ^ 1000 := by decide +kernel
section
variable {X : Cx}
theorem op_fdivB : OpR X (binaryOp .FloorDiv) (rI (fun _ j => j ≠ 0 ∧ j.natAbs < 10 ^ 100) fun i j => .int (i.fdiv j)) := opI fun i j _ _ _ _ _ hc q => by
  refine floordiv_int hc.1 q (.inl (PyProof.noPylong_of_log2 ?_))
  have h0 : j.natAbs ≠ 0 := by have := hc.1; omega
  exact Nat.lt_trans ((Nat.log2_lt h0).mpr (Nat.lt_of_lt_of_le hc.2 big_pow)) (by decide)
end

noncomputable def Isi (K : PySem.W.Frag) (H : Hp) (x : V) (n : String) (b : Bool) : Prop := ∃ t, TyOf K H x t ∧ PySem.W.kitOne K t (.type n) = some b
section
variable {X : Cx}
theorem call_isinst : CallR X (.builtin "isinstance") (fun xs H Q => ∃ x n b, xs = [x, .ty n] ∧ Isi X.K H x n b ∧ Q (.bl b) H) := by
  intro pins s σ H xs us Q I r h
  obtain ⟨x, n, b, rfl, ⟨t, ty, e⟩, q⟩ := h
  obtain ⟨u, c, rfl, r1, r2⟩ := vals2 r
  cases r2
  exact isinst_ok I r1 ty e fun tk => ⟨.bl b, H, I.tok _, rfl, q⟩
end
section
variable {K : PySem.W.Frag} {H : Hp}
theorem isi_ii {i : Int} : Isi K H (.int i) "int" true := ⟨_, .int i, rfl⟩
theorem isi_ib {i : Int} : Isi K H (.int i) "bool" false := ⟨_, .int i, by with_unfolding_all rfl⟩
theorem isi_is {i : Int} : Isi K H (.int i) "str" false := ⟨_, .int i, by with_unfolding_all rfl⟩
theorem isi_bb {i : Bool} : Isi K H (.bl i) "bool" true := ⟨_, .bl i, rfl⟩
theorem isi_bi {i : Bool} : Isi K H (.bl i) "int" true := ⟨_, .bl i, by with_unfolding_all rfl⟩
theorem isi_bs {i : Bool} : Isi K H (.bl i) "str" false := ⟨_, .bl i, by with_unfolding_all rfl⟩
theorem isi_ss {i : Str} : Isi K H (.str i) "str" true := ⟨_, .str i, rfl⟩
theorem isi_si {i : Str} : Isi K H (.str i) "int" false := ⟨_, .str i, by with_unfolding_all rfl⟩
theorem isi_sb {i : Str} : Isi K H (.str i) "bool" false := ⟨_, .str i, by with_unfolding_all rfl⟩
theorem isi_ni : Isi K H .non "int" false := ⟨_, .non, by with_unfolding_all rfl⟩
theorem isi_ns : Isi K H .non "str" false := ⟨_, .non, by with_unfolding_all rfl⟩
theorem isi_lstl {a : Addr} {xs : List V} (e : H a = some (.lst xs)) : Isi K H (.ref a) "list" true := ⟨_, .lst e, rfl⟩
theorem isi_lsts {a : Addr} {xs : List V} (e : H a = some (.lst xs)) : Isi K H (.ref a) "str" false := ⟨_, .lst e, by with_unfolding_all rfl⟩
theorem isi_lsti {a : Addr} {xs : List V} (e : H a = some (.lst xs)) : Isi K H (.ref a) "int" false := ⟨_, .lst e, by with_unfolding_all rfl⟩
theorem isi_lstt {a : Addr} {xs : List V} (e : H a = some (.lst xs)) : Isi K H (.ref a) "tuple" false := ⟨_, .lst e, by with_unfolding_all rfl⟩
theorem isi_tupt {a : Addr} {xs : List V} (e : H a = some (.tup xs)) : Isi K H (.ref a) "tuple" true := ⟨_, .tup e, rfl⟩
theorem isi_tups {a : Addr} {xs : List V} (e : H a = some (.tup xs)) : Isi K H (.ref a) "str" false := ⟨_, .tup e, by with_unfolding_all rfl⟩
theorem isi_tupi {a : Addr} {xs : List V} (e : H a = some (.tup xs)) : Isi K H (.ref a) "int" false := ⟨_, .tup e, by with_unfolding_all rfl⟩
theorem isi_tupl {a : Addr} {xs : List V} (e : H a = some (.tup xs)) : Isi K H (.ref a) "list" false := ⟨_, .tup e, by with_unfolding_all rfl⟩
theorem isi_go {x : V} {n : String} {b : Bool} {R : Bool → Prop} (h : Isi K H x n b) (q : R b) : ∃ b, Isi K H x n b ∧ R b := ⟨b, h, q⟩
theorem len_goL {p : Addr} {xs : List V} {R : List V → Prop} (h : SqL K H p xs) (q : R xs) : ∃ ys, (SqL K H p ys ∨ SqT K H p ys) ∧ R ys := ⟨xs, .inl h, q⟩
theorem len_goT {p : Addr} {xs : List V} {R : List V → Prop} (h : SqT K H p xs) (q : R xs) : ∃ ys, (SqL K H p ys ∨ SqT K H p ys) ∧ R ys := ⟨xs, .inr h, q⟩
theorem ixT_of {p : Addr} {xs : List V} {i : Int} {v : V} {Q : VK} (h : SqT K H p xs) (e : atI xs i = some v) (q : Q v H) : rIxT K (.ref p) (.int i) H Q := ⟨p, xs, i, v, rfl, rfl, h, e, q⟩
theorem ixL_of {p : Addr} {xs : List V} {i : Int} {v : V} {Q : VK} (h : SqL K H p xs) (e : atI xs i = some v) (q : Q v H) : rIxL K (.ref p) (.int i) H Q := ⟨p, xs, i, v, rfl, rfl, h, e, q⟩
end

theorem atI_of {α : Type} {xs : List α} {i : Int} {v : α} (h0 : 0 ≤ i) (h : xs[i.toNat]? = some v) : atI xs i = some v := by
  unfold atI ixN
  have hl : i.toNat < xs.length := (List.getElem?_eq_some_iff.mp h).1
  rw [if_pos h0, if_pos (show i < xs.length by omega)]
  exact h
theorem cxOf_K {CX : CXT} {P : Program} {w : World} {K : PySem.W.Frag} {mg : Str → Option Value} {base : Heap} {N : List Str} {qual : Str} {scope : Scope} {f : Addr} {cd : Value} {A : Around} {outer : List Env} {s : Shared} {H : Hp} {E : XK} :
    (cxOf CX P w K mg base N qual scope f cd A outer s H E).K = K := rfl
theorem getMap {ns : List Int} {k : Nat} (h : k < ns.length) : (ns.map V.int)[k]? = some (V.int (ns.getD k 0)) := by
  rw [List.getElem?_map, List.getD_eq_getElem?_getD, List.getElem?_eq_getElem h]; rfl
theorem Same.tup {K : PySem.W.Frag} {H H' : Hp} {a : Addr} {xs : List V} (e : Same H H') (h : SqT K H a xs) : SqT K H' a xs := by
  rcases h with (h | ⟨o, h⟩) | h
  · exact .inl (.inl (e _ _ h))
  · exact .inl (.inr ⟨o, e _ _ h⟩)
  · exact .inr h
theorem Same.new {H : Hp} {p : Addr} {o : HO} (h : H p = none) : Same H (upd H p o) := fun b u e => by
  rw [upd_ne (ne_of_none e h)]; exact e

section
variable {σ : St} {H : Hp} {Q : VK} {QT : Bool → Hp → Prop} {QA : List V → Hp → Prop} {D : Ends} {K : PySem.W.Frag}
theorem rd_asg {te : TE} {g : TG} : tAsg te g D σ H = te σ H fun x H1 => g x σ H1 D.nx := rfl
theorem rd_var {i : Nat} : tVar i σ H Q = ∃ v, σ[i]? = some (some v) ∧ Q v H := rfl
theorem rd_c {v : V} : tC v σ H Q = Q v H := rfl
theorem rd_op {r : R2} {ta tb : TE} : tOp r ta tb σ H Q = ta σ H fun x H1 => tb σ H1 fun y H2 => r x y H2 Q := rfl
theorem rd_I0 {g : Int → Int → V} {x y : V} : rI0 g x y H Q = ∃ i j, x = .int i ∧ y = .int j ∧ Q (g i j) H := rfl
theorem rd_I {C : Int → Int → Prop} {g : Int → Int → V} {x y : V} : rI C g x y H Q = ∃ i j, x = .int i ∧ y = .int j ∧ C i j ∧ Q (g i j) H := rfl
theorem rd_U {g : Int → V} {x : V} : rU g x H Q = ∃ i, x = .int i ∧ Q (g i) H := rfl
theorem rd_name {i : Nat} {v : V} {N : St → Hp → Prop} : gName i v σ H N = N (σ.set i (some v)) H := rfl
theorem rd_ifS {c : TT} {t u : TS} : tIfS c t u D σ H = c σ H fun b H1 => if b = true then t D σ H1 else u D σ H1 := rfl
theorem rd_test {t : TE} : tTest t σ H QT = t σ H fun x H' => ∃ k, x = .bl k ∧ QT k H' := rfl
theorem rd_b {t : TE} : tB t σ H QT = t σ H fun x H1 => ∃ c, x = .bl c ∧ QT c H1 := rfl
theorem rd_ret {te : TE} : tRet te D σ H = te σ H D.rt := rfl
theorem rd_next : tNext D σ H = D.nx σ H := rfl
theorem rd_cb {r : List V → Hp → VK → Prop} {t : TA} : tCB r t σ H Q = t σ H fun vs H1 => r vs H1 Q := rfl
theorem rd_cons {ta : TE} {tr : TA} : tCons ta tr σ H QA = ta σ H fun x H1 => tr σ H1 fun xs H2 => QA (x :: xs) H2 := rfl
theorem rd_nil : tNil σ H QA = QA [] H := rfl
theorem rd_call {sp : Sp} {E : XK} {t : TA} : tCallD sp E t σ H Q = t σ H fun vs H1 => sp vs H1 Q E := rfl
theorem rd_not {t : TT} : tNot t σ H QT = t σ H fun c H1 => QT (!c) H1 := rfl
theorem rd_or {t u : TT} : tOr t u σ H QT = t σ H fun c H1 => if c = true then QT true H1 else u σ H1 QT := rfl
theorem rd_and {t u : TT} : tAnd t u σ H QT = t σ H fun c H1 => if c = true then u σ H1 QT else QT false H1 := rfl
theorem rd_andV {ta tb : TE} : tAndV ta tb σ H Q = ta σ H fun x H1 => ∃ c, x = .bl c ∧ if c = true then tb σ H1 Q else Q (.bl false) H1 := rfl
theorem rd_orV {ta tb : TE} : tOrV ta tb σ H Q = ta σ H fun x H1 => ∃ c, x = .bl c ∧ if c = true then Q (.bl true) H1 else tb σ H1 Q := rfl
theorem rd_notV {ta : TE} : tNotV ta σ H Q = ta σ H fun x H1 => ∃ c, x = .bl c ∧ Q (.bl (!c)) H1 := rfl
theorem rd_un {r : V → Hp → VK → Prop} {ta : TE} : tUn r ta σ H Q = ta σ H fun x H1 => r x H1 Q := rfl
theorem rd_eq {x y : V} : rEq x y H Q = (scal x y = true ∧ Q (.bl (decide (x = y))) H) := rfl
theorem rd_ne {x y : V} : rNe x y H Q = (scal x y = true ∧ Q (.bl (!decide (x = y))) H) := rfl
theorem rd_lst {t : TA} : tLst t σ H Q = t σ H fun xs H1 => xs.length ≤ sizeLine ∧ ∀ p, H1 p = none → Q (.ref p) (upd H1 p (.lst xs)) := rfl
theorem rd_rng1 {ta : TA} {R : It → Hp → Prop} : iRng1 ta σ H R = ta σ H fun vs H1 => ∃ j : Int, vs = [.int j] ∧ -(2 ^ 62) ≤ j ∧ j < 2 ^ 62 ∧ R (Itr 0 j.toNat) H1 := rfl
noncomputable def ForTail (g : TG) (tb : TS) (D : Ends) (σ : St) : It → Hp → Prop := fun J H1 => ∃ W : Nat → Nat → St → Hp → Prop, (∃ m, W 0 m σ H1) ∧ ∀ i m σ H, W i m σ H →
  (J.stop i H ∧ D.nx σ H) ∨ (J.go i H ∧ ∃ N : St → Hp → Prop, (∀ σ' H', N σ' H' → ∃ m', m' < m ∧ W (i + 1) m' σ' H') ∧ ∀ x H', J.yld i H x H' → g x σ H' fun σ2 H2 => tb { D with nx := N, ct := N, bk := D.nx } σ2 H2)
theorem rd_for' {wi : TI} {g : TG} {tb : TS} : tFor wi g tb D σ H = wi σ H (ForTail g tb D σ) := rfl
theorem forR_by {lo : Int} {n : Nat} {g : TG} {tb : TS} (Pv : Nat → St → Hp → Prop) (h0 : Pv 0 σ H)
    (hs : ∀ i σ H, i < n → Pv i σ H → g (.int (lo + i)) σ H fun σ2 H2 => tb { D with nx := Pv (i + 1), ct := Pv (i + 1), bk := D.nx } σ2 H2) (hd : ∀ σ H, Pv n σ H → D.nx σ H) : ForTail g tb D σ (Itr lo n) H := for_range Pv h0 hs hd
theorem seq_go {t u : TS} (h : ∀ rest : St → Hp → Prop, rest = u D → t { D with nx := rest } σ H) : tSeq t u D σ H := h _ rfl
theorem leaf_go {rest r : St → Hp → Prop} (h : rest = r) (q : r σ H) : rest σ H := by rw [h]; exact q
theorem cell_go {a : Addr} {ns : List Int} {k : Int} {R : List Int → Prop} (h : SqL K H a (ns.map V.int)) (h0 : 0 ≤ k) (hl : ns.length ≤ 63) (q : R ns) : ∃ x : List Int, SqL K H a (x.map V.int) ∧ 0 ≤ k ∧ x.length ≤ 63 ∧ R x := ⟨ns, h, h0, hl, q⟩
theorem cdiv_of {i j : Int} (h1 : 0 < j) (h2 : j < 1073741824) : CDiv i j := ⟨h1, h2⟩
theorem cpow_of {i j : Int} (h1 : 0 ≤ j) (h2 : j ≤ 1000000) (h3 : i.natAbs < 2 ^ 64) : CPow i j := ⟨h1, h2, h3⟩
theorem cmul_l {i j : Int} (h1 : -(2 ^ 64) < i) (h2 : i < 2 ^ 64) : CMul i j := .inl ⟨h1, h2⟩
theorem cmul_r {i j : Int} (h1 : -(2 ^ 64) < j) (h2 : j < 2 ^ 64) : CMul i j := .inr ⟨h1, h2⟩
end
end L2

set_option Elab.async false
set_option linter.all false
set_option maxRecDepth 100000
set_option maxHeartbeats 4000000
namespace L2
open PySem PySem.Spec PyProof.Rows

section
variable {P : Program} {w : World} {H : Hp} {h : Heap} {a : Addr} {o : HO}
theorem ObjOk.there (x : ObjOk P w H h a o) : ∃ ob, h.get? a = some ob := by
  cases o with
  | lst xs => obtain ⟨_, _, _, _, e⟩ := x; exact ⟨_, e⟩
  | tup xs => obtain ⟨_, _, _, _, e, _⟩ := x; exact ⟨_, e⟩
  | dK kvs => obtain ⟨_, _, _, _, _, _, _, e, _⟩ := x; exact ⟨_, e⟩
  | dT kvs => obtain ⟨_, _, _, _, _, _, _, e, _⟩ := x; exact ⟨_, e⟩
  | set S n => obtain ⟨_, _, _, _, e, _⟩ := x; exact ⟨_, e⟩
  | ins C dx fs => obtain ⟨_, _, _, e, _⟩ := x; exact ⟨_, e⟩
  | own y => exact x
  | xd fs => obtain ⟨_, ⟨_, _, _, e, _⟩, _⟩ := x; exact ⟨_, e⟩
  | rng lo hi => obtain ⟨_, _, _, e⟩ := x; exact ⟨_, e⟩
  | frz ob u => exact ⟨_, x.1⟩
  | tbl ps => exact ⟨_, x⟩
  | met f y => exact ⟨_, x⟩
  | ext φ => exact x.2.1
theorem HOk.there (x : HOk P w H h) (e : H a = some o) : ∃ ob, h.get? a = some ob := (x a o e).there
end

noncomputable def Spares (fs : List Addr) (H' : Hp) (g h B : Heap) : Prop := ∀ b o, h.get? b = some o → b ∉ fs → (H' b ≠ none ∨ ∃ u, g.get? b = some u) → B.get? b = some o
section
variable {P : Program} {w : World}
theorem stay_of {fs : List Addr} {H0 H' : Hp} {g h h3 B : Heap} (u : Un fs [] H0 H' g h) (ok : HOk P w H' h)
    (hfr : ∀ b ∈ fs, ∃ o, g.get? b = some o ∧ ∀ vs, o.data ≠ .fields vs) (hf0 : ∀ b ∈ fs, H0 b = none) (hB : Spares fs H' g h B) (st : B.StaysIn h3) (up : h.UpToSlots h3) :
    Un fs [] H0 H' g h3 ∧ HOk P w H' h3 ∧ Spares fs H' g h3 B := by
  have fr' : ∀ b ∈ fs, H' b = none := fun b hb => by
    obtain ⟨o, ho, _⟩ := hfr b hb
    exact u.free b o ho (hf0 b hb) (by simp)
  have tr : ∀ b o, H' b = some o → b ∉ fs := fun b o e hb => by rw [fr' b hb] at e; cases e
  have kp : ∀ b ob, h.get? b = some ob → b ∉ fs → (H' b ≠ none ∨ ∃ u, g.get? b = some u) → h3.get? b = some ob := fun b ob e n c => st b ob (hB b ob e n c)
  have sl : ∀ b o, g.get? b = some o → H0 b = none → b ∈ fs → b ∉ ([] : List Addr) → ∃ sl, h3.get? b = some { o with slots := sl } := fun b o e n hb hx => by
    obtain ⟨sl, e1⟩ := u.slot b o e n hb hx
    obtain ⟨o', e', d⟩ := hfr b hb
    rw [e] at e'; cases e'
    obtain ⟨sl2, e2⟩ := up b _ e1 d
    exact ⟨sl2, e2⟩
  refine ⟨⟨fun b o e n hb hx => kp b o (u.keep b o e n hb hx) hb (.inr ⟨o, e⟩), sl, u.free, fun b o e hx => ?_, u.tups, u.frzs, u.tbls⟩, fun a o e => ?_, fun b o e hb c => ?_⟩
  · by_cases hb : b ∈ fs
    · obtain ⟨s1, e1⟩ := sl b o e (hf0 b hb) hb hx
      exact ⟨_, e1⟩
    · obtain ⟨o', e1⟩ := u.there b o e hx
      exact ⟨o', kp b o' e1 hb (.inr ⟨o, e⟩)⟩
  · refine (ok a o e).stay (fun b v hc q => kp b v q ?_ (.inl ?_)) (fun _ q => q) fun _ _ q => q
    · rcases hc with rfl | hc
      · exact tr _ _ e
      · exact tr _ _ hc
    · rcases hc with rfl | hc
      · rw [e]; simp
      · rw [hc]; simp
  · have z : ∃ o1, h.get? b = some o1 := by
      rcases c with c | ⟨u0, e0⟩
      · cases q : H' b with
        | none => exact absurd q c
        | some v => exact ok.there q
      · exact u.there b u0 e0 (by simp)
    obtain ⟨o1, e1⟩ := z
    have e2 := kp b o1 e1 hb c
    rw [e] at e2; cases e2
    exact hB b o e1 hb c
end
section
variable {X : Cx} {pins : List (Addr × Obj)} {σ : St} {H1 H2 : Hp} {s1 : Shared} {h2 h3 B : Heap}
theorem Inv.frm (I : Inv X pins σ H1 s1) : ∀ b ∈ frs X.stack, ∃ o, s1.heap.get? b = some o ∧ ∀ vs, o.data ≠ .fields vs := fun b hb => (I.stack.mem hb).2
theorem leave_of (I : Inv X pins σ H1 s1) (hex : X.ex = []) (u : Un (frs X.stack) [] H1 H2 s1.heap h2) (ok : HOk X.prog X.w H2 h2) (hB : Spares (frs X.stack) H2 s1.heap h2 B) (st : B.StaysIn h3) (up : h2.UpToSlots h3) :
    Un X.fs [] X.H₀ H2 X.s₀.heap h3 ∧ HOk X.prog X.w H2 h3 ∧ Spares X.fs H2 X.s₀.heap h3 B := by
  obtain ⟨U, ok3, hB3⟩ := stay_of u ok I.frm I.stkFree hB st up
  have bs := I.base
  rw [hex] at bs
  have nl : ∀ b o, X.s₀.heap.get? b = some o → b ≠ X.env.locals := fun b o e => Nat.ne_of_lt (Nat.lt_of_lt_of_le (Heap.lt_size e) I.ok.above)
  have ns : ∀ b o, X.s₀.heap.get? b = some o → b ∉ X.fs → b ∉ frs X.stack := fun b o e n hb => (List.mem_cons.mp (I.stkSub b hb)).elim (nl b o e) n
  have sub : ∀ b ∈ X.fs, b ∈ frs X.stack := fun b hb => by
    rcases I.ok.stk with e | ⟨e, hf⟩
    · rw [e]; exact hb
    · rw [e]; unfold frs; rw [List.filterMap_cons, hf]; exact List.mem_cons_of_mem _ hb
  have nt : ∀ b, H2 b ≠ none → b ∉ frs X.stack := fun b c hb => by
    obtain ⟨o, ho, _⟩ := I.frm b hb
    exact c (U.free b o ho (I.stkFree b hb) (by simp))
  refine ⟨⟨fun b o e n hb hx => ?_, fun b o e n hb hx => ?_, fun b o e n hx => ?_, fun b o e hx => ?_, fun b xs e => U.tups b xs (bs.tups b xs e), fun b o v e => U.frzs b o v (bs.frzs b o v e), fun b ps e => ?_⟩, ok3, fun b o e hb c => ?_⟩
  · exact U.keep b o (bs.keep b o e n hb hx) (bs.free b o e n hx) (ns b o e hb) hx
  · obtain ⟨sl, e1⟩ := bs.slot b o e n hb hx
    obtain ⟨sl2, e2⟩ := U.slot b _ e1 (bs.free b o e n hx) (sub b hb) hx
    exact ⟨sl2, e2⟩
  · obtain ⟨o', e1⟩ := bs.there b o e hx
    exact U.free b o' e1 (bs.free b o e n hx) hx
  · obtain ⟨o', e1⟩ := bs.there b o e hx
    exact U.there b o' e1 hx
  · obtain ⟨m1, e1⟩ := bs.tbls b ps e
    obtain ⟨m2, e2⟩ := U.tbls b _ e1
    exact ⟨m1 ++ m2, by rw [e2, Array.append_assoc]⟩
  · rcases c with c | ⟨v, e0⟩
    · exact hB3 b o e (nt b c) (.inl c)
    · obtain ⟨o', e1⟩ := bs.there b v e0 (by simp)
      exact hB3 b o e (ns b v e0 hb) (.inr ⟨o', e1⟩)
end

section
variable {P : Program} {w : World} {K : PySem.W.Frag} {mg : Str → Option Value} {base : Heap} {N : List Str} {qual : Str} {scope : Scope} {f : Addr} {cd : Value} {A : Around} {outer : List Env} {s : Shared} {H : Hp} {E : XK}
end
end L2

set_option Elab.async false
set_option linter.all false
set_option maxRecDepth 100000
set_option maxHeartbeats 4000000
namespace L2
open PySem PySem.Spec PyProof.Rows

structure ExcC (K : PySem.W.Frag) (C : Addr) : Prop where
  at_ : ∀ h : Heap, K.In h → ∃ (nm q : Str) (N : Addr) (bs bm : List Value) (hdct : Bool) (sn : List Str) (sub : List Value) (ab : Bool) (col : Option Bool) (dd : Option Addr) (k0 k1 k2 k3 k5 : Option Value) (mN : Str → Option Value),
    h.get? C = some (excClassObj nm q C N bs bm hdct sn sub ab col dd k0 k1 k2 k3 k5 "ValueError.__new__") ∧ h.Ns N mN ∧ mN "__init__" = none ∧
    OwnTail h [.type "ValueError", .type "Exception", .type "BaseException", .type "object"] bm
section
variable {X : Cx} {EE : St → XK} {C : Addr} {x : Str} {np cpos pos : Pos} {e : Expr} {es : List Expr} {t : TA}
end
section
variable {P : Program} {w : World} {K : PySem.W.Frag} {mg : Str → Option Value} {base : Heap} {N : List Str} {qual : Str} {scope : Scope} {f : Addr} {cd : Value} {A : Around} {outer : List Env} {s : Shared} {H : Hp} {E : XK}
end

noncomputable def PassesS (CX : CXT) (X : Cx) (EE : St → XK) : Prop := ∀ (pins : List (Addr × Obj)) (σ : St) (H : Hp) (s : Shared) (e : Value) (s' : Shared), Inv X pins σ H s → CX X.stack H s (EE σ) e s' → X.xe e s'
section
variable {X : Cx} {CX : CXT} {k j : Nat} {ps : List Str} {sp : Sp} {EE : St → XK} {x : Str} {p pos : Pos} {e : Expr} {es : List Expr} {t : TA}
end

structure Air (X : Cx) (pins : List (Addr × Obj)) (σ : St) (H : Hp) (x : Addr) (cls : Value) (s : Shared) : Prop where
  ex : ∃ (H0 : Hp) (s0 : Shared) (a0 : Value) (B : Heap), Inv X pins σ H0 s0 ∧ s.os = s0.os ∧ AllBare s.gens ∧ Un (frs X.stack) [] H0 H s0.heap s.heap ∧ HOk X.prog X.w H s.heap ∧
    Heap.FlyingW B X.stack x cls a0 s.heap ∧ Spares (frs X.stack) H s0.heap s.heap B ∧ H x = none ∧ s0.heap.get? x = none
section
variable {X : Cx} {pins : List (Addr × Obj)} {σ : St} {H : Hp} {x : Addr} {cls : Value} {s : Shared}
end
section
variable {X : Cx} {pins : List (Addr × Obj)} {σ : St} {H : Hp} {x : Addr} {cls : Value} {s : Shared}
end

noncomputable abbrev TH := Value → Addr → TS
section
variable {X : Cx} {C : Str} {c : Value} {np pos : Pos} {b₀ : Stmt} {suite : List Stmt} {rest : List ExceptHandler} {ts : TS} {tr : TH}
end

section
variable {X : Cx} {pins : List (Addr × Obj)} {σ : St} {H : Hp} {x : Addr} {cls : Value} {s : Shared}
end
section
variable {X : Cx} {C n : Str} {c : Value} {i : Nat} {np pos : Pos} {b₀ : Stmt} {suite : List Stmt} {rest : List ExceptHandler} {ts : TS} {tr : TH}
end

section
variable {X : Cx} {body : List Stmt} {h₀ : ExceptHandler} {hs : List ExceptHandler} {pos : Pos} {tb : (St → XK) → TS} {th : TH} {pins : List (Addr × Obj)} {σ : St} {H : Hp} {s : Shared} {pn : List (Addr × Obj)} {xe : Value → Shared → Prop}
end
end L2

set_option Elab.async false
set_option linter.all false
set_option maxRecDepth 100000
set_option maxHeartbeats 4000000
namespace L2
open PySem PySem.Spec PyProof.Rows PySem.W

section
variable {X : Cx}
end

noncomputable def strKeysB (es : Array DictEntry) : Bool := es.toList.all fun e => match e.key with
  | .str _ _ => true
  | _ => false
theorem strKeys_of {es : Array DictEntry} (h : strKeysB es = true) : StrKeys es := fun e he => by
  have z := List.all_eq_true.mp h e (by simpa using he)
  cases k : e.key with
  | str n t => exact ⟨n, t, rfl⟩
  | _ => rw [k] at z; cases z
theorem ns_of {K : Frag} {h : Heap} {N : Addr} {oc : Value} {od : Option Addr} {es : Array DictEntry} {ep : Nat} {sl : Array (Option Value)} (X : K.In h) (l : K.lookup N = some ⟨oc, od, .dict es ep, sl⟩) (k : strKeysB es = true) : h.Ns N (nsFind es) :=
  ⟨_, es, ep, X _ _ l, rfl, strKeys_of k, fun _ => rfl⟩
theorem excC_of {K : Frag} {C N A : Addr} {nm q : Str} {bs : List Value} {hdct : Bool} {sn : List Str} {sub : List Value} {ab : Bool} {col : Option Bool} {dd : Option Addr} {k0 k1 k2 k3 k5 : Option Value} {oc c0 oc2 : Value} {od dA od2 : Option Addr} {es es2 : Array DictEntry} {ep ep2 : Nat} {sl slA sl2 : Array (Option Value)} {cdA : ClassData}
    (lC : K.lookup C = some (excClassObj nm q C N bs [.ref A, .type "ValueError", .type "Exception", .type "BaseException", .type "object"] hdct sn sub ab col dd k0 k1 k2 k3 k5 "ValueError.__new__"))
    (lN : K.lookup N = some ⟨oc, od, .dict es ep, sl⟩) (sN : strKeysB es = true) (iN : nsFind es "__init__" = none) (lA : K.lookup A = some ⟨c0, dA, .cls cdA, slA⟩) (lNA : K.lookup cdA.ns = some ⟨oc2, od2, .dict es2 ep2, sl2⟩) (sNA : strKeysB es2 = true) (iNA : nsFind es2 "__init__" = none) : ExcC K C :=
  ⟨fun h X => ⟨nm, q, N, bs, _, hdct, sn, sub, ab, col, dd, k0, k1, k2, k3, k5, nsFind es, X _ _ lC, ns_of X lN sN, iN, .own (X _ _ lA) (ns_of X lNA sNA) iNA .base⟩⟩
theorem kit_sub {K : Frag} {C : Addr} {T : String} {b : Bool} (m : kitMeta T = true) (s : subIn K (.ref C) (.type T) = some b) : kitOne K (.ref C) (.type T) = some b := by
  unfold kitOne kitCls
  rw [if_neg (by simp)]
  dsimp only
  rw [if_pos m]
  exact s
theorem kit_VE {K : Frag} {C : Addr} {b : Bool} (s : subIn K (.ref C) (.type "ValueError") = some b) : kitOne K (.ref C) (.type "ValueError") = some b := kit_sub (by decide +kernel) s

section
variable {σ : St} {H : Hp} {Q : VK} {D : Ends} {K : Frag}
end

end L2

set_option Elab.async false
set_option linter.all false
set_option maxRecDepth 100000
set_option maxHeartbeats 4000000
namespace L2
open PySem PySem.Spec PyProof.Rows

structure Blk where
  s : Shared
  H : Hp
  C : Addr
  fp : List Addr
noncomputable def around (N : List Str) (fs : List Nat) : List Str := fs.map fun j => N.getD j ""
structure CompOk (N : List Str) (esc scope : Scope) (xs : List Str) (fs : List Nat) : Prop where
  nd : (xs ++ around N fs).Nodup
  kind : scope.kind = .function
  own : ∀ x ∈ xs, scope.names.lookup x = some .local
  cell : ∀ y ∈ scope.names, y.2 ≠ .cell
  names : ∀ y ∈ scope.names, y.2 = .local → scope.names.lookup y.1 = some .local
  free : ∀ y ∈ scope.names, y.2 = .free → esc.names.lookup y.1 = some .cell ∨ esc.names.lookup y.1 = some .free
  fs : ∀ j ∈ fs, j < N.length ∧ scope.names.lookup (N.getD j "") = some .free
section
variable {X : Cx} {pins : List (Addr × Obj)} {σ : St} {H : Hp} {s : Shared} {scope : Scope} {xs : List Str} {fs : List Nat} {fp : List Addr} {C : Addr}
end
end L2

set_option Elab.async false
set_option linter.all false
set_option maxRecDepth 100000
set_option maxHeartbeats 4000000
namespace L2
open PySem PySem.Spec PyProof.Rows

section
variable {X : Cx} {pins : List (Addr × Obj)} {σ : St} {scope : Scope} {xs : List Str} {fs : List Nat} {elt tg iter : Expr} {ifs : List Expr} {pos : Pos} {wi : TI} {g : Blk → TG} {tt : Blk → TT} {te : Blk → TE}
end
end L2

set_option Elab.async false
set_option linter.all false
set_option maxRecDepth 100000
set_option maxHeartbeats 4000000
namespace L2
open PySem PySem.Spec PyProof.Rows

section
variable {P : Program} {w : World} {K : PySem.W.Frag} {tg : Expr}
end
section
variable {X : Cx} {tg : Expr}
noncomputable def rSlS : V → Option Int → Option Int → Hp → VK → Prop := fun x lo hi H Q => ∃ z, x = .str z ∧ z.length ≤ sizeLine ∧ Q (.str (Txt.slice z lo hi)) H
theorem sl_str : SlR X rSlS := by
  intro pins s σ H x v vl vu lo hi sl Q I rx hs pl pu h
  obtain ⟨z, rfl, hz, q⟩ := h
  obtain ⟨t, rfl⟩ := rx
  obtain ⟨o, ho, hc, hd⟩ := hs
  refine ⟨"str", _, F.slot_str_getitem.lookup, typeIs_str _ _ _, ?_⟩
  have fin : ∀ (l u : Option (Int × Tok)), s.heap.IsSlice sl l u none → l.map (·.1) = lo → u.map (·.1) = hi → wpAny (model X.prog X.w) X.A (getItem (.str z t) (.ref sl)) (EP X pins σ Q) X.xe s := fun l u hsl hl hu => by
    subst hl hu
    exact wpAny_getItem_str_slice (l := l) (u := u) (st := none) hsl rfl (post_val_or_str ⟨Nat.le_trans (Txt.slice_le z _ _) hz, fun t' k => ⟨.str _, H, I.tok k, ⟨t', rfl⟩, q⟩⟩)
  cases pl <;> cases pu
  · exact fin none none ⟨o, ho, hc, hd⟩ rfl rfl
  · exact fin none (some (_, _)) ⟨o, ho, hc, hd⟩ rfl rfl
  · exact fin (some (_, _)) none ⟨o, ho, hc, hd⟩ rfl rfl
  · exact fin (some (_, _)) (some (_, _)) ⟨o, ho, hc, hd⟩ rfl rfl

end
noncomputable abbrev TJ := Str → St → Hp → (Str → Hp → Prop) → Prop
section
variable {X : Cx} {e v₁ v₂ : Expr} {es : List Expr} {te : TE} {tr t : TJ} {pos : Pos}
end
end L2

set_option Elab.async false
set_option linter.all false
set_option maxRecDepth 100000
set_option maxHeartbeats 4000000
namespace L2
open PySem PySem.Spec PyProof.Rows

section
variable {X : Cx} {scope : Scope} {x : Str} {px : Pos} {fs : List Nat} {elt iter : Expr} {pos : Pos} {wi : TI} {te : Blk → TE}
end
section
variable {K : PySem.W.Frag} {tail : St} {te : Blk → TE} {Q : VK} {H1 : Hp}
end

section
variable {σ : St} {H : Hp} {Q : VK} {D : Ends} {K : PySem.W.Frag}
theorem rd_sl {r : V → Option Int → Option Int → Hp → VK → Prop} {te : TE} {tl th : TO} : tSl r te tl th σ H Q = te σ H fun x H1 => tl σ H1 fun l H2 => th σ H2 fun u H3 => r x l u H3 Q := rfl
theorem rd_noPart {QO : Option Int → Hp → Prop} : tNoPart σ H QO = QO none H := rfl
theorem rd_part {t : TE} {QO : Option Int → Hp → Prop} : tPart t σ H QO = t σ H fun x H1 => ∃ i, x = .int i ∧ QO (some i) H1 := rfl
theorem rd_slS {x : V} {lo hi : Option Int} : rSlS x lo hi H Q = ∃ z, x = .str z ∧ z.length ≤ sizeLine ∧ Q (.str (Txt.slice z lo hi)) H := rfl
theorem ixS_of {z : Str} {i : Int} {c : Nat} (hz : z.length ≤ sizeLine) (e : atI z.cps.toList i = some c) (q : Q (.str ⟨#[c]⟩) H) : rIxS (.str z) (.int i) H Q := ⟨z, i, c, rfl, rfl, hz, e, q⟩
end
section
variable {X : Cx} {x : Str} {pos : Pos}
end
theorem line_val : sizeLine = 16777216 := by decide
theorem len_app {a b : Str} : (a ++ b).length = a.length + b.length := strLen_append a b
theorem len_one {c : Nat} : (⟨#[c]⟩ : Str).length = 1 := rfl
theorem script_go {K : PySem.W.Frag} {H : Hp} {a : Addr} {ns : List Int} {R : List Int → Prop} (h : SqL K H a (ns.map V.int)) (hl : ns.length ≤ 63) (q : R ns) : ∃ x : List Int, SqL K H a (x.map V.int) ∧ x.length ≤ 63 ∧ R x := ⟨ns, h, hl, q⟩
end L2

set_option Elab.async false
set_option linter.all false
set_option maxRecDepth 100000
set_option maxHeartbeats 4000000
namespace L2
open PySem PySem.Spec PyProof.Rows

section
variable {X : Cx} {pins : List (Addr × Obj)} {σ : St} {H : Hp} {s : Shared}
end
section
variable {K : PySem.W.Frag} {H : Hp} {Q : VK} {x y : V}
end
end L2

set_option Elab.async false
set_option linter.all false
set_option maxRecDepth 100000
set_option maxHeartbeats 4000000
namespace L2
open PySem PySem.Spec PyProof.Rows

structure TryB where
  pn : List (Addr × Obj)
  xe : Value → Shared → Prop
  EE : St → XK
section
variable {X : Cx} {C n : Str} {c : Value} {i : Nat} {np pos : Pos} {b₀ : Stmt} {suite : List Stmt} {rest : List ExceptHandler} {ts : Addr → TS} {tr : TH}
end
section
variable {σ : St} {H : Hp} {D : Ends} {K : PySem.W.Frag}
end
end L2

set_option Elab.async false
set_option linter.all false
set_option maxRecDepth 100000
set_option maxHeartbeats 4000000
namespace L2
open PySem PySem.Spec PyProof.Rows

structure DefM (P : Program) (w : World) (K : PySem.W.Frag) (mg : Str → Option Value) (base : Heap) (CX : CXT) (k : Nat) (C : Addr) (m : Str) (ps : List Str) (sp : Sp) : Prop where
  ex : ∃ (f : Addr) (fd : FuncData), FnOk P w K mg base CX k f fd ps sp ∧ Meth K C m f ∧ Binds K fd ps []
structure DefI (P : Program) (w : World) (K : PySem.W.Frag) (mg : Str → Option Value) (base : Heap) (CX : CXT) (k : Nat) (x : Str) (C : Addr) (ps : List Str) (sp : Sp) : Prop where
  ex : ∃ (f : Addr) (fd : FuncData), FnOk P w K mg base CX k f fd ps sp ∧ Mk K C f ∧ mg x = some (.ref C) ∧ Binds K fd ps []
section
variable {X : Cx} {CX : CXT} {k j : Nat} {f C : Addr} {fd : FuncData} {ps : List Str} {sp : Sp} {EE : St → XK} {E : XK} {x m : Str} {p pos apos : Pos} {e o : Expr} {es : List Expr} {ta : TE} {t : TA}
theorem passS (h : Passes CX X E) : PassesS CX X fun _ => E := fun pins σ H s e s' I hc => h pins σ H s e s' I hc
theorem run_fnS {pins : List (Addr × Obj)} {σ : St} {H : Hp} {s : Shared} {Q : VK} {us : List Value} {vs : List V} (F : FnOk X.prog X.w X.K X.mg X.base CX k f fd ps sp) (hr : Room k X.A) (hb : Binds X.K fd ps []) (hx : PassesS CX X EE)
    (I : Inv X pins σ H s) (r : Vals vs us) (h : sp vs H Q (EE σ)) : wpAny (model X.prog X.w) X.A (call (.ref f) us) (EP X pins σ Q) X.xe s := by
  have hl : us.length = ps.length := by rw [← r.length]; exact F.len _ _ _ _ h
  have hb' := hb s us I.kIn (by simpa using hl)
  rw [List.append_nil] at hb'
  refine wpAny_call (codeAny_mono (F.run X.A X.stack s H ⟨us, []⟩ us vs Q (EE σ) hr I.env0 hb' r h) fun r s' hq => ?_)
  cases r with
  | error e => exact hx pins σ H s e s' I hq
  | ok fl =>
    cases fl with
    | ret u => exact I.after hq
    | next => exact False.elim hq
    | brk => exact False.elim hq
    | cont => exact False.elim hq
end
section
variable {σ : St} {H : Hp} {Q : VK} {D : Ends} {K : PySem.W.Frag}
end
theorem le_app {a b : Str} {n : Nat} (h1 : a.length ≤ n / 2) (h2 : b.length ≤ n / 2) : (a ++ b).length ≤ n := by
  rw [len_app]; omega
end L2

set_option linter.all false
set_option maxHeartbeats 1000000
namespace N1
open PySem L2
noncomputable def letters : List Nat := List.range' 97 26
noncomputable def figures : List Nat := List.range' 48 10
theorem let_list : (Str.ofString "abcdefghijklmnopqrstuvwxyz").cps.toList = letters := by decide +kernel
theorem let_len : (Str.ofString "abcdefghijklmnopqrstuvwxyz").length = 26 := by decide +kernel
noncomputable def headIn (l : List Nat) (s : List Nat) : Bool := match l with
  | [] => false
  | c :: _ => decide (c ∈ s)
noncomputable def nameB (l : List Nat) : Bool := decide (1 ≤ l.length) && decide (l.length ≤ 8) && headIn l letters && l.all fun c => decide (c ∈ letters ++ figures)
end N1

set_option linter.all false
set_option maxHeartbeats 1000000
namespace N1
open PySem L2
end N1

set_option linter.all false
set_option maxHeartbeats 1000000
namespace N1
open PySem L2
noncomputable def tx (l : List Nat) : Str := ⟨l.toArray⟩
inductive AskR where
  | ok (ps : List (List Nat))
  | many
  | noname
noncomputable def bc (i : Int) : Nat := (letters ++ figures).getD i.toNat 0
end N1

set_option linter.all false
set_option maxHeartbeats 1000000
namespace N1
open PySem PySem.Spec PyProof.Rows L2
noncomputable def sp_cell (K : PySem.W.Frag) : Sp := fun vs H Q _ => ∃ (a : Addr) (ns : List Int) (k : Int), vs = [.ref a, .int k] ∧ SqL K H a (ns.map V.int) ∧ 0 ≤ k ∧ ns.length ≤ 63 ∧ Q (.int (ns.getD k.toNat 0)) H
noncomputable def sp_law (K : PySem.W.Frag) : Sp := fun vs H Q _ => ∃ (a : Addr) (ns : List Int), vs = [.ref a] ∧ SqL K H a (ns.map V.int) ∧ ns.length ≤ 63 ∧ ∀ H', Q (.bl true) H'
end N1

set_option linter.all false
set_option maxHeartbeats 1000000
namespace N1
open PySem PySem.Spec PyProof.Rows L2
inductive StE where
  | noname | twice | nonum | many
noncomputable def nOk : V → Bool
  | .str z => nameB z.cps.toList
  | _ => false
noncomputable def sOf : V → Str
  | .str z => z
  | _ => Str.empty
noncomputable def wIn (lo hi : Int) : V → Bool
  | .int i => decide (lo ≤ i) && decide (i ≤ hi)
  | _ => false
noncomputable abbrev Rw := Addr × V × V × V
noncomputable abbrev Th := Str × Int × Int
noncomputable def flds (d : Addr) : List (Str × V) := putF "things" (.ref d) []
structure StockAt (K : PySem.W.Frag) (C : Addr) (H : Hp) (p : Addr) (ts : List Th) : Prop where
  ex : ∃ (dx d : Addr) (kvs : List (Key × V)), H p = some (.ins C dx (flds d)) ∧ H d = some (.dK kvs) ∧ kvs.map (·.1) = ts.map (fun t => Sum.inr t.1) ∧
    ∀ (i : Nat) (t : Th), ts[i]? = some t → ∃ a, kvs[i]? = some (Sum.inr t.1, .ref a) ∧ SqT K H a [.int i, .int t.2.1, .int t.2.2]
noncomputable def iOf : V → Int
  | .int i => i
  | _ => 0
noncomputable def nmsOf (rs : List Rw) : List Str := rs.map fun t => sOf t.2.1
structure MidAt (K : PySem.W.Frag) (H : Hp) (d : Addr) (rs : List Rw) : Prop where
  ex : ∃ kvs : List (Key × V), H d = some (.dK kvs) ∧ kvs.map (·.1) = (nmsOf rs).map Sum.inr ∧ ∀ (j : Nat) (t : Rw), rs[j]? = some t → ∃ a, kvs[j]? = some (Sum.inr (sOf t.2.1), .ref a) ∧ SqT K H a [.int j, .int (iOf t.2.2.1), .int (iOf t.2.2.2)]
end N1

set_option linter.all false
set_option maxHeartbeats 1000000
namespace L2
open PySem PySem.Spec PyProof.Rows
section
variable {X : Cx} {pins : List (Addr × Obj)} {σ : St} {H : Hp} {s : Shared}
theorem pa_consK {c : Const} {j pos} {es : List Expr} {te : TE} {t : TA} (ha : PE X (.Constant c j pos) te) (hr : PA X es t) : PA X (.Constant c j pos :: es) (tCons te t) := pa_cons ha hr rfl
end
end L2
namespace N5
open PySem PySem.Spec PyProof.Rows L2 N1
structure Good (ys : List Str) (i : Nat) (t : Rw) : Prop where
  n : ∃ z, ys[i]? = some z ∧ t.2.1 = .str z
  c : ∃ c, t.2.2.1 = .int c ∧ 0 ≤ c ∧ c ≤ 10 ^ 30
  r : ∃ r, t.2.2.2 = .int r ∧ 1 ≤ r ∧ r ≤ 1000
structure Kind (ys : List Str) (i : Nat) (ways : Int) (t : Rw) : Prop where
  n1 : ways % 2 = 1 → nOk t.2.1 = false
  n2 : ways % 2 = 0 → ways / 2 % 2 = 1 ∧ 0 < i → ∃ j z, j < i ∧ ys[j]? = some z ∧ t.2.1 = .str z
  n3 : ways % 2 = 0 → ¬ (ways / 2 % 2 = 1 ∧ 0 < i) → ∃ z, ys[i]? = some z ∧ t.2.1 = .str z
  c1 : ways / 4 % 2 = 1 → wIn 0 (10 ^ 30) t.2.2.1 = false
  c2 : ways / 4 % 2 = 0 → wIn 0 (10 ^ 30) t.2.2.1 = true
  r1 : ways / 8 % 2 = 1 → wIn 1 1000 t.2.2.2 = false
  r2 : ways / 8 % 2 = 0 → wIn 1 1000 t.2.2.2 = true
end N5

set_option Elab.async false
set_option linter.all false
set_option maxRecDepth 100000
set_option maxHeartbeats 4000000
namespace L2
open PySem PySem.Spec PyProof.Rows
open Sem (wp)

section
variable {Pg : Program} {w : World} {A : Around} {E : Value → Shared → Prop} {h : Heap} {g : Array GenState} {d : Drawn} {t : Nat} {os : OsState}
variable {nm q : Str} {C N : Addr} {bs bm bmB : List Value} {hd : Bool} {sn : List Str} {su : List Value} {ab : Bool} {co : Option Bool} {dd : Option Addr} {k0 k1 k2 k3 k5 : Option Value} {B nw ni : String}
noncomputable abbrev bareExc (h : Heap) (C : Addr) : Obj := { cls := .ref C, data := .fields #[.ref h.objs.size, .none, .none, .none, .bool false, .none] }
noncomputable abbrev twoMore (h : Heap) (C : Addr) (rest : List Value) : Heap := (h.push { cls := .type "tuple", data := .seq rest.toArray }).push (bareExc h C)
theorem keep2 {rest : List Value} : ∀ b o, h.get? b = some o → (twoMore h C rest).get? b = some o := fun _ _ e => Heap.get?_push_of_some _ (Heap.get?_push_of_some _ e)
theorem tcall_initT (F : ExcBaseFacts B nw ni bmB) (T : OwnTail h bmB bm) {mN : Str → Option Value} {rest : List Value} {fI : Addr} {oI : Obj} {Q : Fin → Shared → Prop}
    (kC : h.get? C = some (excClassObj nm q C N bs bm hd sn su ab co dd k0 k1 k2 k3 k5 nw)) (hn : h.Ns N mN) (hi : mN "__init__" = some (.ref fI)) (hf : h.get? fI = some oI) (hfc : oI.cls = .type "function")
    (hq : ∀ h' e, Heap.MadeExcOf h h' e (.ref C) rest → wpAny (model Pg w) A (call (.ref fI) (.ref e :: rest)) (fun r s' => r = .none ∧ Q (.done (.ret (.ref e))) s') E ⟨h', g, d, t, os⟩) (hz : rest.length ≤ sizeLine) :
    wpAny (model Pg w) A (Builtin.«type.__call__» ⟨.ref C :: rest, []⟩) Q E ⟨h, g, d, t, os⟩ := by
  repeat (first | with_reducible refine wpAny_loadPart_at kC ?_ | with_reducible refine wpAny_madeBy_exc kC ?_ | wp_step)
  refine codeAny_call_builtin_code (Code.quiet_builtin _ F.quiet) (wpAny_check_new_subT F T kC (codeAny_exc_new_subT F T kC ?_ hz))
  show wpAny _ _ _ _ _ _
  have c1 : (twoMore h C rest).get? C = some (excClassObj nm q C N bs bm hd sn su ab co dd k0 k1 k2 k3 k5 nw) := keep2 _ _ kC
  have c2 : (twoMore h C rest).get? fI = some oI := keep2 _ _ hf
  have c3 : (twoMore h C rest).Ns N mN := by obtain ⟨o, es, ep, e, r⟩ := hn; exact ⟨o, es, ep, keep2 _ _ e, r⟩
  have c4 : (twoMore h C rest).get? (h.objs.size + 1) = some (bareExc h C) := by heap_get
  have c5 : (Value.ref C :: bm).contains (.ref C) = true := by simp
  have T1 := T.keeps (keep2 (h := h) (C := C) (rest := rest))
  unfold isInstance
  repeat (first | with_reducible refine wpAny_loadPart_at c4 ?_ | (with_reducible refine wpAny_isSubtype_exc c1 ?_; rw [c5]) | wp_step)
  show wpAny _ _ (typeLookup (.ref C) _) _ _ _; refine wpAny_typeLookup_tail c1 c3 T1 F.mroIs F.init.lookup ?_
  rw [hi]
  refine wpAny_holding (wpAny_bind ?_); unfold bindSpecial
  refine wpAny_bind (wpAny_typeOf (T := "function") ⟨_, c2, hfc⟩ ?_)
  rw [if_pos (by decide)]
  have made : Heap.MadeExcOf h (twoMore h C rest) (h.objs.size + 1) (.ref C) rest := ⟨keep2, Heap.get?_none_of_le (Nat.le_succ _), h.objs.size, c4, Heap.get?_none_of_le (Nat.le_refl _), Heap.get?_push_of_some _ (Heap.get?_push_at rfl rfl)⟩
  refine wpAny_pure (wpAny_bind (wpAny_mono (hq _ _ made) (fun r s' hr => ?_) fun _ _ x => x))
  obtain ⟨rfl, hQ⟩ := hr
  wp_walk
  exact hQ
theorem call_initT (F : ExcBaseFacts B nw ni bmB) (T : OwnTail h bmB bm) {mN : Str → Option Value} {rest : List Value} {fI : Addr} {oI : Obj} {Q : Value → Shared → Prop}
    (kC : h.get? C = some (excClassObj nm q C N bs bm hd sn su ab co dd k0 k1 k2 k3 k5 nw)) (hn : h.Ns N mN) (hi : mN "__init__" = some (.ref fI)) (hf : h.get? fI = some oI) (hfc : oI.cls = .type "function")
    (hq : ∀ h' e, Heap.MadeExcOf h h' e (.ref C) rest → wpAny (model Pg w) (A.under (.builtin "type.__call__" ⟨.ref C :: rest, []⟩)) (call (.ref fI) (.ref e :: rest)) (fun r s' => r = .none ∧ Q (.ref e) s') E ⟨h', g, d, t, os⟩) (hz : rest.length ≤ sizeLine) :
    wpAny (model Pg w) A (call (.ref C) rest) Q E ⟨h, g, d, t, os⟩ := by
  have f1 := tc_lookup
  have f2 := tc_bind (.ref C)
  have f3 : (⟨h, g, d, t, os⟩ : Shared).TypeIs (.ref C) "type" := ⟨_, kC, rfl⟩
  refine wpAny_call (codeAny_of_tree ?_); show wpAny _ _ (callAny (.ref C) _) _ _ _
  repeat (any_goals (first | assumption | with_reducible refine wpAny_loadPart_at kC ?_ | wp_step))
  refine ⟨rfl, codeAny_call_builtin_at (Code.quiet_builtin _ (by decide +kernel)) entry_typeCall (wpAny_check_type_call_sub kC (tcall_initT F T kC hn hi hf hfc (fun h' e hm => ?_) hz))⟩
  exact hq h' e hm
end
section
open PySem.W PySem.Builtin PySem.Builtin.ObjectAttr
variable {Pg : Program} {w : World} {A : Around} {R : Result → Shared → Prop} {s : Shared} {K : Frag} {x C B : Addr} {ox : Obj} {od : Option Obj} {cd : ClassData} {f : Str} {tk : Tok} {v : Value}
noncomputable abbrev veTail : List Value := [.type "ValueError", .type "Exception", .type "BaseException", .type "object"]
theorem osa_exc (X : K.In s.heap) (I : PySem.W.InstAt s.heap x ox C od) (hc : clsIn K C = some cd) (hm0 : cd.mro = .ref C :: .ref B :: veTail) (ha : findIn K (.ref C) f = some none)
    (h : ∀ b, wpAny (model Pg w) A.in1 (storeInOwnDict (.ref x) (.ref C) (.str f tk) f v b) (fun fin s' => match fin with | .done r => R (.ok r) s' | .again c' => c'.quiet = true ∧ codeAny (model Pg w) A c' R s') (fun e s' => R (.error e) s') s) :
    codeAny (model Pg w) A (.call (.builtin "object.__setattr__") ⟨[.ref x, .str f tk, v], []⟩) R s := by
  have F1 := PySem.F.store_object
  have sub : Looks (model Pg w) s.heap (isInstance (.ref x) (.type "object")) true := I.type.andThen (looks_mroIn X (by unfold mroIn; rw [hc, Option.bind_some, hm0]; rfl))
  have lm : Looks (model Pg w) s.heap (mroOf (.ref C)) cd.mro := (looks_clsIn X hc).andThen .now
  refine codeAny_call_builtin F1.slot.plain F1.entry (@check_slot (model Pg w) _ _ s "object.__setattr__" "object" "__setattr__" (.ref x) [.str f tk, v] [] _ F1.kind F1.split sub (F1.args _ _ _) ?_)
  rw [osa_eq, refuse_eq]
  refine wpAny_bind (wpAny_bind (I.type.here (wpAny_bind (lm.here ?_))))
  rw [hm0, refuseLoop_ref, refuseLoop_ref, PySem.F.store_ValueError.passes]
  exact wpAny_pure (wpAny_bind (I.type.here (wpAny_bind ((looks_findIn X ha).here (wpAny_bind (wpAny_pure (h _)))))))
theorem set_exc0 {Q : Unit → Shared → Prop} {E : Value → Shared → Prop} {vs : Array Value} {sl : Array (Option Value)} (X : K.In s.heap) (hx : s.heap.get? x = some ⟨.ref C, none, .fields vs, sl⟩) (hs : findIn K (.ref C) "__setattr__" = some (some (.builtin "object.__setattr__")))
    (hc : clsIn K C = some cd) (hm0 : cd.mro = .ref C :: .ref B :: veTail) (hd : cd.hasDict = true) (ha : findIn K (.ref C) f = some none)
    (h : ∀ h', h'.get? x = some ⟨.ref C, some s.heap.objs.size, .fields vs, sl⟩ → h'.Ns1 s.heap.objs.size (fun y => if y = f then some v else none) → (∀ b o, b ≠ x → s.heap.get? b = some o → h'.get? b = some o) → Q () { s with heap := h', toks := s.toks + 2 }) :
    wpAny (model Pg w) A (setAttr (.ref x) f v) Q E s := by
  have J : PySem.W.InstAt s.heap x ⟨.ref C, none, .fields vs, sl⟩ C none := ⟨hx, rfl, rfl, trivial⟩
  refine set_plain X J hs (osa_exc (s := { s with toks := s.toks + 1 }) X J hc hm0 ha fun b => ?_)
  refine wpAny_bind (wpAny_pure (wpAny_bind (wpAny_bind (wpAny_loadPart hx (wpAny_bind (Looks.here (s := { s with toks := s.toks + 1 }) (looks_clsIn X hc) ?_))))))
  rw [hd]
  have k1 : (s.heap.push { cls := .type "dict", data := .dict #[] }).get? x = some ⟨.ref C, none, .fields vs, sl⟩ := Heap.get?_push_of_some _ hx
  have nx : x ≠ s.heap.objs.size := Nat.ne_of_lt (Heap.lt_size hx)
  refine wpAny_bind (wpAny_alloc' (wpAny_bind (wpAny_update' k1 (wpAny_pure ?_))))
  have k2 : ((s.heap.push { cls := .type "dict", data := .dict #[] }).update x fun o => { cls := o.cls, dict := some s.heap.objs.size, data := o.data, slots := o.slots }).get? s.heap.objs.size = some { cls := .type "dict", data := .dict #[] } :=
    (Heap.get?_update_ne _ _ _ _ nx.symm).trans (Heap.get?_push_at rfl rfl)
  have k3 : ((s.heap.push { cls := .type "dict", data := .dict #[] }).update x fun o => { cls := o.cls, dict := some s.heap.objs.size, data := o.data, slots := o.slots }).Ns s.heap.objs.size (fun _ => none) :=
    ⟨_, #[], _, k2, rfl, fun e he => absurd he (by simp), fun _ => rfl⟩
  show wpAny _ _ (storeInDict s.heap.objs.size (.str f s.toks) f v) _ _ _
  unfold storeInDict newKeyGuard; refine wpAny_bind (wpAny_pure (wpAny_bind (wpAny_nsSet1 (Heap.Ns1.of_empty k3) fun h' hn2 sb => ?_)))
  obtain ⟨oD, esD, epD, uo, ud, uc⟩ := hn2.count (Within.cons f v Within.nil)
  refine wpAny_bind (wpAny_lookBehind uo (by rw [ud]; exact pastItsLine_dict (Nat.le_trans uc (by rw [List.length_cons, List.length_nil, sizeLine_eq]; omega))) ?_)
  refine wpAny_pure (h h' ?_ ?_ fun b o nb e => ?_)
  · refine (sb.2 x nx).trans (Heap.get?_update_self _ k1 rfl)
  · obtain ⟨o', es, ep, e1, e2, e3, eu, e4⟩ := hn2
    exact ⟨o', es, ep, e1, e2, e3, eu, fun y => by rw [e4 y]⟩
  · exact (sb.2 b (Nat.ne_of_lt (Heap.lt_size e))).trans ((Heap.get?_update_ne _ _ _ _ nb).trans (Heap.get?_push_of_some _ e))
theorem set_exc1 {Q : Unit → Shared → Prop} {E : Value → Shared → Prop} {vs : Array Value} {sl : Array (Option Value)} {dx : Addr} {mA : Str → Option Value} {ns : List Str} (X : K.In s.heap) (hx : s.heap.get? x = some ⟨.ref C, some dx, .fields vs, sl⟩) (hn : s.heap.Ns1 dx mA) (hw : Within mA ns) (hz : ns.length ≤ sizeLine)
    (hs : findIn K (.ref C) "__setattr__" = some (some (.builtin "object.__setattr__"))) (hc : clsIn K C = some cd) (hm0 : cd.mro = .ref C :: .ref B :: veTail) (hd : cd.hasDict = true) (ha : findIn K (.ref C) f = some none)
    (h : ∀ h', h'.Ns1 dx (fun y => if y = f then some v else mA y) → (∀ b, b ≠ dx → h'.get? b = s.heap.get? b) → Q () { s with heap := h', toks := s.toks + 2 }) :
    wpAny (model Pg w) A (setAttr (.ref x) f v) Q E s := by
  obtain ⟨oo, es, ep, e1, e2⟩ := id hn
  have J : PySem.W.InstAt s.heap x ⟨.ref C, some dx, .fields vs, sl⟩ C (some oo) := ⟨hx, rfl, rfl, e1⟩
  refine set_plain X J hs (osa_exc (s := { s with toks := s.toks + 1 }) X J hc hm0 ha fun b => ?_)
  refine wpAny_bind (wpAny_pure (wpAny_bind (wpAny_bind (wpAny_loadPart hx (wpAny_bind (Looks.here (s := { s with toks := s.toks + 1 }) (looks_clsIn X hc) ?_))))))
  rw [hd]
  refine wpAny_pure (a := some dx) ?_; show wpAny _ _ (storeInDict dx (.str f s.toks) f v) _ _ _
  unfold storeInDict newKeyGuard; refine wpAny_bind (wpAny_pure (wpAny_bind (wpAny_nsSet1 (s := { s with toks := s.toks + 1 }) hn fun h' hn2 sb => ?_)))
  obtain ⟨oD, esD, epD, uo, ud, uc⟩ := hn2.count (Within.cons f v hw)
  refine wpAny_bind (wpAny_lookBehind uo (by rw [ud]; exact pastItsLine_dict (Nat.le_trans uc (by rw [List.length_cons]; omega))) ?_)
  exact wpAny_pure (h h' hn2 fun b nb => sb.2 b nb)
theorem get_exc {Q : Value → Shared → Prop} {E : Value → Shared → Prop} {ex : Bool} (X : K.In s.heap) (J : PySem.W.InstAt s.heap x ox C od) (hg : findIn K (.ref C) "__getattribute__" = some (some (.builtin "BaseException.__getattribute__")))
    (hn : findIn K (.ref C) "__getattr__" = some none) (hc : clsIn K C = some cd) (hm0 : cd.mro = .ref C :: .ref B :: veTail) (hf : findObj K C od f = some (.value v)) (hh : handedIn v = true) (h : Q v { s with toks := s.toks + 1 }) :
    wpAny (model Pg w) A (getAttr (.ref x) f ex) Q E s := by
  obtain ⟨hp, g, d, t, os⟩ := s
  have l0 := J.type (M := model Pg w)
  have l1 := looks_findIn (M := model Pg w) X hg
  have l2 := looks_findIn (M := model Pg w) X hn
  have l3 := looks_find (M := model Pg w) X J hf
  unfold getAttr getAttrBy
  refine wpAny_bind (wpAny_mkText (wpAny_holding (wpAny_bind (l0.at (wpAny_bind (l1.at ?_))))))
  have b1 := PySem.F.excAttr_ValueError.ga.bind (.ref x)
  have b2 : (ex && onTheHeap (Value.builtin "BaseException.__getattribute__")) = false := by cases ex <;> rfl
  have b3 : (Value.builtin "BaseException.__getattribute__" == Value.builtin "object.__getattribute__") = false := by decide +kernel
  have b4 : (onTheHeap (Value.ref C) && Value.builtin "BaseException.__getattribute__" == Value.builtin "object.__getattribute__") = false := by rw [b3]; rfl
  have sub : Looks (model Pg w) hp (isInstance (.ref x) (.type "BaseException")) true := J.type.andThen (looks_mroIn X (by unfold mroIn; rw [hc, Option.bind_some, hm0]; rfl))
  show wpAny _ _ (if (onTheHeap (Value.ref C) && Value.builtin "BaseException.__getattribute__" == Value.builtin "object.__getattribute__") = true then _ else _) _ _ _
  rw [if_neg (by rw [b4]; decide)]
  unfold getAttrByItsOwn hookBefore
  rw [if_pos (show onTheHeap (Value.ref C) = true from rfl)]
  refine wpAny_bind (l2.at ?_)
  (repeat (any_goals (first | assumption | wp_step))); refine codeAny_call_builtin PySem.F.excAttr_ValueError.ga.plain PySem.F.entry_bexc_ga (@check_slot (model Pg w) _ _ _ "BaseException.__getattribute__" "BaseException" "__getattribute__" (.ref x) [.str f t] [] _ (by decide +kernel) (by decide +kernel) sub (PySem.F.args_bexc_ga _ _) ?_)
  unfold Builtin.«object.__getattribute__»; repeat (any_goals (first | assumption | with_reducible refine l0.at ?_ | with_reducible refine l3.at ?_ | wp_step))
  show wpAny _ _ (handedOut v) _ _ _; rw [handedOut_of hh]
  exact wpAny_pure h
theorem meth_exc {Q : Value × List Value → Shared → Prop} {E : Value → Shared → Prop} {pl : Sem Bool} {fn : Addr} (X : K.In s.heap) (J : PySem.W.InstAt s.heap x ox C od) (hg : findIn K (.ref C) "__getattribute__" = some (some (.builtin "BaseException.__getattribute__")))
    (hn : findIn K (.ref C) "__getattr__" = some none) (hf : findIn K (.ref C) f = some (some (.ref fn))) (ht : typeIn K (.ref fn) = some (.type "function")) (hs : shadowIn od f = some false) (h : Q (.ref fn, [.ref x]) s) :
    wpAny (model Pg w) A (getMethod (.ref x) f pl) Q E s := by
  have can : (Manifest.canonical "BaseException.__getattribute__" != "object.__getattribute__") = false := by decide +kernel
  have l1 := looks_findIn (M := model Pg w) X hg
  have l2 := looks_findIn (M := model Pg w) X hn
  have l3 := looks_findIn (M := model Pg w) X hf
  have l4 := looks_typeIn (M := model Pg w) X ht
  unfold getMethod specialOf
  refine wpAny_bind (wpAny_bind (J.type.here (l1.here ?_)))
  simp only [can, Bool.false_eq_true, if_false]
  refine wpAny_bind (wpAny_bind (J.type.here (l2.here (wpAny_bind (wpAny_bind (J.type.here (l3.here (wpAny_bind (l4.here ?_)))))))))
  rw [if_neg (by decide +kernel)]; refine wpAny_bind (wpAny_loadPart J.at_ ?_)
  have jd := J.dict
  cases e : ox.dict with
  | none => exact (wpAny_bind (wpAny_rule (wpAny_pure h)))
  | some dx =>
    rw [e] at jd
    cases od with
    | none => exact jd.elim
    | some o =>
      obtain ⟨r, a1, b1⟩ := Option.map_eq_some_iff.mp hs
      refine wpAny_bind (wpAny_bind (wpAny_loadPart jd ?_))
      rw [nsLook_of a1]; refine wpAny_pure ?_; rw [b1]
      exact (wpAny_bind (wpAny_rule (wpAny_pure h)))
end
noncomputable def exO (n : Bool) (x C : Addr) (od : Option Addr) : HO := .ext fun h => ∃ vs sl, h.get? x = some ⟨.ref C, od, .fields vs, sl⟩ ∧ (n = true → ∃ t, vs = #[.ref t, .none, .none, .none, .bool false, .none])
noncomputable def exD (dx : Addr) (fs : List (Str × V)) : HO := .ext fun h => fs.length ≤ 1000 ∧ ∃ mA, h.Ns1 dx mA ∧ (∀ f, RelO (fs.lookup f) (mA f)) ∧ PySem.Within mA (fs.map (·.1))
section
variable {X : Cx} {pins : List (Addr × Obj)} {σ : St} {H : Hp} {x : Addr} {s : Shared} {h' : Heap} {o : HO} {t' : Nat}
theorem Inv.born (I : Inv X pins σ H s) (hex : X.ex = []) (k : ∀ b u, s.heap.get? b = some u → h'.get? b = some u) (hn : s.heap.get? x = none) (new : ObjOk X.prog X.w (upd H x o) h' x o) : Inv X pins σ (upd H x o) { s with heap := h', toks := t' } := by
  have J : Inv X pins σ H { s with heap := h', toks := t' } := I.kept k
  have hx : H x = none := by
    cases q : H x with
    | none => rfl
    | some v => obtain ⟨o1, e1⟩ := I.hok.there q; rw [hn] at e1; cases e1
  have n0 : X.s₀.heap.get? x = none := by
    cases q : X.s₀.heap.get? x with
    | none => rfl
    | some v => obtain ⟨o1, e1⟩ := I.base.there x v q (by rw [hex]; simp); rw [hn] at e1; cases e1
  have nl : x ≠ X.env.locals := by
    rintro rfl
    obtain ⟨m, ⟨o1, es, ep, e, _⟩, _⟩ := I.loc
    rw [hn] at e; cases e
  have nc : ∀ y c, X.env.cells.lookup y = some c → c ≠ x := by
    rintro y c hc rfl
    obtain ⟨v, o1, e, _⟩ := I.cell y c hc
    rw [hn] at e; cases e
  have np : ∀ p ∈ X.pn ++ pins, p.1 ≠ x := fun p hp z => by
    have e := (I.pin p hp).1
    rw [z, hn] at e; cases e
  refine ⟨J.ok, J.os, J.bare, ⟨J.base.keep, J.base.slot, fun b o e n hb => ?_, J.base.there, fun b xs e => ?_, fun b o v e => ?_, fun b ps e => ?_⟩, J.loc, J.cell, ?_, fun y c hc => ?_, fun p hp => ?_, fun b u e => ?_, J.len⟩
  · rw [upd_ne (by rintro rfl; rw [n0] at e; cases e)]; exact J.base.free b o e n hb
  · have e1 := J.base.tups b xs e; rw [upd_ne (ne_of_none e1 hx)]; exact e1
  · have e1 := J.base.frzs b o v e; rw [upd_ne (ne_of_none e1 hx)]; exact e1
  · obtain ⟨m, e1⟩ := J.base.tbls b ps e; exact ⟨m, by rw [upd_ne (ne_of_none e1 hx)]; exact e1⟩
  · rw [upd_ne nl.symm]; exact J.free
  · rw [upd_ne (nc y c hc)]; exact J.freeC y c hc
  · obtain ⟨a1, a2, a3, a4, a5⟩ := J.pin p hp
    exact ⟨a1, by rw [upd_ne (np p hp)]; exact a2, a3, a4, a5⟩
  · by_cases hb : b = x
    · subst hb
      rw [upd_same] at e; cases e
      exact new
    · rw [upd_ne hb] at e
      exact (J.hok b u e).stay (fun _ _ _ q => q) (fun c q => by rw [upd_ne (ne_of_none q hx)]; exact q) fun c xs q => by rw [upd_ne (ne_of_none q hx)]; exact q
theorem exO_ok {P : Program} {w : World} {n : Bool} {C : Addr} {od : Option Addr} {vs : Array Value} {sl : Array (Option Value)} (e : h'.get? x = some ⟨.ref C, od, .fields vs, sl⟩) (hv : n = true → ∃ t, vs = #[.ref t, .none, .none, .none, .bool false, .none]) : ObjOk P w H h' x (exO n x C od) :=
  ⟨⟨vs, sl, e, hv⟩, ⟨_, e⟩, fun _ _ ⟨v1, s1, e1, q1⟩ k => ⟨v1, s1, k _ e1, q1⟩⟩
end
noncomputable def tExc (C : Addr) (t : TA) : TE := fun σ H Q => t σ H fun vs H1 => vs.length ≤ sizeLine ∧ ∀ x, H1 x = none → Q (.ref x) (upd H1 x (exO true x C none))
section
variable {X : Cx} {C : Addr} {x : Str} {p pos : Pos} {e : Expr} {es : List Expr} {t : TA}
theorem pe_exc (M : ExcC X.K C) (hex : X.ex = []) (kp : PySem.W.keepIn X.K (.ref C) = true) (hg : Gl X x) (hm : X.mg x = some (.ref C)) (ha : PA X (e :: es) t) (hdb : (x == ("__debug__" : Str)) = false := by decide)
    (he : starEach (e :: es) X.env = (false, eval e X.env) :: starEach es X.env := by rfl) (hpl : (backTo pos (starEach es X.env)).any (·.1) = false := by rfl) :
    PE X (.Call (.Name x p) (e :: es) [] pos) (tExc C t) := by
  intro pins s0 σ H0 Q I0 h
  refine wpAny_Call_Name_kw (ld_glob I0 hg hm ?_ hdb)
  refine PySem.W.callWith_K (h₀ := X.base) I0.ok.mod.kin kp (thn (ha pos pins s0 σ H0 _ I0 h) fun us s ⟨vs, H, I, r, z, q⟩ => ⟨I.kIn, ?_⟩) he hpl
  obtain ⟨nm, qn, N, bs, bm, hd, sn, su, ab, co, dd, k0, k1, k2, k3, k5, mN, c1, c2, c3, c4⟩ := M.at_ s.heap I.kIn
  obtain ⟨hp, gn, dr, tk, os⟩ := s
  refine wpAny_call_exc_subT PySem.F.excBase_ValueError c4 c1 c2 c3 (fun h' y hy => ?_) (by show us.length ≤ sizeLine; rw [← r.length]; exact z)
  obtain ⟨t0, e1, _, _⟩ := hy.there
  have nv : true = true → ∃ t, (#[.ref t0, .none, .none, .none, .bool false, .none] : Array Value) = #[.ref t, .none, .none, .none, .bool false, .none] := fun _ => ⟨t0, rfl⟩
  have hy0 : H y = none := by
    cases w' : H y with
    | none => rfl
    | some v => obtain ⟨o1, e2⟩ := I.hok.there w'; rw [hy.new] at e2; cases e2
  exact ⟨.ref y, _, I.born hex hy.keeps hy.new (exO_ok e1 nv), rfl, q y hy0⟩
end
structure ExcG (K : PySem.W.Frag) (C : Addr) : Prop where
  ga : PySem.W.findIn K (.ref C) "__getattribute__" = some (some (.builtin "BaseException.__getattribute__"))
  gh : PySem.W.findIn K (.ref C) "__getattr__" = some none
structure ExcQ (K : PySem.W.Frag) (C B : Addr) : Prop extends ExcG K C where
  cd : ∃ cd : ClassData, PySem.W.clsIn K C = some cd ∧ cd.mro = .ref C :: .ref B :: veTail ∧ cd.hasDict = true
  sa : PySem.W.findIn K (.ref C) "__setattr__" = some (some (.builtin "object.__setattr__"))
section
variable {X : Cx} {pins : List (Addr × Obj)} {σ : St} {H : Hp} {s : Shared} {nw : Bool} {a dx C B : Addr} {fs : List (Str × V)} {f : Str} {v : V} {A : Around} {E : Value → Shared → Prop}
theorem ExcQ.hd {K : PySem.W.Frag} (q : ExcQ K C B) : PySem.W.hasDictIn K C = true := by
  obtain ⟨cd, c1, _, c3⟩ := q.cd
  unfold PySem.W.hasDictIn
  rw [c1]; exact c3
theorem getx_ok {ex : Bool} {Q : Value → Shared → Prop} (I : Inv X pins σ H s) (q : ExcQ X.K C B) (hx : H a = some (exO nw a C (some dx))) (hd : H dx = some (exD dx fs)) (n : PySem.W.findIn X.K (.ref C) f = some none) (l : fs.lookup f = some v)
    (h : ∀ u s', Inv X pins σ H s' → RelV v u → Q u s') : wpAny (model X.prog X.w) A (getAttr (.ref a) f ex) Q E s := by
  obtain ⟨vs, sl, e1, nv⟩ := (I.hok a _ hx).1
  obtain ⟨_, mA, hn, r, wi⟩ := (I.hok dx _ hd).1
  obtain ⟨od, ho, hlk⟩ := lookIn_ns hn
  obtain ⟨u, hu, ru⟩ := RelO.some_of (v := v) (o := mA f) (by rw [← l]; exact r f)
  obtain ⟨cd, c1, c2, c3⟩ := q.cd
  exact get_exc I.kIn ⟨e1, rfl, rfl, ho⟩ q.ga q.gh c1 c2 (PySem.W.findObj_own q.hd n rfl (by rw [hlk, hu])) (handed_of ru) (h u _ (I.tok _) ru)
theorem methx_ok0 {m : Str} {g : Addr} {pl : Sem Bool} {Q : Value × List Value → Shared → Prop} (I : Inv X pins σ H s) (q : ExcG X.K C) (hx : H a = some (exO nw a C none)) (k : Meth X.K C m g) (h : Q (.ref g, [.ref a]) s) :
    wpAny (model X.prog X.w) A (getMethod (.ref a) m pl) Q E s := by
  obtain ⟨vs, sl, e1, nv⟩ := (I.hok a _ hx).1
  exact meth_exc (od := none) I.kIn ⟨e1, rfl, rfl, trivial⟩ q.ga q.gh k.at_ (beq_iff_eq.mp k.fn) rfl h
theorem methx_ok1 {m : Str} {g : Addr} {pl : Sem Bool} {Q : Value × List Value → Shared → Prop} (I : Inv X pins σ H s) (q : ExcG X.K C) (hx : H a = some (exO nw a C (some dx))) (hd : H dx = some (exD dx fs)) (l : fs.lookup m = none) (k : Meth X.K C m g) (h : Q (.ref g, [.ref a]) s) :
    wpAny (model X.prog X.w) A (getMethod (.ref a) m pl) Q E s := by
  obtain ⟨vs, sl, e1, nv⟩ := (I.hok a _ hx).1
  obtain ⟨_, mA, hn, r, wi⟩ := (I.hok dx _ hd).1
  obtain ⟨od, ho, hlk⟩ := lookIn_ns hn
  have hm : mA m = none := RelO.none_of (by rw [← l]; exact r m)
  exact meth_exc (od := some od) I.kIn ⟨e1, rfl, rfl, ho⟩ q.ga q.gh k.at_ (beq_iff_eq.mp k.fn) (by show (PySem.W.lookIn m od).map (·.isSome) = some false; rw [hlk, hm]; rfl) h
end
section
variable {X : Cx} {pins : List (Addr × Obj)} {σ : St} {H H1 : Hp} {s s1 : Shared} {x : Addr} {o : HO}
theorem Inv.track (I : Inv X pins σ H1 s1) (hex : X.ex = []) (hn : s1.heap.get? x = none) (J : Inv X pins σ H s) (hx : H x = none) (new : ObjOk X.prog X.w (upd H x o) s.heap x o) : Inv X pins σ (upd H x o) s := by
  have n0 : X.s₀.heap.get? x = none := by
    cases q : X.s₀.heap.get? x with
    | none => rfl
    | some v => obtain ⟨o1, e1⟩ := I.base.there x v q (by rw [hex]; simp); rw [hn] at e1; cases e1
  have nl : x ≠ X.env.locals := by
    rintro rfl
    obtain ⟨m, ⟨o1, es, ep, e, _⟩, _⟩ := I.loc
    rw [hn] at e; cases e
  have nc : ∀ y c, X.env.cells.lookup y = some c → c ≠ x := by
    rintro y c hc rfl
    obtain ⟨v, o1, e, _⟩ := I.cell y c hc
    rw [hn] at e; cases e
  have np : ∀ p ∈ X.pn ++ pins, p.1 ≠ x := fun p hp z => by
    have e := (I.pin p hp).1
    rw [z, hn] at e; cases e
  refine ⟨J.ok, J.os, J.bare, ⟨J.base.keep, J.base.slot, fun b o e n hb => ?_, J.base.there, fun b xs e => ?_, fun b o v e => ?_, fun b ps e => ?_⟩, J.loc, J.cell, ?_, fun y c hc => ?_, fun p hp => ?_, fun b u e => ?_, J.len⟩
  · rw [upd_ne (by rintro rfl; rw [n0] at e; cases e)]; exact J.base.free b o e n hb
  · have e1 := J.base.tups b xs e; rw [upd_ne (ne_of_none e1 hx)]; exact e1
  · have e1 := J.base.frzs b o v e; rw [upd_ne (ne_of_none e1 hx)]; exact e1
  · obtain ⟨m, e1⟩ := J.base.tbls b ps e; exact ⟨m, by rw [upd_ne (ne_of_none e1 hx)]; exact e1⟩
  · rw [upd_ne nl.symm]; exact J.free
  · rw [upd_ne (nc y c hc)]; exact J.freeC y c hc
  · obtain ⟨a1, a2, a3, a4, a5⟩ := J.pin p hp
    exact ⟨a1, by rw [upd_ne (np p hp)]; exact a2, a3, a4, a5⟩
  · by_cases hb : b = x
    · subst hb
      rw [upd_same] at e; cases e
      exact new
    · rw [upd_ne hb] at e
      exact (J.hok b u e).stay (fun _ _ _ q => q) (fun c q => by rw [upd_ne (ne_of_none q hx)]; exact q) fun c xs q => by rw [upd_ne (ne_of_none q hx)]; exact q
theorem put_names {fs : List (Str × V)} {mA : Str → Option Value} {f : Str} {y : V} {u : Value} (r : ∀ g, RelO (fs.lookup g) (mA g)) (wi : PySem.Within mA (fs.map (·.1))) (ry : RelV y u) :
    (∀ g, RelO ((putF f y fs).lookup g) (if g = f then some u else mA g)) ∧ PySem.Within (fun g => if g = f then some u else mA g) ((putF f y fs).map (·.1)) := by
  refine ⟨fun g => ?_, fun g hg => ?_⟩
  · rw [lookup_putF]
    by_cases e : g = f
    · rw [if_pos e, if_pos e]; exact ry
    · rw [if_neg e, if_neg e]; exact r g
  · by_cases e : g = f
    · subst e; exact (keys_putF g y fs).1
    · exact (keys_putF f y fs).2 g (wi g fun z => hg (by show (if g = f then some u else mA g) = none; rw [if_neg e, z]))
theorem exD_ok {P : Program} {w : World} {h' : Heap} {dx : Addr} {fs : List (Str × V)} {mA : Str → Option Value} (hl : fs.length ≤ 1000) (hn : h'.Ns1 dx mA) (r : ∀ g, RelO (fs.lookup g) (mA g)) (wi : PySem.Within mA (fs.map (·.1))) : ObjOk P w H h' dx (exD dx fs) := by
  refine ⟨⟨hl, mA, hn, r, wi⟩, ?_, fun h1 h2 ⟨b1, mB, b2, b3, b4⟩ k => ?_⟩
  · obtain ⟨o1, es, ep, e2, _⟩ := id hn; exact ⟨o1, e2⟩
  · obtain ⟨o1, es, ep, e2, e3⟩ := id b2
    exact ⟨b1, mB, ⟨o1, es, ep, k _ e2, e3⟩, b3, b4⟩
theorem setx_ok0 {nw : Bool} {a C B : Addr} {f : Str} {y : V} {u : Value} {A : Around} {E : Value → Shared → Prop} {Q : Unit → Shared → Prop} (I : Inv X pins σ H s) (hex : X.ex = []) (q : ExcQ X.K C B) (hx : H a = some (exO nw a C none)) (n : PySem.W.findIn X.K (.ref C) f = some none) (ry : RelV y u)
    (h : ∀ dx s', H dx = none → Inv X pins σ (upd (upd H a (exO nw a C (some dx))) dx (exD dx (putF f y []))) s' → Q () s') : wpAny (model X.prog X.w) A (setAttr (.ref a) f u) Q E s := by
  obtain ⟨vs, sl, e1, nv⟩ := (I.hok a _ hx).1
  obtain ⟨cd, c1, c2, c3⟩ := q.cd
  refine set_exc0 I.kIn e1 q.sa c1 c2 c3 n fun h' k1 k2 k3 => ?_
  have hd0 : H s.heap.objs.size = none := I.hok.fresh (Nat.le_refl _)
  have nda : s.heap.objs.size ≠ a := fun e => by rw [e, hx] at hd0; cases hd0
  have J : Inv X pins σ (upd H a (exO nw a C (some s.heap.objs.size))) { s with heap := h', toks := s.toks + 2 } :=
    I.write (x := a) (e := a) (by rw [hx]; exact True.intro) (.inl rfl) k3 ⟨_, k1⟩ (exO_ok k1 nv)
  refine h _ _ hd0 (Inv.track I hex (Heap.get?_none_of_le (Nat.le_refl _)) J (by rw [upd_ne nda]; exact hd0) ?_)
  have pn := put_names (fs := []) (mA := fun _ => none) (f := f) (fun _ => trivial) (fun g hg => absurd rfl hg) ry
  exact exD_ok (by simp [putF]) k2 pn.1 pn.2
theorem setx_ok1 {nw : Bool} {a dx C B : Addr} {fs : List (Str × V)} {f : Str} {y : V} {u : Value} {A : Around} {E : Value → Shared → Prop} {Q : Unit → Shared → Prop} (I : Inv X pins σ H s) (q : ExcQ X.K C B) (hx : H a = some (exO nw a C (some dx))) (hd : H dx = some (exD dx fs)) (hl : fs.length < 1000) (n : PySem.W.findIn X.K (.ref C) f = some none) (ry : RelV y u)
    (h : ∀ s', Inv X pins σ (upd H dx (exD dx (putF f y fs))) s' → Q () s') : wpAny (model X.prog X.w) A (setAttr (.ref a) f u) Q E s := by
  obtain ⟨vs, sl, e1, nv⟩ := (I.hok a _ hx).1
  obtain ⟨_, mA, hn, r, wi⟩ := (I.hok dx _ hd).1
  obtain ⟨cd, c1, c2, c3⟩ := q.cd
  refine set_exc1 I.kIn e1 hn wi (by rw [List.length_map, sizeLine_eq]; omega) q.sa c1 c2 c3 n fun h' k1 k2 => h _ ?_
  have pn := put_names (f := f) r wi ry
  have := length_putF f y fs
  obtain ⟨o1, es, ep, e2, _⟩ := id k1
  exact I.write (x := dx) (e := dx) (by rw [hd]; exact True.intro) (.inl rfl) (fun b v nb z => (k2 b nb).trans z) ⟨_, e2⟩ (exD_ok (by omega) k1 pn.1 pn.2)
end
noncomputable def tFldX (K : PySem.W.Frag) (ta : TE) (f : Str) : TE := fun σ H Q => ta σ H fun x H1 => ∃ nw a C B dx fs v, x = .ref a ∧ H1 a = some (exO nw a C (some dx)) ∧ H1 dx = some (exD dx fs) ∧ ExcQ K C B ∧ PySem.W.findIn K (.ref C) f = some none ∧ fs.lookup f = some v ∧ Q v H1
noncomputable def sFldX (K : PySem.W.Frag) (ta tv : TE) (f : Str) : TS := fun D σ H => tv σ H fun y H1 => ta σ H1 fun x H2 => ∃ nw a C B, x = .ref a ∧ ExcQ K C B ∧ PySem.W.findIn K (.ref C) f = some none ∧
  ((H2 a = some (exO nw a C none) ∧ ∀ dx, H2 dx = none → D.nx σ (upd (upd H2 a (exO nw a C (some dx))) dx (exD dx (putF f y [])))) ∨
   ∃ dx fs, H2 a = some (exO nw a C (some dx)) ∧ H2 dx = some (exD dx fs) ∧ fs.length < 1000 ∧ D.nx σ (upd H2 dx (exD dx (putF f y fs))))
section
variable {X : Cx} {CX : CXT} {k j : Nat} {C B : Addr} {ps : List Str} {sp : Sp} {EE : St → XK} {f m : Str} {pos pos' apos : Pos} {e o value : Expr} {ta tv : TE}
theorem pe_fldX (he : PE X e ta) (hb : attributeBase e f X.env (eval e X.env) = eval e X.env) : PE X (.Attribute e f pos) (tFldX X.K ta f) := by
  intro pins s σ H Q I h
  refine attr_of hb (thn (he pins s σ H _ I h) fun u s1 ⟨x, H1, I1, rx, nw, a, C, B, dx, fs, v, ex, ea, ed, q, n, l, z⟩ => ?_)
  subst ex
  cases (show u = Value.ref a from rx)
  exact getx_ok I1 q ea ed n l fun u' s2 I2 ru => ⟨v, H1, I2, ru, z⟩
theorem ps_fldX (hex : X.ex = []) (ha : PE X o ta) (hv : PE X value tv) (hs : swapsWith value (some (.Attribute o f pos')) pos.line X.env = pure false) : PS X (.Assign [.Attribute o f pos'] value pos) (sFldX X.K ta tv f) := by
  intro pins s σ H D I h
  refine plainObj_wpAny_Assign_Attribute (thn (hv pins s σ H _ I h) fun u s1 ⟨y, H1, I1, ry, q⟩ => thn (ha pins s1 σ H1 _ I1 q) fun ov s2 ⟨x, H2, I2, rx, nw, a, C, B, ex, c, n, z⟩ => ?_) hs
  subst ex
  cases (show ov = Value.ref a from rx)
  rcases z with ⟨ea, z⟩ | ⟨dx, fs, ea, ed, l, z⟩
  · exact setx_ok0 I2 hex c ea n ry fun dx s3 hd I3 => ⟨σ, _, I3, z dx hd⟩
  · exact setx_ok1 I2 c ea ed l n ry fun s3 I3 => ⟨σ, _, I3, z⟩
end
structure MkX (K : PySem.W.Frag) (C f : Addr) : Prop where
  at_ : ∀ h : Heap, K.In h → ∃ (nm q : Str) (N : Addr) (bs bm : List Value) (hd : Bool) (sn : List Str) (su : List Value) (ab : Bool) (co : Option Bool) (dd : Option Addr) (k0 k1 k2 k3 k5 : Option Value) (mN : Str → Option Value),
    h.get? C = some (excClassObj nm q C N bs bm hd sn su ab co dd k0 k1 k2 k3 k5 "ValueError.__new__") ∧ h.Ns N mN ∧ mN "__init__" = some (.ref f) ∧ OwnTail h veTail bm
  fn : ∃ oI : Obj, K.lookup f = some oI ∧ oI.cls = .type "function"
  kp : PySem.W.keepIn K (.ref C) = true
structure DefX (P : Program) (w : World) (K : PySem.W.Frag) (mg : Str → Option Value) (base : Heap) (CX : CXT) (k : Nat) (x : Str) (C : Addr) (ps : List Str) (sp : Sp) : Prop where
  ex : ∃ (f : Addr) (fd : FuncData), FnOk P w K mg base CX k f fd ps sp ∧ MkX K C f ∧ mg x = some (.ref C) ∧ Binds K fd ps []
noncomputable def tExcI (C : Addr) (sp : Sp) (EE : St → XK) (t : TA) : TE := fun σ H Q => t σ H fun vs H1 => vs.length ≤ sizeLine ∧ ∀ x, H1 x = none → sp (.ref x :: vs) (upd H1 x (exO true x C none)) (fun v H2 => v = .non ∧ Q (.ref x) H2) (EE σ)
section
variable {X : Cx} {CX : CXT} {k j : Nat} {C : Addr} {ps : List Str} {sp : Sp} {EE : St → XK} {x : Str} {p pos : Pos} {e : Expr} {es : List Expr} {t : TA}
theorem pe_excI (D : DefX X.prog X.w X.K X.mg X.base CX j x C ps sp) (hex : X.ex = []) (hr : Room k X.A) (hg : Gl X x) (hx : PassesS CX X EE) (ha : PA X (e :: es) t) (hj : j + 1 ≤ k := by decide) (hdb : (x == ("__debug__" : Str)) = false := by decide)
    (he : starEach (e :: es) X.env = (false, eval e X.env) :: starEach es X.env := by rfl) (hpl : (backTo pos (starEach es X.env)).any (·.1) = false := by rfl) :
    PE X (.Call (.Name x p) (e :: es) [] pos) (tExcI C sp EE t) := by
  obtain ⟨f, fd, F, M, hm, hb⟩ := D.ex
  intro pins s0 σ H0 Q I0 h
  refine wpAny_Call_Name_kw (ld_glob I0 hg hm ?_ hdb)
  refine PySem.W.callWith_K (h₀ := X.base) I0.ok.mod.kin M.kp (thn (ha pos pins s0 σ H0 _ I0 h) fun us s ⟨vs, H, I, r, z, q⟩ => ⟨I.kIn, ?_⟩) he hpl
  obtain ⟨nm, qn, N, bs, bm, hd, sn, su, ab, co, dd, k0, k1, k2, k3, k5, mN, c1, c2, c3, c4⟩ := M.at_ s.heap I.kIn
  obtain ⟨oI, f1, f2⟩ := M.fn
  have f3 := I.kIn _ _ f1
  obtain ⟨hp, gn, dr, tk, os⟩ := s
  refine call_initT PySem.F.excBase_ValueError c4 c1 c2 c3 f3 f2 (fun h' y hy => ?_) (by show us.length ≤ sizeLine; rw [← r.length]; exact z)
  obtain ⟨t0, e1, _, _⟩ := hy.there
  have nv : true = true → ∃ t, (#[.ref t0, .none, .none, .none, .bool false, .none] : Array Value) = #[.ref t, .none, .none, .none, .bool false, .none] := fun _ => ⟨t0, rfl⟩
  have hy0 : H y = none := by
    cases w' : H y with
    | none => rfl
    | some v => obtain ⟨o1, e2⟩ := I.hok.there w'; rw [hy.new] at e2; cases e2
  have hq := q y hy0
  have I2 : Inv X pins σ (upd H y (exO true y C none)) ⟨h', gn, dr, tk, os⟩ := I.born hex hy.keeps hy.new (exO_ok e1 nv)
  have r2 : Vals (V.ref y :: vs) (Value.ref y :: us) := .cons rfl r
  have hl : (Value.ref y :: us).length = ps.length := by rw [← r2.length]; exact F.len _ _ _ _ hq
  have hb' := hb ⟨h', gn, dr, tk, os⟩ (Value.ref y :: us) I2.kIn (by simpa using hl)
  rw [List.append_nil] at hb'
  have hr' : Room (j + 1) X.A := hr.mono hj
  refine wpAny_call (codeAny_mono (F.run _ X.stack _ _ ⟨Value.ref y :: us, []⟩ (Value.ref y :: us) _ _ (EE σ) (hr'.make C us []) (I2.env0.make C us []) hb' r2 hq) fun r3 s' hq' => ?_)
  cases r3 with
  | error e => exact hx pins σ _ _ e s' I2 hq'
  | ok fl =>
    cases fl with
    | ret u =>
      obtain ⟨v, H', I3, rv, ev, q3⟩ := I2.after hq'
      subst ev
      exact ⟨rv, ⟨V.ref y, H', I3, rfl, q3⟩⟩
    | next => exact False.elim hq'
    | brk => exact False.elim hq'
    | cont => exact False.elim hq'
end
end L2

set_option Elab.async false
set_option linter.all false
set_option maxRecDepth 100000
set_option maxHeartbeats 4000000
namespace L2
open PySem PySem.Spec PyProof.Rows
open Sem (wp)

noncomputable def Lies (h : Heap) (x C : Addr) (od : Option Addr) : Prop := ∃ vs sl, h.get? x = some ⟨.ref C, od, .fields vs, sl⟩
section
variable {M : Model} {A : Around} {E : Value → Shared → Prop} {s : Shared} {base : Heap} {env : Env} {outer l : List Env} {L x C : Addr} {od : Option Addr} {vs : Array Value} {sl : Array (Option Value)} {a0 fl : Value} {Q : Unit → Shared → Prop}
theorem entry2 {g1 : Heap} {oT : Obj} {ts : Array Value} (tT : oT.data = .fields ts) (t3 : ts[3]? = some fl) (ff : s.heap.FunFrames base l) (ex : s.heap.get? x = some ⟨.ref C, od, .fields vs, sl⟩)
    (s1 : Heap.SlotsOnly (l.filterMap (·.frame)) s.heap g1) (y1 : g1.get? x = some ⟨.ref C, od, .fields vs, sl⟩) (b1 : base.StaysIn g1) (bx : base.get? x = none) (z1 : 1 < vs.size) (z0 : vs[0]? = some a0)
    (q : ∀ h', Heap.NotedW base l x (.ref C) a0 fl s.heap h' → Lies h' x C od → Q () { s with heap := h' }) :
    wpAny M A (setField (.ref x) 1 (.ref g1.objs.size)) Q E { s with heap := g1.push oT } := by
  have y2 := Heap.get?_push_of_some oT y1
  have nT : g1.objs.size ≠ x := Nat.ne_of_gt (Heap.lt_size y1)
  have y3 : ((g1.push oT).update x (Obj.mapFields (·.setIfInBounds 1 (.ref g1.objs.size)))).get? x = some ⟨.ref C, od, .fields (vs.setIfInBounds 1 (.ref g1.objs.size)), sl⟩ := Heap.get?_update_self _ y2 rfl
  have kp : ∀ b o, b ≠ x → g1.get? b = some o → ((g1.push oT).update x (Obj.mapFields (·.setIfInBounds 1 (.ref g1.objs.size)))).get? b = some o := fun b o nb e => (Heap.get?_update_other _ _ (Ne.symm nb)).trans (Heap.get?_push_of_some _ e)
  have nr : ∀ b o, s.heap.get? b = some o → (∀ us, o.data ≠ .fields us) → b ≠ x := fun b o e n z => by rw [z, ex] at e; cases e; exact n vs rfl
  refine wpAny_setField y2 rfl z1 (q _ ⟨fun b o e => kp b o (fun z => by rw [z, bx] at e; cases e) (b1 b o e), ff.of_keeps fun b o e n => ?_, ?_, fun b o e n => ?_⟩ ⟨_, _, y3⟩)
  · obtain ⟨r, e1⟩ := s1.2.2 b o e; exact ⟨_, kp b _ (nr b o e n) e1, rfl⟩
  · exact ⟨_, _, g1.objs.size, oT, ts, y3, ⟨rfl, by rw [Array.getElem?_setIfInBounds_ne (by decide)]; exact z0⟩, rfl, by simp [z1], b1.fresh, nT, (Heap.get?_update_other _ _ (Ne.symm nT)).trans (Heap.get?_push_size g1 (Obj.isFreed_of_fields tT)), tT, t3⟩
  · obtain ⟨r, e1⟩ := s1.2.2 b o e; exact ⟨r, kp b _ (nr b o e n) e1⟩
theorem entryD {hv : Value} {nx : Bool} (fr : A.frames = some (env :: outer)) (ff : s.heap.FunFrames base (env :: outer)) (el : env.frame = some L)
    (ex : s.heap.get? x = some ⟨.ref C, od, .fields vs, sl⟩) (bs : base.StaysIn s.heap) (bx : base.get? x = none) (z1 : 1 < vs.size) (z0 : vs[0]? = some a0)
    (q : ∀ h', Heap.NotedW base (env :: outer) x (.ref C) a0 (rawInt L) s.heap h' → Lies h' x C od → Q () { s with heap := h' }) :
    wpAny M A (do let a ← frameOf env; let pl ← entryPlaceOf L nx; let b ← EntryCells.newEntry hv a .none (rawInt L) .none pl; setField (.ref x) 1 b) Q E s := by
  have nf : x ∉ (env :: outer).filterMap (·.frame) := fun hm => by
    obtain ⟨_, o1, e1, n1⟩ := ff.mem hm
    rw [ex] at e1; cases e1; exact n1 vs rfl
  refine wpAny_bind (wpAny_frameOf_fun fr ff el fun g1 s1 => wpAny_bind (wpAny_entryPlaceOf fun pl ip => ?_))
  unfold EntryCells.newEntry newFields
  refine wpAny_bind (wpAny_newObj_type ?_ (ip.sizeOk5 _ _ _ _ _))
  have y1 := (s1.2.1 x nf).trans ex
  have b1 : base.StaysIn g1 := fun b o e => (s1.2.1 b fun hm => by rw [(ff.mem hm).1] at e; cases e).trans (bs b o e)
  refine entry2 (s := s) (fl := rawInt L) rfl ?_ ff ex s1 y1 b1 bx z1 z0 q
  first | (simp; done) | (rcases ip with rfl | ⟨_, _, _, _, _, _, _, rfl⟩ <;> simp)
theorem landD (bs : base.StaysIn s.heap) (ff : s.heap.FunFrames base l) (tr : s.heap.TracedAtW base x (.ref C) a0 fl) (ly : Lies s.heap x C od)
    (q : ∀ h', base.StaysIn h' → h'.FunFrames base l → h'.TracedW base x (.ref C) a0 → s.heap.UpToSlots h' → Lies h' x C od → Q () { s with heap := h' }) : wpAny M A (setFlight (.ref x) none) Q E s := by
  obtain ⟨oe, ws, T, oT, ts, e1, c1, d1, d2, n1, n2, e3, d3, t3⟩ := tr
  obtain ⟨v2, s2, l1⟩ := ly
  have z3 : 3 < ts.size := (Array.getElem?_eq_some_iff.mp t3).1
  unfold setFlight
  refine wpAny_bind (wpAny_field e1 d1 d2 ?_)
  rw [if_pos (show (Value.ref T != Value.none) = true from by simp)]
  have oth : ∀ b, b ≠ T → (s.heap.update T (Obj.mapFields (·.setIfInBounds 3 ((none : Option Addr).elim Value.none fun f => rawInt f)))).get? b = s.heap.get? b := fun b nb => Heap.get?_update_other _ _ (Ne.symm nb)
  have nr : ∀ b o, s.heap.get? b = some o → (∀ us, o.data ≠ .fields us) → b ≠ T := fun b o e n z => by rw [z, e3] at e; cases e; exact n ts d3
  refine wpAny_setField e3 d3 z3 (q _ (fun b o e => (oth b fun z => by rw [z, n1] at e; cases e).trans (bs b o e)) (ff.of_keeps fun b o e n => ⟨o, (oth b (nr b o e n)).trans e, rfl⟩) ?_ (fun b o e n => ⟨o.slots, (oth b (nr b o e n)).trans e⟩) ⟨v2, s2, (oth x (Ne.symm n2)).trans l1⟩)
  exact ⟨oe, ws, T, _, _, (oth x (Ne.symm n2)).trans e1, c1, d1, d2, n1, n2, Heap.get?_update_self _ e3 (Obj.isFreed_of_fields (Obj.data_mapFields d3 _)), Obj.data_mapFields d3 _, by simp [z3]⟩
theorem noteD (fr : A.frames = some (env :: outer)) (ff : s.heap.FunFrames base (env :: outer)) (el : env.frame = some L) (tr : s.heap.TracedW base x (.ref C) a0) (bs : base.StaysIn s.heap) (bx : base.get? x = none) (ly : Lies s.heap x C od)
    (q : ∀ h', Heap.NotedW base (env :: outer) x (.ref C) a0 (rawInt L) s.heap h' → Lies h' x C od → Q () { s with heap := h' }) : wpAny M A (noteFrame (.ref x) env) Q E s := by
  obtain ⟨oe, ws, T, oT, ts, e1, ⟨c1, c2⟩, d1, d2, n1, n2, e3, d3, t3⟩ := tr
  obtain ⟨v2, s2, l1⟩ := ly
  rw [l1] at e1; cases e1; cases d1
  unfold noteFrame
  simp only [el]
  refine wpAny_bind (wpAny_field l1 rfl d2 ?_)
  rw [if_pos (show (Value.ref T != Value.none) = true from by simp)]
  refine wpAny_bind (wpAny_field e3 d3 t3 ?_)
  rw [if_neg (show ¬ ((Value.none == rawInt L) = true) from by simp [rawInt])]
  refine wpAny_bind (wpAny_setField e3 d3 (Array.getElem?_eq_some_iff.mp t3).1 ?_)
  have oth : ∀ b, b ≠ T → (s.heap.update T (Obj.mapFields (·.setIfInBounds 3 Value.none))).get? b = s.heap.get? b := fun b nb => Heap.get?_update_other _ _ (Ne.symm nb)
  have nr : ∀ b o, s.heap.get? b = some o → (∀ us, o.data ≠ .fields us) → b ≠ T := fun b o e n z => by rw [z, e3] at e; cases e; exact n ts d3
  refine entryD fr (ff.of_keeps fun b o e n => ⟨o, (oth b (nr b o e n)).trans e, rfl⟩) el ((oth x (Ne.symm n2)).trans l1) (fun b o e => (oth b fun z => by rw [z, n1] at e; cases e).trans (bs b o e)) bx (Array.getElem?_eq_some_iff.mp d2).1 c2 fun h' N ly' => q h' ⟨N.1, N.2.1, N.2.2.1, fun b o e n => N.2.2.2 b o ((oth b (nr b o e n)).trans e) n⟩ ly'
noncomputable def FlyD (base : Heap) (l : List Env) (x C : Addr) (od : Option Addr) (a0 : Value) (h : Heap) : Prop := Heap.FlyingW base l x (.ref C) a0 h ∧ Lies h x C od
theorem leavesD (fr : A.frames = some (env :: outer)) (el : env.frame = some L) (f : FlyD base (env :: outer) x C od a0 s.heap) (q : ∀ h', FlyD base outer x C od a0 h' → s.heap.UpToSlots h' → Q () { s with heap := h' }) : wpAny M A (leaving env (.ref x)) Q E s := by
  obtain ⟨⟨f1, f2, f3, f4⟩, ly⟩ := f
  unfold leaving
  refine wpAny_bind (noteD fr f3 el f4 f1 f2 ly fun h1 N l1 => landD (s := { s with heap := h1 }) N.1 N.2.1 N.2.2.1 l1 fun h2 b2 g2 t2 u2 l2 => ?_)
  obtain ⟨_, _, g3⟩ := g2
  exact q h2 ⟨⟨b2, f2, g3, t2⟩, l2⟩ (Heap.UpToSlots.trans N.2.2.2 u2)
end

noncomputable def CXF (P : Program) (w : World) : CXT := fun outer H s E e s' => ∃ (x C : Addr) (od : Option Addr) (a0 : Value) (H' : Hp) (B : Heap), e = .ref x ∧ s'.os = s.os ∧ AllBare s'.gens ∧ Un (frs outer) [] H H' s.heap s'.heap ∧ HOk P w H' s'.heap ∧
  FlyD B outer x C od a0 s'.heap ∧ Spares (frs outer) H' s.heap s'.heap B ∧ H' x = none ∧ s.heap.get? x = none ∧ E (.ref C) (some x) (upd H' x (exO false x C od))
section
variable {X : Cx} {pins : List (Addr × Obj)} {σ : St} {H2 : Hp} {s2 : Shared} {h3 : Heap} {n : Bool} {x C : Addr} {od : Option Addr}
end
section
variable {P : Program} {w : World} {K : PySem.W.Frag} {mg : Str → Option Value} {base : Heap} {N : List Str} {qual : Str} {scope : Scope} {f : Addr} {cd : Value} {A : Around} {outer : List Env} {s : Shared} {H : Hp} {E : XK}
theorem pass_onF : Passes (CXF P w) (cxOf (CXF P w) P w K mg base N qual scope f cd A outer s H E) E := by
  intro pins σ H1 s1 e s2 I h
  obtain ⟨x, C, od, a0, H2, B, rfl, os, bare, u, ok, fl, hB, hx, hnew, q⟩ := h
  refine leavesD (base := B) I.ok.frames rfl fl fun h3 fl3 up => ?_
  obtain ⟨U, ok3, hB3⟩ := leave_of I rfl u ok hB fl3.1.1 up
  refine ⟨x, C, od, a0, H2, B, rfl, os.trans I.os, bare, U, ok3, fl3, hB3, hx, ?_, q⟩
  cases z : s.heap.get? x with
  | none => rfl
  | some v =>
    obtain ⟨o1, e1⟩ := I.base.there x v z (by intro c; exact absurd (show x ∈ ([] : List Addr) from c) (by simp))
    rw [hnew] at e1; cases e1
theorem own_outF : PassesOwn (model P w) (A.deeper (envOfC qual scope s.heap.objs.size f cd)) (envOfC qual scope s.heap.objs.size f cd) (cxOf (CXF P w) P w K mg base N qual scope f cd A outer s H E).xe := PassesOwn.leaving
theorem Fun.okF {x : Str} {st : Stmt} {fd : FuncData} {ps : List Str} {k : Nat} {sp : Sp} (F : Fun K x qual st f fd) (S : FnScope N ps (defScope st)) (len : ∀ vs H Q E, sp vs H Q E → vs.length = ps.length)
    (hbody : ∀ (cdv : Value) (A : Around) (outer : List Env) (s : Shared) (H : Hp) (vs : List V) (Q : VK) (E : XK), Room k (A.deeper (envOfC qual (defScope st) s.heap.objs.size f cdv)) → sp vs H Q E →
      ∃ t, PSs (cxOf (CXF P w) P w K mg base N qual (defScope st) f cdv A outer s H E) (defBody st) t ∧ t { nx := fun _ H' => Q .non H', rt := Q } (start N vs) H) : FnOk P w K mg base (CXF P w) (k + 1) f fd ps sp := by
  obtain ⟨oc, od, kV, doc, pm, an, cdv, ct, osl, rfl, lk, hcd⟩ := F.ex
  exact fn_of lk hcd S len fun A outer s H vs Q E hr hsp => hbody cdv A outer s H vs Q E hr hsp
end

structure ExK (K : PySem.W.Frag) (C : Addr) : Prop where
  at_ : ∀ h : Heap, K.In h → ∃ (nm q : Str) (N : Addr) (bs bm : List Value) (hd : Bool) (sn : List Str) (su : List Value) (ab : Bool) (co : Option Bool) (dd : Option Addr) (k0 k1 k2 k3 k5 : Option Value) (nw : String),
    h.get? C = some (excClassObj nm q C N bs bm hd sn su ab co dd k0 k1 k2 k3 k5 nw) ∧ bm.contains (.type "BaseException") = true
section
variable {X : Cx} {H₀ : Hp} {EE : St → XK} {C : Addr} {e : Expr} {ta : TE} {pos : Pos}
end
section
variable {X : Cx} {H₀ : Hp} {CX : CXT} {EE : St → XK} {k j : Nat} {C : Addr} {ps : List Str} {sp : Sp} {x : Str} {np cpos pos : Pos} {e : Expr} {es : List Expr} {t : TA}
end
section
variable {σ : St} {H H₀ : Hp} {Q : VK} {D : Ends} {K : PySem.W.Frag} {C : Addr} {EE : St → XK} {t : TA} {sp : Sp}
end

section
variable {X : Cx} {pins : List (Addr × Obj)} {σ : St} {H : Hp} {x C : Addr} {od : Option Addr} {s : Shared}
end
section
variable {X : Cx} {Cn n : Str} {c : Value} {i : Nat} {np pos : Pos} {b₀ : Stmt} {suite : List Stmt} {rest : List ExceptHandler} {ts : Addr → TS} {tr : TH}
end
section
variable {σ : St} {H : Hp} {D : Ends} {K : PySem.W.Frag}
theorem rd_fldX {Q : VK} {ta : TE} {f : Str} : tFldX K ta f σ H Q = ta σ H fun x H1 => ∃ nw a C B dx fs v, x = .ref a ∧ H1 a = some (exO nw a C (some dx)) ∧ H1 dx = some (exD dx fs) ∧ ExcQ K C B ∧ PySem.W.findIn K (.ref C) f = some none ∧ fs.lookup f = some v ∧ Q v H1 := rfl
theorem rd_sfldX {ta tv : TE} {f : Str} : sFldX K ta tv f D σ H = tv σ H fun y H1 => ta σ H1 fun x H2 => ∃ nw a C B, x = .ref a ∧ ExcQ K C B ∧ PySem.W.findIn K (.ref C) f = some none ∧
  ((H2 a = some (exO nw a C none) ∧ ∀ dx, H2 dx = none → D.nx σ (upd (upd H2 a (exO nw a C (some dx))) dx (exD dx (putF f y [])))) ∨
   ∃ dx fs, H2 a = some (exO nw a C (some dx)) ∧ H2 dx = some (exD dx fs) ∧ fs.length < 1000 ∧ D.nx σ (upd H2 dx (exD dx (putF f y fs)))) := rfl
theorem rd_exc {C : Addr} {t : TA} {Q : VK} : tExc C t σ H Q = t σ H fun vs H1 => vs.length ≤ sizeLine ∧ ∀ x, H1 x = none → Q (.ref x) (upd H1 x (exO true x C none)) := rfl
theorem rd_excI {C : Addr} {sp : Sp} {EE : St → XK} {t : TA} {Q : VK} : tExcI C sp EE t σ H Q = t σ H fun vs H1 => vs.length ≤ sizeLine ∧ ∀ x, H1 x = none → sp (.ref x :: vs) (upd H1 x (exO true x C none)) (fun v H2 => v = .non ∧ Q (.ref x) H2) (EE σ) := rfl
end
section
open PySem.W
theorem walk_ofKF {l : PySem.W.OpenLaw} {n k : Nat} {q : Program} {loose : List Str} {XP : (Str → Option Value) → Heap → Prop} {YP : World → Heap → Prop} {d : DefRec} {K : Params → PySem.W.Frag} {sp : PySem.W.Frag → Sp} {x : Str}
    (hn : l.most = some n) (hn2 : n ≤ sizeLine) (hdf : d.params.defaults = []) (hr : Room k callerA) (hY : ∀ (w : World) (h : Heap), YP w h → (K w.params).In h)
    (F : ∀ (w : World) (mg : Str → Option Value) (fa : Addr) (h : Heap), (K w.params).In h → h.Ns mainGlobals mg → mg d.name = some (.ref fa) →
      ∃ fd : FuncData, (∀ (s : Shared) (u : Value), BindsTo s fd ⟨[u], []⟩ [(x, u)]) ∧ ∀ base : Heap, (K w.params).In base → base.Ns mainGlobals mg → FnOk l.prog w (K w.params) mg base (CXF l.prog w) k fa fd [x] (sp (K w.params)))
    (hsp : ∀ (K : PySem.W.Frag) (H : Hp) (a : Addr) (ns : List Int), ns.length ≤ n → Only H → SqL K H a (ns.map V.int) → sp K [.ref a] H (fun v _ => v = .bl true) fun _ _ _ => False) :
    PySem.W.WalkO q loose XP YP l.row.toRowW d [] (fun f vs => PySem.call f vs) :=
  walk_of (K := K) (CX := fun w => CXF l.prog w) (sp := fun w => sp (K w.params)) hn hn2 hdf hr hY F (fun w H a ns h1 h2 h3 => hsp (K w.params) H a ns h1 h2 h3) fun _ _ _ _ _ ⟨_, _, _, _, _, _, _, _, _, _, _, _, _, _, _, z⟩ => z
end
section
open PySem.W
variable {K : Frag} {C N A f : Addr} {nm q : Str} {bs : List Value} {hdct : Bool} {sn : List Str} {sub : List Value} {ab : Bool} {col : Option Bool} {dd : Option Addr} {k0 k1 k2 k3 k5 : Option Value} {oc c0 oc2 : Value} {od dA od2 : Option Addr} {es es2 : Array DictEntry} {ep ep2 : Nat} {sl slA sl2 : Array (Option Value)} {cdA : ClassData} {nw : String}
theorem mkX_of {fo : Obj} (lC : K.lookup C = some (excClassObj nm q C N bs (.ref A :: veTail) hdct sn sub ab col dd k0 k1 k2 k3 k5 "ValueError.__new__")) (lN : K.lookup N = some ⟨oc, od, .dict es ep, sl⟩) (sN : strKeysB es = true) (iN : nsFind es "__init__" = some (.ref f))
    (lA : K.lookup A = some ⟨c0, dA, .cls cdA, slA⟩) (lNA : K.lookup cdA.ns = some ⟨oc2, od2, .dict es2 ep2, sl2⟩) (sNA : strKeysB es2 = true) (iNA : nsFind es2 "__init__" = none) (lF : K.lookup f = some fo) (cF : fo.cls = .type "function") (kp : keepIn K (.ref C) = true) : MkX K C f :=
  ⟨fun h X => ⟨nm, q, N, bs, _, hdct, sn, sub, ab, col, dd, k0, k1, k2, k3, k5, nsFind es, X _ _ lC, ns_of X lN sN, iN, .own (X _ _ lA) (ns_of X lNA sNA) iNA .base⟩, ⟨fo, lF, cF⟩, kp⟩
theorem excQ_of (lC : K.lookup C = some (excClassObj nm q C N bs (.ref A :: veTail) true sn sub ab col dd k0 k1 k2 k3 k5 nw)) (ga : findIn K (.ref C) "__getattribute__" = some (some (.builtin "BaseException.__getattribute__"))) (gh : findIn K (.ref C) "__getattr__" = some none)
    (sa : findIn K (.ref C) "__setattr__" = some (some (.builtin "object.__setattr__"))) : ExcQ K C A := by
  refine ⟨⟨ga, gh⟩, ?_, sa⟩
  unfold clsIn
  rw [lC]
  exact ⟨_, rfl, rfl, rfl⟩
end
end L2

set_option Elab.async false
set_option linter.all false
set_option maxRecDepth 100000
set_option maxHeartbeats 4000000
namespace L2
open PySem PySem.Spec PyProof.Rows

section
variable {X : Cx}
end
section
variable {σ : St} {H : Hp} {Q : VK} {xs : List V} {x y : V}
end
section
variable {i j : Int} {a b : Bool} {x y : Str}
theorem sc_nn : scal .non .non = true := rfl
theorem sc_ni : scal .non (.int j) = true := rfl
theorem sc_in : scal (.int i) .non = true := rfl
theorem sc_nb : scal .non (.bl b) = true := rfl
theorem sc_bn : scal (.bl a) .non = true := rfl
theorem sc_ns : scal .non (.str y) = true := rfl
theorem sc_sn : scal (.str x) .non = true := rfl
theorem sc_ii : scal (.int i) (.int j) = true := rfl
theorem sc_bb : scal (.bl a) (.bl b) = true := rfl
theorem sc_ss : scal (.str x) (.str y) = true := rfl
theorem sc_is : scal (.int i) (.str y) = true := rfl
theorem sc_si : scal (.str x) (.int j) = true := rfl
theorem sc_bs : scal (.bl a) (.str y) = true := rfl
theorem sc_sb : scal (.str x) (.bl b) = true := rfl
end
end L2

set_option linter.all false
set_option maxHeartbeats 1000000
namespace L2
open PySem PySem.Spec PyProof.Rows N1 N5
section
variable {K : PySem.W.Frag} {tail : St} {te : Blk → TE} {Q : VK} {H1 : Hp}
end
end L2
namespace N4
open PySem PySem.Spec PyProof.Rows L2 N1 N5
noncomputable def unkF (n p : V) : List (Str × V) := putF "place" p (putF "name" n [])
theorem unk_name {n p : V} : (unkF n p).lookup ("name" : Str) = some n := by
  unfold unkF
  rw [lookup_putF, if_neg (by decide), lookup_putF, if_pos rfl]
theorem unk_place {n p : V} : (unkF n p).lookup ("place" : Str) = some p := by
  unfold unkF
  rw [lookup_putF, if_pos rfl]
noncomputable def sp_unk (C : Addr) : Sp := fun vs H Q _ => ∃ (x : Addr) (n p : V) (nw : Bool), vs = [.ref x, n, p] ∧ H x = some (exO nw x C none) ∧ ∀ dx, H dx = none → Q .non (upd (upd H x (exO nw x C (some dx))) dx (exD dx (unkF n p)))
section
variable {K : PySem.W.Frag} {C : Addr} {H H' : Hp} {p : Addr} {ts : List Th} {z : Str}
end
noncomputable def sp_whole : Sp := fun vs H Q _ => ∃ a b : Int, vs = [.int a, .int b] ∧ Q (.bl (decide (a = b))) H
end N4

set_option Elab.async false
set_option linter.all false
set_option maxRecDepth 100000
set_option maxHeartbeats 4000000
namespace L2
open PySem PySem.Spec PyProof.Rows

structure ExcI (K : PySem.W.Frag) (C : Addr) : Prop where
  ga : PySem.W.findIn K (.ref C) "__getattribute__" = some (some (.builtin "BaseException.__getattribute__"))
  gh : PySem.W.findIn K (.ref C) "__getattr__" = some none
  ca : PySem.W.findIn K (.ref C) "__class__" = some (some (.builtin "object.__class__"))
  gs : PySem.W.specialIn K (.builtin "object.__class__") "__get__" = some (some (.builtin "getset_descriptor.__get__"))
  tk : PySem.W.takesIn K (.builtin "object.__class__") = some true
  mb : PySem.W.mroIn K C (.type "BaseException") = some true
  mo : PySem.W.mroIn K C (.type "object") = some true
  cl : ∃ cd : ClassData, PySem.W.clsIn K C = some cd
section
open PySem.W PySem.Builtin PySem.Builtin.ObjectAttr
variable {Pg : Program} {w : World} {A : Around} {s : Shared} {K : Frag} {x C : Addr} {ox : Obj} {od : Option Obj}
theorem class_exc {Q : Option Value → Shared → Prop} {E : Value → Shared → Prop} (X : K.In s.heap) (J : PySem.W.InstAt s.heap x ox C od) (q : ExcI K C) (h : Q (some (.ref C)) { s with toks := s.toks + 1 }) :
    wpAny (model Pg w) A (getAttr? (.ref x) "__class__") Q E s := by
  obtain ⟨cd, hc⟩ := q.cl
  have hf : findObj K C od "__class__" = some (.bind (.builtin "getset_descriptor.__get__") (.builtin "object.__class__")) := by
    unfold findObj
    rw [hc, q.ca]
    simp only [Option.bind_some]
    rw [q.gs]
    simp only [Option.bind_some]
    rw [q.tk]
    rfl
  obtain ⟨hp, g, d, t, os⟩ := s
  have l0 := J.type (M := model Pg w)
  have l1 := looks_findIn (M := model Pg w) X q.ga
  have l2 := looks_findIn (M := model Pg w) X q.gh
  have l3 := looks_find (M := model Pg w) X J hf
  have sub : Looks (model Pg w) hp (isInstance (.ref x) (.type "BaseException")) true := J.type.andThen (looks_mroIn X q.mb)
  unfold getAttr? getAttrBy? getAttrBy; refine wpAny_bind (wpAny_mkText (wpAny_bind (wpAny_attempt (wpAny_holding (wpAny_bind (l0.at (wpAny_bind (l1.at ?_))))))))
  have b1 := PySem.F.excAttr_ValueError.ga.bind (.ref x)
  have b3 : (Value.builtin "BaseException.__getattribute__" == Value.builtin "object.__getattribute__") = false := by decide +kernel
  have b4 : (onTheHeap (Value.ref C) && Value.builtin "BaseException.__getattribute__" == Value.builtin "object.__getattribute__") = false := by rw [b3]; rfl
  show wpAny _ _ (if (onTheHeap (Value.ref C) && Value.builtin "BaseException.__getattribute__" == Value.builtin "object.__getattribute__") = true then _ else _) _ _ _
  rw [if_neg (by rw [b4]; decide)]
  unfold getAttrByItsOwn hookBefore
  rw [if_pos (show onTheHeap (Value.ref C) = true from rfl)]
  refine wpAny_bind (l2.at ?_)
  (repeat (any_goals (first | assumption | wp_step))); refine codeAny_call_builtin PySem.F.excAttr_ValueError.ga.plain PySem.F.entry_bexc_ga (@check_slot (model Pg w) _ _ _ "BaseException.__getattribute__" "BaseException" "__getattribute__" (.ref x) [.str "__class__" t] [] _ (by decide +kernel) (by decide +kernel) sub (PySem.F.args_bexc_ga _ _) ?_)
  unfold Builtin.«object.__getattribute__»; repeat (any_goals (first | assumption | with_reducible refine l0.at ?_ | with_reducible refine l3.at ?_ | wp_step))
  refine class_get X J q.mo ?_
  show wpAny _ _ (ret (Value.ref C)) _ _ _
  refine wpAny_pure ?_
  show wpAny _ _ (handedOut (Value.ref C)) _ _ _
  rw [handedOut_of rfl]; exact wpAny_pure (wpAny_pure h)
theorem kitx_exc (q : ExcI K C) : KitX K (.ref x) (.ref C) (fun h => ∃ ox od, PySem.W.InstAt h x ox C od) where
  ty := fun _ _ _ ⟨_, _, I⟩ => I.type
  it := fun _ _ X _ => by
    obtain ⟨cd, hc⟩ := q.cl
    unfold clsIn at hc
    split at hc
    · rename_i c' d' cd' sl' ho
      intro A' Q' E' s' k z
      unfold isType loadHead
      exact wpAny_bind (wpAny_loadPart (k _ _ (X _ _ ho)) (wpAny_pure z))
    · cases hc
  ne := fun _ b0 _ _ _ _ X hb => by
    obtain ⟨cd, hc⟩ := q.cl
    refine Bool.eq_false_iff.mpr fun zz => ?_
    have e : C = b0 := Value.ref.inj (beq_iff_eq.mp zz)
    subst e; unfold clsIn at hc
    split at hc
    · rename_i c' d' cd' sl' ho
      have y0 := (X _ _ ho).symm.trans hb; cases y0
    · cases hc
  ca := fun X ⟨_, _, I⟩ k => class_exc X I q k
end
noncomputable def rIsiX (K : PySem.W.Frag) : List V → Hp → VK → Prop := fun xs H Q => ∃ (n : Bool) (p C : Addr) (od : Option Addr) (c : V) (u : Value) (b : Bool), xs = [.ref p, c] ∧ RelV c u ∧ (∀ u', RelV c u' → u' = u) ∧ H p = some (exO n p C od) ∧ (∀ dx, od = some dx → ∃ fs, H dx = some (exD dx fs)) ∧ ExcI K C ∧ PySem.W.kitOne K (.ref C) u = some b ∧ Q (.bl b) H
section
variable {X : Cx}
theorem call_isiX : CallR X (.builtin "isinstance") (rIsiX X.K) := by
  intro pins s σ H xs us Q I r h
  obtain ⟨n, p, C, od, c, u, b, rfl, rc, un, hp, hd, q, e, z⟩ := h
  obtain ⟨v, u2, rfl, r1, r2⟩ := vals2 r
  cases (show v = Value.ref p from r1)
  cases un _ r2
  obtain ⟨vs, sl, e1, _⟩ := (I.hok p _ hp).1
  have J : ∃ ox od, PySem.W.InstAt s.heap p ox C od := by
    cases od with
    | none => exact ⟨_, none, e1, rfl, rfl, trivial⟩
    | some dx =>
      obtain ⟨fs, hdx⟩ := hd dx rfl
      obtain ⟨o, ho⟩ := I.hok.there hdx
      exact ⟨_, some o, e1, rfl, rfl, ho⟩
  exact PySem.W.kia_one (kitx_exc q) I.kIn J e (by intro z; cases z) fun tk => ⟨.bl b, H, I.tok _, rfl, z⟩
end
noncomputable def tMethA (G : Addr → Str → Prop) (sp : Str → Sp) (m : Str) (EE : St → XK) (ta : TE) : TE := fun σ H Q => ta σ H fun x H1 => ∃ nw a C i, G C i ∧ x = .ref a ∧ (H1 a = some (exO nw a C none) ∨ ∃ dx fs, H1 a = some (exO nw a C (some dx)) ∧ H1 dx = some (exD dx fs) ∧ fs.lookup m = none) ∧ sp i [x] H1 Q (EE σ)
section
variable {X : Cx} {CX : CXT} {k j : Nat} {G : Addr → Str → Prop} {sp : Str → Sp} {ps : List Str} {EE : St → XK} {m : Str} {pos apos : Pos} {o : Expr} {ta : TE}
theorem pe_methA {pl : Sem Bool} (D : ∀ C i, G C i → DefM X.prog X.w X.K X.mg X.base CX j C m ps (sp i) ∧ ExcG X.K C) (hr : Room k X.A) (hx : PassesS CX X EE) (he : PE X o ta) (hj : j ≤ k := by decide)
    (ht : eval (.Call (.Attribute o m apos) [] [] pos) X.env = (do
      let ov ← eval o X.env
      standAt apos.atName
      let (f, first) ← holding [ov] (getMethod ov m pl)
      callWith pos f first (backTo pos (starEach [] X.env)) (backToKw pos (keywordEach [] X.env))) := by rfl) :
    PE X (.Call (.Attribute o m apos) [] [] pos) (tMethA G sp m EE ta) := by
  intro pins s σ H Q I h
  refine PySem.W.methodCall_KW (pl := pl) (thn (he pins s σ H _ I h) fun u s1 ⟨x, H1, I1, rx, nw, a, C, i, g, ex, ea, q⟩ => ?_) ht
  obtain ⟨⟨f, fd, F, hm, hb⟩, c⟩ := D C i g
  subst ex
  cases (show u = Value.ref a from rx)
  have fin := PySem.W.callWith_K0 (pos := pos) (env := X.env) (first := [.ref a]) I1.kIn hm.kp (run_fnS (us := [.ref a]) (vs := [.ref a]) (F.mono hj) hr hb hx I1 (.cons rfl .nil) q)
  rcases ea with ea | ⟨dx, fs, ea, ed, l⟩
  · exact methx_ok0 I1 c ea hm fin
  · exact methx_ok1 I1 c ea ed l hm fin
end
section
open PySem.W
variable {K : Frag} {C D : Addr} {cd : ClassData}
theorem kit_self : kitOne K (.ref C) (.ref C) = some true := by
  unfold kitOne
  rw [if_pos (by simp)]
theorem kit_ref {b : Bool} (self : subIn K (.ref C) (.ref C) = some true) (cl : clsIn K D = some cd) (ty : typeIn K (.ref D) = some (.type "type")) (s : subIn K (.ref C) (.ref D) = some b) : kitOne K (.ref C) (.ref D) = some b := by
  by_cases e : C = D
  · subst e
    rw [self] at s
    rw [kit_self, s]
  · unfold kitOne kitCls
    rw [if_neg (by simp [e])]
    dsimp only
    rw [cl, ty]
    exact s
end
section
variable {σ : St} {H : Hp} {Q : VK} {K : PySem.W.Frag}
theorem rd_methA {G : Addr → Str → Prop} {sp : Str → Sp} {m : Str} {EE : St → XK} {ta : TE} : tMethA G sp m EE ta σ H Q = ta σ H fun x H1 => ∃ nw a C i, G C i ∧ x = .ref a ∧ (H1 a = some (exO nw a C none) ∨ ∃ dx fs, H1 a = some (exO nw a C (some dx)) ∧ H1 dx = some (exD dx fs) ∧ fs.lookup m = none) ∧ sp i [x] H1 Q (EE σ) := rfl
noncomputable def ExAt (H : Hp) (p C : Addr) : Prop := ∃ n, H p = some (exO n p C none) ∨ ∃ dx fs, H p = some (exO n p C (some dx)) ∧ H dx = some (exD dx fs) ∧ fs.lookup ("word" : Str) = none
theorem ExAt.same {H H' : Hp} {p C : Addr} (s : Same H H') (h : ExAt H p C) : ExAt H' p C := by
  obtain ⟨n, h | ⟨dx, fs, h1, h2, h3⟩⟩ := h
  · exact ⟨n, .inl (s _ _ h)⟩
  · exact ⟨n, .inr ⟨dx, fs, s _ _ h1, s _ _ h2, h3⟩⟩
theorem isiX_go {p C D : Addr} {b : Bool} (h : ExAt H p C) (q : ExcI K C) (e : PySem.W.kitOne K (.ref C) (.ref D) = some b) (z : Q (.bl b) H) : rIsiX K [.ref p, .ref D] H Q := by
  obtain ⟨n, h | ⟨dx, fs, h1, h2, h3⟩⟩ := h
  · exact ⟨n, p, C, none, _, _, b, rfl, rfl, fun u r => r, h, fun dx e => (by cases e), q, e, z⟩
  · exact ⟨n, p, C, some dx, _, _, b, rfl, rfl, fun u r => r, h1, fun dy e => by cases e; exact ⟨fs, h2⟩, q, e, z⟩
theorem isiX_ty {p C : Addr} {n' : String} {b : Bool} (h : ExAt H p C) (q : ExcI K C) (e : PySem.W.kitOne K (.ref C) (.type n') = some b) (z : Q (.bl b) H) : rIsiX K [.ref p, .ty n'] H Q := by
  obtain ⟨n, h | ⟨dx, fs, h1, h2, h3⟩⟩ := h
  · exact ⟨n, p, C, none, _, _, b, rfl, rfl, fun u r => r, h, fun dx e => (by cases e), q, e, z⟩
  · exact ⟨n, p, C, some dx, _, _, b, rfl, rfl, fun u r => r, h1, fun dy e => by cases e; exact ⟨fs, h2⟩, q, e, z⟩
end
section
open PySem.W
variable {K : Frag} {C N : Addr} {nm q : Str} {bs : List Value} {hdct : Bool} {sn : List Str} {sub : List Value} {ab : Bool} {col : Option Bool} {dd : Option Addr} {k0 k1 k2 k3 k5 : Option Value} {oc : Value} {od : Option Addr} {es : Array DictEntry} {ep : Nat} {sl : Array (Option Value)}
theorem excC_of0 (lC : K.lookup C = some (excClassObj nm q C N bs [.type "ValueError", .type "Exception", .type "BaseException", .type "object"] hdct sn sub ab col dd k0 k1 k2 k3 k5 "ValueError.__new__"))
    (lN : K.lookup N = some ⟨oc, od, .dict es ep, sl⟩) (sN : strKeysB es = true) (iN : nsFind es "__init__" = none) : ExcC K C :=
  ⟨fun h X => ⟨nm, q, N, bs, _, hdct, sn, sub, ab, col, dd, k0, k1, k2, k3, k5, nsFind es, X _ _ lC, ns_of X lN sN, iN, .base⟩⟩
noncomputable def RowL (K : Frag) (C : Addr) (k : Nat) : Nat → List Addr → Prop
  | _, [] => True
  | i, D :: ds => kitOne K (.ref C) (.ref D) = some (decide (i = k)) ∧ RowL K C k (i + 1) ds
structure RowI (K : Frag) (ds : List Addr) (CE C : Addr) (k : Nat) : Prop where
  q : ExcI K C
  ce : kitOne K (.ref C) (.ref CE) = some true
  ve : kitOne K (.ref C) (.type "ValueError") = some true
  row : RowL K C k 0 ds
end
end L2

set_option linter.all false
set_option maxHeartbeats 1000000
namespace N9
open PySem PySem.Spec PyProof.Rows L2 N1 N5 N4
theorem ix_let (i : Int) : atI (Str.ofString "abcdefghijklmnopqrstuvwxyz").cps.toList (i % 26) = some (bc (i % 26)) := by
  have h2 := Int.emod_lt_of_pos i (show (0 : Int) < 26 by decide)
  have h3 := Int.emod_nonneg i (show (26 : Int) ≠ 0 by decide)
  refine atI_of h3 ?_
  have hl : letters.length = 26 := by decide
  have h4 : (i % 26).toNat < letters.length := by rw [hl]; omega
  unfold bc
  rw [let_list, List.getD_eq_getElem?_getD, List.getElem?_append_left h4, List.getElem?_eq_getElem h4]
  rfl
theorem unk_word {n p : V} : (unkF n p).lookup ("word" : Str) = none := by
  unfold unkF
  rw [lookup_putF, if_neg (by decide), lookup_putF, if_neg (by decide)]
  rfl
theorem bad_word {p : V} : (putF ("place" : Str) p []).lookup ("word" : Str) = none := by
  rw [lookup_putF, if_neg (by decide)]
  rfl
theorem bad_place {p : V} : (putF ("place" : Str) p []).lookup ("place" : Str) = some p := by
  rw [lookup_putF, if_pos rfl]
noncomputable def words : List Str := ["no name", "no number", "twice", "too many", "unknown", "too wide", "there", "not there", "full", "bad book", "bad paper", "no rule", "unlike", "no line", "refused"].map Str.ofString
noncomputable def sp_word (z : Str) : Sp := fun vs H Q _ => ∃ x : V, vs = [x] ∧ Q (.str z) H
noncomputable def sp_bad (C : Addr) : Sp := fun vs H Q _ => ∃ (x : Addr) (p : V) (nw : Bool), vs = [.ref x, p] ∧ H x = some (exO nw x C none) ∧ ∀ dx, H dx = none → Q .non (upd (upd H x (exO nw x C (some dx))) dx (exD dx (putF "place" p [])))
noncomputable def sp9_is (K : PySem.W.Frag) (ds : List Addr) (CE : Addr) (tbl : List (Addr × Str)) : Sp := fun vs H Q _ => ∃ (p C : Addr) (k : Nat) (w : Str), vs = [.ref p, .int k] ∧ ExAt H p C ∧ RowI K ds CE C k ∧ (C, w) ∈ tbl ∧ words[k]? = some w ∧ ∀ H', Same H H' → Q (.bl true) H'
noncomputable def sp9_plain : Sp := fun vs H Q _ => ∃ z : Str, vs = [.str z] ∧ z.length ≤ 100 ∧ ∀ H', Same H H' → Q (.bl true) H'
end N9

set_option Elab.async false
set_option linter.all false
set_option maxRecDepth 100000
set_option maxHeartbeats 4000000

namespace K09
open PySem PySem.Spec PyProof.Rows L2 N1 N5 N4 N9
local macro_rules | `(tactic| walk_at "rd") => `(tactic| simp only [rd_asg, rd_var, rd_c, rd_op, rd_I0, rd_I, rd_U, rd_name, rd_ifS, rd_test, rd_b, rd_ret, rd_next, rd_cb, rd_cons, rd_nil, rd_call, rd_not, rd_or, rd_and, rd_andV, rd_orV, rd_notV, rd_un, rd_eq, rd_ne, rd_lst, rd_rng1, rd_for', sc_nn, sc_ni, sc_in, sc_nb, sc_bn, sc_ns, sc_sn, sc_ii, sc_bb, sc_ss, sc_is, sc_si, sc_bs, sc_sb, rd_sl, rd_noPart, rd_part, rd_slS, true_implies, false_implies, Bool.false_and, Bool.true_and, Bool.and_true, Bool.and_false, Bool.false_or, Bool.true_or, Bool.or_true, Bool.or_false, Int.zero_add, Int.toNat_natCast, upd_upd, List.map_cons, List.map_nil, List.getD_cons_zero, List.getD_cons_succ, cxOf_K, List.length_cons, List.length_nil, List.getElem?_cons_zero, List.getElem?_cons_succ, List.set_cons_zero, List.set_cons_succ, Option.some.injEq, V.int.injEq, V.bl.injEq, V.str.injEq, V.ref.injEq, V.ty.injEq, exists_eq_left', exists_eq_left, exists_and_left, exists_eq, exists_eq', List.cons.injEq, and_true, true_and, decide_eq_true_eq, Bool.not_eq_true', decide_eq_false_iff_not, reduceCtorEq, exists_const, Bool.true_eq_false, Bool.false_eq_true, if_true, if_false, ite_true, ite_false, Bool.not_true, Bool.not_false, decide_true, decide_false, Bool.not_not, false_and, and_false, exists_false, false_or, or_false, true_or, or_true, and_assoc, not_true_eq_false, not_false_eq_true, Int.reduceToNat, Nat.reduceAdd, rd_fldX, rd_sfldX, rd_exc, rd_excI, rd_methA, exists_eq_right, sp_cell, sp_law, sp_unk, sp_whole, sp_word, sp_bad, sp9_is, sp9_plain])
local macro_rules | `(tactic| walk_at "hp") => `(tactic| first | with_reducible assumption | exact upd_same | (rw [upd_ne (by first | with_reducible assumption | exact ne_of_none (by with_reducible assumption) (by with_reducible assumption))]; first | with_reducible assumption | exact upd_same))
local macro_rules | `(tactic| walk_at "sq") => `(tactic| (repeat' first | with_reducible assumption | exact SqT.of upd_same | exact SqL.of upd_same | refine' Same.tup (Same.new (by with_reducible assumption)) ?_ | refine' Same.seq (Same.new (by with_reducible assumption)) ?_))
local macro_rules | `(tactic| walk_at "isi") => `(tactic| first | exact isi_ii | exact isi_ib | exact isi_bb | exact isi_is | exact isi_ss | exact isi_si | exact isi_sb | exact isi_bi | exact isi_bs | exact isi_ni | exact isi_ns | exact isi_tupt (by walk_at "hp") | exact isi_lstl (by walk_at "hp") | exact isi_tupl (by walk_at "hp") | exact isi_lstt (by walk_at "hp") | exact isi_tups (by walk_at "hp") | exact isi_lsts (by walk_at "hp") | exact isi_tupi (by walk_at "hp") | exact isi_lsti (by walk_at "hp"))
local macro_rules | `(tactic| walk_at "slen") => `(tactic| first | omega | decide +kernel | (refine le_app ?_ ?_ <;> walk_at "slen"))
local macro_rules | `(tactic| walk_at "side") => `(tactic| first | with_reducible assumption | with_reducible exact cdiv_of (by omega) (by omega) | with_reducible exact cpow_of (by decide) (by decide) (by decide) | with_reducible exact cmul_l (by omega) (by omega) | with_reducible exact cmul_r (by omega) (by omega) | omega | decide | decide +kernel | (have := line_val; omega) | (simp only [len_app, len_one, line_val]; omega) | (rw [line_val]; walk_at "slen"; done))
local macro_rules | `(tactic| walk_at "go1") => `(tactic| first | walk_at "rd" | ((with_reducible refine And.intro ?_ ?_); (focus (walk_at "side"; done))) | ((with_reducible apply isi_go); (focus (walk_at "isi"; done))) | ((with_reducible apply ixT_of); (focus (walk_at "sq"; done)); (focus rfl)) | ((with_reducible apply ixL_of); (focus (walk_at "sq"; done)); (focus rfl)) | ((with_reducible apply len_goT); (focus (walk_at "sq"; done))) | ((with_reducible apply len_goL); (focus (walk_at "sq"; done))) | ((with_reducible apply script_go); (focus (walk_at "sq"; done)); (focus (assumption; done))) | ((with_reducible apply cell_go); (focus (walk_at "sq"; done)); (focus (decide; done)); (focus (assumption; done))) | (intro (_ : List (Addr × PySem.Obj)) (_ : PySem.Value → PySem.Shared → Prop)) | with_reducible refine seq_go fun _ _ => ?_ | (refine leaf_go (by with_reducible assumption) ?_; subst_vars))
local macro_rules | `(tactic| walk_at "go") => `(tactic| repeat walk_at "go1")

noncomputable def top (i : Nat) : Stmt := PySem.Challenge.pw_castoff_k09_refusals.main.body.getD i (.Pass ⟨0, 0, 0, 0⟩)
structure Txt (K : PySem.W.Frag) (mg : Str → Option Value) (xCastError xNoName xNoNumber xTwice xTooMany xUnknown xTooWide xThere xNotThere xFull xBadBook xBadPaper xNoRule xUnlike xNoLine : Addr) : Prop where
  c_CastError : mg "CastError" = some (.ref xCastError)
  x_CastError : ExcC K xCastError
  k_CastError : PySem.W.keepIn K (.ref xCastError) = true
  c_NoName : mg "NoName" = some (.ref xNoName)
  x_NoName : ExcC K xNoName
  k_NoName : PySem.W.keepIn K (.ref xNoName) = true
  c_NoNumber : mg "NoNumber" = some (.ref xNoNumber)
  x_NoNumber : ExcC K xNoNumber
  k_NoNumber : PySem.W.keepIn K (.ref xNoNumber) = true
  c_Twice : mg "Twice" = some (.ref xTwice)
  x_Twice : ExcC K xTwice
  k_Twice : PySem.W.keepIn K (.ref xTwice) = true
  c_TooMany : mg "TooMany" = some (.ref xTooMany)
  x_TooMany : ExcC K xTooMany
  k_TooMany : PySem.W.keepIn K (.ref xTooMany) = true
  c_Unknown : mg "Unknown" = some (.ref xUnknown)
  c_TooWide : mg "TooWide" = some (.ref xTooWide)
  c_There : mg "There" = some (.ref xThere)
  x_There : ExcC K xThere
  k_There : PySem.W.keepIn K (.ref xThere) = true
  c_NotThere : mg "NotThere" = some (.ref xNotThere)
  x_NotThere : ExcC K xNotThere
  k_NotThere : PySem.W.keepIn K (.ref xNotThere) = true
  c_Full : mg "Full" = some (.ref xFull)
  x_Full : ExcC K xFull
  k_Full : PySem.W.keepIn K (.ref xFull) = true
  c_BadBook : mg "BadBook" = some (.ref xBadBook)
  c_BadPaper : mg "BadPaper" = some (.ref xBadPaper)
  x_BadPaper : ExcC K xBadPaper
  k_BadPaper : PySem.W.keepIn K (.ref xBadPaper) = true
  c_NoRule : mg "NoRule" = some (.ref xNoRule)
  x_NoRule : ExcC K xNoRule
  k_NoRule : PySem.W.keepIn K (.ref xNoRule) = true
  c_Unlike : mg "Unlike" = some (.ref xUnlike)
  x_Unlike : ExcC K xUnlike
  k_Unlike : PySem.W.keepIn K (.ref xUnlike) = true
  c_NoLine : mg "NoLine" = some (.ref xNoLine)
  x_NoLine : ExcC K xNoLine
  k_NoLine : PySem.W.keepIn K (.ref xNoLine) = true
  q_Unknown : ExcQ K xUnknown xCastError
  n_Unknown_name : PySem.W.findIn K (.ref xUnknown) "name" = some none
  n_Unknown_place : PySem.W.findIn K (.ref xUnknown) "place" = some none
  q_TooWide : ExcQ K xTooWide xCastError
  n_TooWide_name : PySem.W.findIn K (.ref xTooWide) "name" = some none
  n_TooWide_place : PySem.W.findIn K (.ref xTooWide) "place" = some none
  q_BadBook : ExcQ K xBadBook xCastError
  n_BadBook_place : PySem.W.findIn K (.ref xBadBook) "place" = some none
  g_NoName : ExcG K xNoName
  g_NoNumber : ExcG K xNoNumber
  g_Twice : ExcG K xTwice
  g_TooMany : ExcG K xTooMany
  g_Unknown : ExcG K xUnknown
  g_TooWide : ExcG K xTooWide
  g_There : ExcG K xThere
  g_NotThere : ExcG K xNotThere
  g_Full : ExcG K xFull
  g_BadBook : ExcG K xBadBook
  g_BadPaper : ExcG K xBadPaper
  g_NoRule : ExcG K xNoRule
  g_Unlike : ExcG K xUnlike
  g_NoLine : ExcG K xNoLine
  g_CastError : ExcG K xCastError
  r_NoName : RowI K [xNoName, xNoNumber, xTwice, xTooMany, xUnknown, xTooWide, xThere, xNotThere, xFull, xBadBook, xBadPaper, xNoRule, xUnlike, xNoLine] xCastError xNoName 0
  r_NoNumber : RowI K [xNoName, xNoNumber, xTwice, xTooMany, xUnknown, xTooWide, xThere, xNotThere, xFull, xBadBook, xBadPaper, xNoRule, xUnlike, xNoLine] xCastError xNoNumber 1
  r_Twice : RowI K [xNoName, xNoNumber, xTwice, xTooMany, xUnknown, xTooWide, xThere, xNotThere, xFull, xBadBook, xBadPaper, xNoRule, xUnlike, xNoLine] xCastError xTwice 2
  r_TooMany : RowI K [xNoName, xNoNumber, xTwice, xTooMany, xUnknown, xTooWide, xThere, xNotThere, xFull, xBadBook, xBadPaper, xNoRule, xUnlike, xNoLine] xCastError xTooMany 3
  r_Unknown : RowI K [xNoName, xNoNumber, xTwice, xTooMany, xUnknown, xTooWide, xThere, xNotThere, xFull, xBadBook, xBadPaper, xNoRule, xUnlike, xNoLine] xCastError xUnknown 4
  r_TooWide : RowI K [xNoName, xNoNumber, xTwice, xTooMany, xUnknown, xTooWide, xThere, xNotThere, xFull, xBadBook, xBadPaper, xNoRule, xUnlike, xNoLine] xCastError xTooWide 5
  r_There : RowI K [xNoName, xNoNumber, xTwice, xTooMany, xUnknown, xTooWide, xThere, xNotThere, xFull, xBadBook, xBadPaper, xNoRule, xUnlike, xNoLine] xCastError xThere 6
  r_NotThere : RowI K [xNoName, xNoNumber, xTwice, xTooMany, xUnknown, xTooWide, xThere, xNotThere, xFull, xBadBook, xBadPaper, xNoRule, xUnlike, xNoLine] xCastError xNotThere 7
  r_Full : RowI K [xNoName, xNoNumber, xTwice, xTooMany, xUnknown, xTooWide, xThere, xNotThere, xFull, xBadBook, xBadPaper, xNoRule, xUnlike, xNoLine] xCastError xFull 8
  r_BadBook : RowI K [xNoName, xNoNumber, xTwice, xTooMany, xUnknown, xTooWide, xThere, xNotThere, xFull, xBadBook, xBadPaper, xNoRule, xUnlike, xNoLine] xCastError xBadBook 9
  r_BadPaper : RowI K [xNoName, xNoNumber, xTwice, xTooMany, xUnknown, xTooWide, xThere, xNotThere, xFull, xBadBook, xBadPaper, xNoRule, xUnlike, xNoLine] xCastError xBadPaper 10
  r_NoRule : RowI K [xNoName, xNoNumber, xTwice, xTooMany, xUnknown, xTooWide, xThere, xNotThere, xFull, xBadBook, xBadPaper, xNoRule, xUnlike, xNoLine] xCastError xNoRule 11
  r_Unlike : RowI K [xNoName, xNoNumber, xTwice, xTooMany, xUnknown, xTooWide, xThere, xNotThere, xFull, xBadBook, xBadPaper, xNoRule, xUnlike, xNoLine] xCastError xUnlike 12
  r_NoLine : RowI K [xNoName, xNoNumber, xTwice, xTooMany, xUnknown, xTooWide, xThere, xNotThere, xFull, xBadBook, xBadPaper, xNoRule, xUnlike, xNoLine] xCastError xNoLine 13
  r_CastError : RowI K [xNoName, xNoNumber, xTwice, xTooMany, xUnknown, xTooWide, xThere, xNotThere, xFull, xBadBook, xBadPaper, xNoRule, xUnlike, xNoLine] xCastError xCastError 14
  z_len : mg "len" = none
  z_isinstance : mg "isinstance" = none
  z_int : mg "int" = none
  z_bool : mg "bool" = none
  z_str : mg "str" = none
  z_range : mg "range" = none
  z_ValueError : mg "ValueError" = none
section
variable {P : Program} {w : World} {K : PySem.W.Frag} {mg : Str → Option Value} {base : Heap} {xCastError xNoName xNoNumber xTwice xTooMany xUnknown xTooWide xThere xNotThere xFull xBadBook xBadPaper xNoRule xUnlike xNoLine : Addr}
noncomputable abbrev s_NoName_word : Stmt := inClass (top 2) 0
noncomputable abbrev s_NoNumber_word : Stmt := inClass (top 3) 0
noncomputable abbrev s_Twice_word : Stmt := inClass (top 4) 0
noncomputable abbrev s_TooMany_word : Stmt := inClass (top 5) 0
noncomputable abbrev s_Unknown_word : Stmt := inClass (top 6) 1
noncomputable abbrev s_TooWide_word : Stmt := inClass (top 7) 1
noncomputable abbrev s_There_word : Stmt := inClass (top 8) 0
noncomputable abbrev s_NotThere_word : Stmt := inClass (top 9) 0
noncomputable abbrev s_Full_word : Stmt := inClass (top 10) 0
noncomputable abbrev s_BadBook_word : Stmt := inClass (top 11) 1
noncomputable abbrev s_BadPaper_word : Stmt := inClass (top 12) 0
noncomputable abbrev s_NoRule_word : Stmt := inClass (top 13) 0
noncomputable abbrev s_Unlike_word : Stmt := inClass (top 14) 0
noncomputable abbrev s_NoLine_word : Stmt := inClass (top 15) 0
noncomputable abbrev s_CastError_word : Stmt := inClass (top 1) 0
noncomputable abbrev s_Unknown_init : Stmt := inClass (top 6) 0
noncomputable abbrev s_TooWide_init : Stmt := inClass (top 7) 0
noncomputable abbrev s_BadBook_init : Stmt := inClass (top 11) 0
noncomputable abbrev s_l_cell : Stmt := top 17
noncomputable abbrev s_l_whole : Stmt := top 18
noncomputable abbrev s_l_is : Stmt := top 19
noncomputable abbrev s_l_plain : Stmt := top 20
noncomputable abbrev s_law : Stmt := top 21
theorem ok_NoName_word {f : Addr} {fd : FuncData} (F : Fun K "word" "NoName.word" s_NoName_word f fd) (T : Txt K mg xCastError xNoName xNoNumber xTwice xTooMany xUnknown xTooWide xThere xNotThere xFull xBadBook xBadPaper xNoRule xUnlike xNoLine)  : FnOk P w K mg base (CXF P w) 1 f fd ["self"] (sp_word (Str.ofString "no name")) := by
  have sc : FnScope ["self"] ["self"] (defScope s_NoName_word) := ⟨rfl, rfl, rfl, by decide +kernel, rfl, by decide +kernel, by decide +kernel⟩
  refine F.okF sc (fun vs H Q E h => ?_) (fun cdv A outer s H vs Q E hr h => ?_)
  · obtain ⟨x, rfl, q⟩ := h; rfl
  obtain ⟨x, rfl, q⟩ := h
  refine ⟨_, (@pss_one _ _ _ (@ps_ret _ _ _ _ pe_str)), ?_⟩
  rw [show start ["self"] [x] = [some (x)] from rfl]
  walk_at "go"
  exact q
theorem ok_NoNumber_word {f : Addr} {fd : FuncData} (F : Fun K "word" "NoNumber.word" s_NoNumber_word f fd) (T : Txt K mg xCastError xNoName xNoNumber xTwice xTooMany xUnknown xTooWide xThere xNotThere xFull xBadBook xBadPaper xNoRule xUnlike xNoLine)  : FnOk P w K mg base (CXF P w) 1 f fd ["self"] (sp_word (Str.ofString "no number")) := by
  have sc : FnScope ["self"] ["self"] (defScope s_NoNumber_word) := ⟨rfl, rfl, rfl, by decide +kernel, rfl, by decide +kernel, by decide +kernel⟩
  refine F.okF sc (fun vs H Q E h => ?_) (fun cdv A outer s H vs Q E hr h => ?_)
  · obtain ⟨x, rfl, q⟩ := h; rfl
  obtain ⟨x, rfl, q⟩ := h
  refine ⟨_, (@pss_one _ _ _ (@ps_ret _ _ _ _ pe_str)), ?_⟩
  rw [show start ["self"] [x] = [some (x)] from rfl]
  walk_at "go"
  exact q
theorem ok_Twice_word {f : Addr} {fd : FuncData} (F : Fun K "word" "Twice.word" s_Twice_word f fd) (T : Txt K mg xCastError xNoName xNoNumber xTwice xTooMany xUnknown xTooWide xThere xNotThere xFull xBadBook xBadPaper xNoRule xUnlike xNoLine)  : FnOk P w K mg base (CXF P w) 1 f fd ["self"] (sp_word (Str.ofString "twice")) := by
  have sc : FnScope ["self"] ["self"] (defScope s_Twice_word) := ⟨rfl, rfl, rfl, by decide +kernel, rfl, by decide +kernel, by decide +kernel⟩
  refine F.okF sc (fun vs H Q E h => ?_) (fun cdv A outer s H vs Q E hr h => ?_)
  · obtain ⟨x, rfl, q⟩ := h; rfl
  obtain ⟨x, rfl, q⟩ := h
  refine ⟨_, (@pss_one _ _ _ (@ps_ret _ _ _ _ pe_str)), ?_⟩
  rw [show start ["self"] [x] = [some (x)] from rfl]
  walk_at "go"
  exact q
theorem ok_TooMany_word {f : Addr} {fd : FuncData} (F : Fun K "word" "TooMany.word" s_TooMany_word f fd) (T : Txt K mg xCastError xNoName xNoNumber xTwice xTooMany xUnknown xTooWide xThere xNotThere xFull xBadBook xBadPaper xNoRule xUnlike xNoLine)  : FnOk P w K mg base (CXF P w) 1 f fd ["self"] (sp_word (Str.ofString "too many")) := by
  have sc : FnScope ["self"] ["self"] (defScope s_TooMany_word) := ⟨rfl, rfl, rfl, by decide +kernel, rfl, by decide +kernel, by decide +kernel⟩
  refine F.okF sc (fun vs H Q E h => ?_) (fun cdv A outer s H vs Q E hr h => ?_)
  · obtain ⟨x, rfl, q⟩ := h; rfl
  obtain ⟨x, rfl, q⟩ := h
  refine ⟨_, (@pss_one _ _ _ (@ps_ret _ _ _ _ pe_str)), ?_⟩
  rw [show start ["self"] [x] = [some (x)] from rfl]
  walk_at "go"
  exact q
theorem ok_Unknown_word {f : Addr} {fd : FuncData} (F : Fun K "word" "Unknown.word" s_Unknown_word f fd) (T : Txt K mg xCastError xNoName xNoNumber xTwice xTooMany xUnknown xTooWide xThere xNotThere xFull xBadBook xBadPaper xNoRule xUnlike xNoLine)  : FnOk P w K mg base (CXF P w) 1 f fd ["self"] (sp_word (Str.ofString "unknown")) := by
  have sc : FnScope ["self"] ["self"] (defScope s_Unknown_word) := ⟨rfl, rfl, rfl, by decide +kernel, rfl, by decide +kernel, by decide +kernel⟩
  refine F.okF sc (fun vs H Q E h => ?_) (fun cdv A outer s H vs Q E hr h => ?_)
  · obtain ⟨x, rfl, q⟩ := h; rfl
  obtain ⟨x, rfl, q⟩ := h
  refine ⟨_, (@pss_one _ _ _ (@ps_ret _ _ _ _ pe_str)), ?_⟩
  rw [show start ["self"] [x] = [some (x)] from rfl]
  walk_at "go"
  exact q
theorem ok_TooWide_word {f : Addr} {fd : FuncData} (F : Fun K "word" "TooWide.word" s_TooWide_word f fd) (T : Txt K mg xCastError xNoName xNoNumber xTwice xTooMany xUnknown xTooWide xThere xNotThere xFull xBadBook xBadPaper xNoRule xUnlike xNoLine)  : FnOk P w K mg base (CXF P w) 1 f fd ["self"] (sp_word (Str.ofString "too wide")) := by
  have sc : FnScope ["self"] ["self"] (defScope s_TooWide_word) := ⟨rfl, rfl, rfl, by decide +kernel, rfl, by decide +kernel, by decide +kernel⟩
  refine F.okF sc (fun vs H Q E h => ?_) (fun cdv A outer s H vs Q E hr h => ?_)
  · obtain ⟨x, rfl, q⟩ := h; rfl
  obtain ⟨x, rfl, q⟩ := h
  refine ⟨_, (@pss_one _ _ _ (@ps_ret _ _ _ _ pe_str)), ?_⟩
  rw [show start ["self"] [x] = [some (x)] from rfl]
  walk_at "go"
  exact q
theorem ok_There_word {f : Addr} {fd : FuncData} (F : Fun K "word" "There.word" s_There_word f fd) (T : Txt K mg xCastError xNoName xNoNumber xTwice xTooMany xUnknown xTooWide xThere xNotThere xFull xBadBook xBadPaper xNoRule xUnlike xNoLine)  : FnOk P w K mg base (CXF P w) 1 f fd ["self"] (sp_word (Str.ofString "there")) := by
  have sc : FnScope ["self"] ["self"] (defScope s_There_word) := ⟨rfl, rfl, rfl, by decide +kernel, rfl, by decide +kernel, by decide +kernel⟩
  refine F.okF sc (fun vs H Q E h => ?_) (fun cdv A outer s H vs Q E hr h => ?_)
  · obtain ⟨x, rfl, q⟩ := h; rfl
  obtain ⟨x, rfl, q⟩ := h
  refine ⟨_, (@pss_one _ _ _ (@ps_ret _ _ _ _ pe_str)), ?_⟩
  rw [show start ["self"] [x] = [some (x)] from rfl]
  walk_at "go"
  exact q
theorem ok_NotThere_word {f : Addr} {fd : FuncData} (F : Fun K "word" "NotThere.word" s_NotThere_word f fd) (T : Txt K mg xCastError xNoName xNoNumber xTwice xTooMany xUnknown xTooWide xThere xNotThere xFull xBadBook xBadPaper xNoRule xUnlike xNoLine)  : FnOk P w K mg base (CXF P w) 1 f fd ["self"] (sp_word (Str.ofString "not there")) := by
  have sc : FnScope ["self"] ["self"] (defScope s_NotThere_word) := ⟨rfl, rfl, rfl, by decide +kernel, rfl, by decide +kernel, by decide +kernel⟩
  refine F.okF sc (fun vs H Q E h => ?_) (fun cdv A outer s H vs Q E hr h => ?_)
  · obtain ⟨x, rfl, q⟩ := h; rfl
  obtain ⟨x, rfl, q⟩ := h
  refine ⟨_, (@pss_one _ _ _ (@ps_ret _ _ _ _ pe_str)), ?_⟩
  rw [show start ["self"] [x] = [some (x)] from rfl]
  walk_at "go"
  exact q
theorem ok_Full_word {f : Addr} {fd : FuncData} (F : Fun K "word" "Full.word" s_Full_word f fd) (T : Txt K mg xCastError xNoName xNoNumber xTwice xTooMany xUnknown xTooWide xThere xNotThere xFull xBadBook xBadPaper xNoRule xUnlike xNoLine)  : FnOk P w K mg base (CXF P w) 1 f fd ["self"] (sp_word (Str.ofString "full")) := by
  have sc : FnScope ["self"] ["self"] (defScope s_Full_word) := ⟨rfl, rfl, rfl, by decide +kernel, rfl, by decide +kernel, by decide +kernel⟩
  refine F.okF sc (fun vs H Q E h => ?_) (fun cdv A outer s H vs Q E hr h => ?_)
  · obtain ⟨x, rfl, q⟩ := h; rfl
  obtain ⟨x, rfl, q⟩ := h
  refine ⟨_, (@pss_one _ _ _ (@ps_ret _ _ _ _ pe_str)), ?_⟩
  rw [show start ["self"] [x] = [some (x)] from rfl]
  walk_at "go"
  exact q
theorem ok_BadBook_word {f : Addr} {fd : FuncData} (F : Fun K "word" "BadBook.word" s_BadBook_word f fd) (T : Txt K mg xCastError xNoName xNoNumber xTwice xTooMany xUnknown xTooWide xThere xNotThere xFull xBadBook xBadPaper xNoRule xUnlike xNoLine)  : FnOk P w K mg base (CXF P w) 1 f fd ["self"] (sp_word (Str.ofString "bad book")) := by
  have sc : FnScope ["self"] ["self"] (defScope s_BadBook_word) := ⟨rfl, rfl, rfl, by decide +kernel, rfl, by decide +kernel, by decide +kernel⟩
  refine F.okF sc (fun vs H Q E h => ?_) (fun cdv A outer s H vs Q E hr h => ?_)
  · obtain ⟨x, rfl, q⟩ := h; rfl
  obtain ⟨x, rfl, q⟩ := h
  refine ⟨_, (@pss_one _ _ _ (@ps_ret _ _ _ _ pe_str)), ?_⟩
  rw [show start ["self"] [x] = [some (x)] from rfl]
  walk_at "go"
  exact q
theorem ok_BadPaper_word {f : Addr} {fd : FuncData} (F : Fun K "word" "BadPaper.word" s_BadPaper_word f fd) (T : Txt K mg xCastError xNoName xNoNumber xTwice xTooMany xUnknown xTooWide xThere xNotThere xFull xBadBook xBadPaper xNoRule xUnlike xNoLine)  : FnOk P w K mg base (CXF P w) 1 f fd ["self"] (sp_word (Str.ofString "bad paper")) := by
  have sc : FnScope ["self"] ["self"] (defScope s_BadPaper_word) := ⟨rfl, rfl, rfl, by decide +kernel, rfl, by decide +kernel, by decide +kernel⟩
  refine F.okF sc (fun vs H Q E h => ?_) (fun cdv A outer s H vs Q E hr h => ?_)
  · obtain ⟨x, rfl, q⟩ := h; rfl
  obtain ⟨x, rfl, q⟩ := h
  refine ⟨_, (@pss_one _ _ _ (@ps_ret _ _ _ _ pe_str)), ?_⟩
  rw [show start ["self"] [x] = [some (x)] from rfl]
  walk_at "go"
  exact q
theorem ok_NoRule_word {f : Addr} {fd : FuncData} (F : Fun K "word" "NoRule.word" s_NoRule_word f fd) (T : Txt K mg xCastError xNoName xNoNumber xTwice xTooMany xUnknown xTooWide xThere xNotThere xFull xBadBook xBadPaper xNoRule xUnlike xNoLine)  : FnOk P w K mg base (CXF P w) 1 f fd ["self"] (sp_word (Str.ofString "no rule")) := by
  have sc : FnScope ["self"] ["self"] (defScope s_NoRule_word) := ⟨rfl, rfl, rfl, by decide +kernel, rfl, by decide +kernel, by decide +kernel⟩
  refine F.okF sc (fun vs H Q E h => ?_) (fun cdv A outer s H vs Q E hr h => ?_)
  · obtain ⟨x, rfl, q⟩ := h; rfl
  obtain ⟨x, rfl, q⟩ := h
  refine ⟨_, (@pss_one _ _ _ (@ps_ret _ _ _ _ pe_str)), ?_⟩
  rw [show start ["self"] [x] = [some (x)] from rfl]
  walk_at "go"
  exact q
theorem ok_Unlike_word {f : Addr} {fd : FuncData} (F : Fun K "word" "Unlike.word" s_Unlike_word f fd) (T : Txt K mg xCastError xNoName xNoNumber xTwice xTooMany xUnknown xTooWide xThere xNotThere xFull xBadBook xBadPaper xNoRule xUnlike xNoLine)  : FnOk P w K mg base (CXF P w) 1 f fd ["self"] (sp_word (Str.ofString "unlike")) := by
  have sc : FnScope ["self"] ["self"] (defScope s_Unlike_word) := ⟨rfl, rfl, rfl, by decide +kernel, rfl, by decide +kernel, by decide +kernel⟩
  refine F.okF sc (fun vs H Q E h => ?_) (fun cdv A outer s H vs Q E hr h => ?_)
  · obtain ⟨x, rfl, q⟩ := h; rfl
  obtain ⟨x, rfl, q⟩ := h
  refine ⟨_, (@pss_one _ _ _ (@ps_ret _ _ _ _ pe_str)), ?_⟩
  rw [show start ["self"] [x] = [some (x)] from rfl]
  walk_at "go"
  exact q
theorem ok_NoLine_word {f : Addr} {fd : FuncData} (F : Fun K "word" "NoLine.word" s_NoLine_word f fd) (T : Txt K mg xCastError xNoName xNoNumber xTwice xTooMany xUnknown xTooWide xThere xNotThere xFull xBadBook xBadPaper xNoRule xUnlike xNoLine)  : FnOk P w K mg base (CXF P w) 1 f fd ["self"] (sp_word (Str.ofString "no line")) := by
  have sc : FnScope ["self"] ["self"] (defScope s_NoLine_word) := ⟨rfl, rfl, rfl, by decide +kernel, rfl, by decide +kernel, by decide +kernel⟩
  refine F.okF sc (fun vs H Q E h => ?_) (fun cdv A outer s H vs Q E hr h => ?_)
  · obtain ⟨x, rfl, q⟩ := h; rfl
  obtain ⟨x, rfl, q⟩ := h
  refine ⟨_, (@pss_one _ _ _ (@ps_ret _ _ _ _ pe_str)), ?_⟩
  rw [show start ["self"] [x] = [some (x)] from rfl]
  walk_at "go"
  exact q
theorem ok_CastError_word {f : Addr} {fd : FuncData} (F : Fun K "word" "CastError.word" s_CastError_word f fd) (T : Txt K mg xCastError xNoName xNoNumber xTwice xTooMany xUnknown xTooWide xThere xNotThere xFull xBadBook xBadPaper xNoRule xUnlike xNoLine)  : FnOk P w K mg base (CXF P w) 1 f fd ["self"] (sp_word (Str.ofString "refused")) := by
  have sc : FnScope ["self"] ["self"] (defScope s_CastError_word) := ⟨rfl, rfl, rfl, by decide +kernel, rfl, by decide +kernel, by decide +kernel⟩
  refine F.okF sc (fun vs H Q E h => ?_) (fun cdv A outer s H vs Q E hr h => ?_)
  · obtain ⟨x, rfl, q⟩ := h; rfl
  obtain ⟨x, rfl, q⟩ := h
  refine ⟨_, (@pss_one _ _ _ (@ps_ret _ _ _ _ pe_str)), ?_⟩
  rw [show start ["self"] [x] = [some (x)] from rfl]
  walk_at "go"
  exact q
theorem ok_Unknown_init {f : Addr} {fd : FuncData} (F : Fun K "__init__" "Unknown.__init__" s_Unknown_init f fd) (T : Txt K mg xCastError xNoName xNoNumber xTwice xTooMany xUnknown xTooWide xThere xNotThere xFull xBadBook xBadPaper xNoRule xUnlike xNoLine)  : FnOk P w K mg base (CXF P w) 1 f fd ["self", "name", "place"] (sp_unk xUnknown) := by
  have sc : FnScope ["self", "name", "place"] ["self", "name", "place"] (defScope s_Unknown_init) := ⟨rfl, rfl, rfl, by decide +kernel, rfl, by decide +kernel, by decide +kernel⟩
  refine F.okF sc (fun vs H Q E h => ?_) (fun cdv A outer s H vs Q E hr h => ?_)
  · obtain ⟨x, n, p, nw, rfl, hx, q⟩ := h; rfl
  obtain ⟨x, n, p, nw, rfl, hx, q⟩ := h
  refine ⟨_, (pss_cons (ps_fldX rfl (pv 0) (pv 1) rfl)
    (@pss_one _ _ _ (ps_fldX rfl (pv 0) (pv 2) rfl))), ?_⟩
  rw [show start ["self", "name", "place"] [V.ref x, n, p] = [some (V.ref x), some (n), some (p)] from rfl]
  walk_at "go"
  refine ⟨nw, xUnknown, xCastError, T.q_Unknown, T.n_Unknown_name, .inl ⟨hx, fun dx hd => ?_⟩⟩
  have nd : x ≠ dx := ne_of_none hx hd
  walk_at "go"
  refine ⟨nw, xUnknown, xCastError, T.q_Unknown, T.n_Unknown_place, .inr ⟨dx, by rw [upd_ne nd, upd_same], _, upd_same, by simp [putF], ?_⟩⟩
  walk_at "go"
  exact q dx hd
theorem ok_TooWide_init {f : Addr} {fd : FuncData} (F : Fun K "__init__" "TooWide.__init__" s_TooWide_init f fd) (T : Txt K mg xCastError xNoName xNoNumber xTwice xTooMany xUnknown xTooWide xThere xNotThere xFull xBadBook xBadPaper xNoRule xUnlike xNoLine)  : FnOk P w K mg base (CXF P w) 1 f fd ["self", "name", "place"] (sp_unk xTooWide) := by
  have sc : FnScope ["self", "name", "place"] ["self", "name", "place"] (defScope s_TooWide_init) := ⟨rfl, rfl, rfl, by decide +kernel, rfl, by decide +kernel, by decide +kernel⟩
  refine F.okF sc (fun vs H Q E h => ?_) (fun cdv A outer s H vs Q E hr h => ?_)
  · obtain ⟨x, n, p, nw, rfl, hx, q⟩ := h; rfl
  obtain ⟨x, n, p, nw, rfl, hx, q⟩ := h
  refine ⟨_, (pss_cons (ps_fldX rfl (pv 0) (pv 1) rfl)
    (@pss_one _ _ _ (ps_fldX rfl (pv 0) (pv 2) rfl))), ?_⟩
  rw [show start ["self", "name", "place"] [V.ref x, n, p] = [some (V.ref x), some (n), some (p)] from rfl]
  walk_at "go"
  refine ⟨nw, xTooWide, xCastError, T.q_TooWide, T.n_TooWide_name, .inl ⟨hx, fun dx hd => ?_⟩⟩
  have nd : x ≠ dx := ne_of_none hx hd
  walk_at "go"
  refine ⟨nw, xTooWide, xCastError, T.q_TooWide, T.n_TooWide_place, .inr ⟨dx, by rw [upd_ne nd, upd_same], _, upd_same, by simp [putF], ?_⟩⟩
  walk_at "go"
  exact q dx hd
theorem ok_BadBook_init {f : Addr} {fd : FuncData} (F : Fun K "__init__" "BadBook.__init__" s_BadBook_init f fd) (T : Txt K mg xCastError xNoName xNoNumber xTwice xTooMany xUnknown xTooWide xThere xNotThere xFull xBadBook xBadPaper xNoRule xUnlike xNoLine)  : FnOk P w K mg base (CXF P w) 1 f fd ["self", "place"] (sp_bad xBadBook) := by
  have sc : FnScope ["self", "place"] ["self", "place"] (defScope s_BadBook_init) := ⟨rfl, rfl, rfl, by decide +kernel, rfl, by decide +kernel, by decide +kernel⟩
  refine F.okF sc (fun vs H Q E h => ?_) (fun cdv A outer s H vs Q E hr h => ?_)
  · obtain ⟨x, p, nw, rfl, hx, q⟩ := h; rfl
  obtain ⟨x, p, nw, rfl, hx, q⟩ := h
  refine ⟨_, (@pss_one _ _ _ (ps_fldX rfl (pv 0) (pv 1) rfl)), ?_⟩
  rw [show start ["self", "place"] [V.ref x, p] = [some (V.ref x), some (p)] from rfl]
  walk_at "go"
  refine ⟨nw, xBadBook, xCastError, T.q_BadBook, T.n_BadBook_place, .inl ⟨hx, fun dx hd => ?_⟩⟩
  walk_at "go"
  exact q dx hd
theorem ok_l_cell {f : Addr} {fd : FuncData} (F : Fun K "_law_cell" "_law_cell" s_l_cell f fd) (T : Txt K mg xCastError xNoName xNoNumber xTwice xTooMany xUnknown xTooWide xThere xNotThere xFull xBadBook xBadPaper xNoRule xUnlike xNoLine)  : FnOk P w K mg base (CXF P w) 1 f fd ["_law_script", "_law_k"] (sp_cell K) := by
  have sc : FnScope ["_law_script", "_law_k"] ["_law_script", "_law_k"] (defScope s_l_cell) := ⟨rfl, rfl, rfl, by decide +kernel, rfl, by decide +kernel, by decide +kernel⟩
  refine F.okF sc (fun vs H Q E h => ?_) (fun cdv A outer s H vs Q E hr h => ?_)
  · obtain ⟨a, ns, k, rfl, hS, h0, hl, q⟩ := h; rfl
  obtain ⟨a, ns, k, rfl, hS, h0, hl, q⟩ := h
  refine ⟨_, (pss_cons (ps_if (pt_cmpR op_lt (pv 1) (pe_callB call_len_seq rfl T.z_len PySem.boot_len (pa_cons (pv 0) pa_nil)) (nomark _))
      (@pss_one _ _ _ (@ps_ret _ _ _ _ (@pe_ix _ _ _ _ _ _ _ ix_list (pv 0) (pv 1) (fun _ _ => rfl))))
      pss_nil)
    (@pss_one _ _ _ (@ps_ret _ _ _ _ pe_int))), ?_⟩
  rw [show start ["_law_script", "_law_k"] [V.ref a, V.int k] = [some (V.ref a), some (V.int k)] from rfl]
  walk_at "go"
  rw [List.length_map]
  split
  · rename_i hk
    exact ixL_of hS (atI_of h0 (getMap (by omega))) q
  · rename_i hk
    rw [List.getD_eq_getElem?_getD, List.getElem?_eq_none (by omega)] at q
    walk_at "go"
    exact q
theorem ok_l_whole {f : Addr} {fd : FuncData} (F : Fun K "_law_whole" "_law_whole" s_l_whole f fd) (T : Txt K mg xCastError xNoName xNoNumber xTwice xTooMany xUnknown xTooWide xThere xNotThere xFull xBadBook xBadPaper xNoRule xUnlike xNoLine)  : FnOk P w K mg base (CXF P w) 1 f fd ["_law_found", "_law_due"] (sp_whole) := by
  have sc : FnScope ["_law_found", "_law_due"] ["_law_found", "_law_due"] (defScope s_l_whole) := ⟨rfl, rfl, rfl, by decide +kernel, rfl, by decide +kernel, by decide +kernel⟩
  refine F.okF sc (fun vs H Q E h => ?_) (fun cdv A outer s H vs Q E hr h => ?_)
  · obtain ⟨a, b, rfl, q⟩ := h; rfl
  obtain ⟨a, b, rfl, q⟩ := h
  refine ⟨_, (@pss_one _ _ _ (@ps_ret _ _ _ _ (pe_and (pe_callB call_isinst rfl T.z_isinstance (by first | rfl | decide +kernel) (pa_cons (pv 0) (pa_cons (pe_bltn (v := .ty "int") rfl T.z_int (by first | rfl | decide +kernel) rfl) pa_nil))) (pe_and (pe_not (pe_callB call_isinst rfl T.z_isinstance (by first | rfl | decide +kernel) (pa_cons (pv 0) (pa_cons (pe_bltn (v := .ty "bool") rfl T.z_bool (by first | rfl | decide +kernel) rfl) pa_nil)))) (pe_one (pe_cmpR op_eq (pv 0) (pv 1) (nomark _))))))), ?_⟩
  rw [show start ["_law_found", "_law_due"] [V.int a, V.int b] = [some (V.int a), some (V.int b)] from rfl]
  walk_at "go"
  exact q
theorem ok_l_is {f : Addr} {fd : FuncData} (F : Fun K "_law_is" "_law_is" s_l_is f fd) (T : Txt K mg xCastError xNoName xNoNumber xTwice xTooMany xUnknown xTooWide xThere xNotThere xFull xBadBook xBadPaper xNoRule xUnlike xNoLine)  (D_words : ∀ C i, (C, i) ∈ ([(xNoName, Str.ofString "no name"), (xNoNumber, Str.ofString "no number"), (xTwice, Str.ofString "twice"), (xTooMany, Str.ofString "too many"), (xUnknown, Str.ofString "unknown"), (xTooWide, Str.ofString "too wide"), (xThere, Str.ofString "there"), (xNotThere, Str.ofString "not there"), (xFull, Str.ofString "full"), (xBadBook, Str.ofString "bad book"), (xBadPaper, Str.ofString "bad paper"), (xNoRule, Str.ofString "no rule"), (xUnlike, Str.ofString "unlike"), (xNoLine, Str.ofString "no line"), (xCastError, Str.ofString "refused")] : List (Addr × Str)) → DefM P w K mg base (CXF P w) 1 C "word" ["self"] (sp_word i) ∧ ExcG K C) : FnOk P w K mg base (CXF P w) 2 f fd ["_law_thing", "_law_number"] (sp9_is K [xNoName, xNoNumber, xTwice, xTooMany, xUnknown, xTooWide, xThere, xNotThere, xFull, xBadBook, xBadPaper, xNoRule, xUnlike, xNoLine] xCastError [(xNoName, Str.ofString "no name"), (xNoNumber, Str.ofString "no number"), (xTwice, Str.ofString "twice"), (xTooMany, Str.ofString "too many"), (xUnknown, Str.ofString "unknown"), (xTooWide, Str.ofString "too wide"), (xThere, Str.ofString "there"), (xNotThere, Str.ofString "not there"), (xFull, Str.ofString "full"), (xBadBook, Str.ofString "bad book"), (xBadPaper, Str.ofString "bad paper"), (xNoRule, Str.ofString "no rule"), (xUnlike, Str.ofString "unlike"), (xNoLine, Str.ofString "no line"), (xCastError, Str.ofString "refused")]) := by
  have sc : FnScope ["_law_thing", "_law_number", "_law_found", "_law_k", "_law_words", "_law_told"] ["_law_thing", "_law_number"] (defScope s_l_is) := ⟨rfl, rfl, rfl, by decide +kernel, rfl, by decide +kernel, by decide +kernel⟩
  refine F.okF sc (fun vs H Q E h => ?_) (fun cdv A outer s H vs Q E hr h => ?_)
  · obtain ⟨p, C, k, w, rfl, hp, hr', hw, hk, q⟩ := h; rfl
  obtain ⟨p, C, k, w, rfl, hp, hr', hw, hk, q⟩ := h
  refine ⟨_, (pss_cons (ps_if (PW.pt (pw_or (pt_not (pt_val (pe_callB call_isiX rfl T.z_isinstance (by first | rfl | decide +kernel) (pa_cons (pv 0) (pa_cons (pe_glob (v := .ref xCastError) rfl T.c_CastError rfl) pa_nil))))) (pw_or1 (pt_not (pt_val (pe_callB call_isiX rfl T.z_isinstance (by first | rfl | decide +kernel) (pa_cons (pv 0) (pa_cons (pe_bltn (v := .ty "ValueError") rfl T.z_ValueError (by first | rfl | decide +kernel) rfl) pa_nil))))))))
      (@pss_one _ _ _ (@ps_ret _ _ _ _ pe_bl))
      pss_nil)
    (pss_cons (ps_set (i := 2) sc.nd rfl (Or.inl rfl) (@pe_lst _ _ _ _ (pa_cons (pe_callB call_isiX rfl T.z_isinstance (by first | rfl | decide +kernel) (pa_cons (pv 0) (pa_cons (pe_glob (v := .ref xNoName) rfl T.c_NoName rfl) pa_nil))) (pa_cons (pe_callB call_isiX rfl T.z_isinstance (by first | rfl | decide +kernel) (pa_cons (pv 0) (pa_cons (pe_glob (v := .ref xNoNumber) rfl T.c_NoNumber rfl) pa_nil))) (pa_cons (pe_callB call_isiX rfl T.z_isinstance (by first | rfl | decide +kernel) (pa_cons (pv 0) (pa_cons (pe_glob (v := .ref xTwice) rfl T.c_Twice rfl) pa_nil))) pa_nil)))))
    (pss_cons (ps_set (i := 2) sc.nd rfl (Or.inl rfl) (pe_op op_cat (pv 2) (@pe_lst _ _ _ _ (pa_cons (pe_callB call_isiX rfl T.z_isinstance (by first | rfl | decide +kernel) (pa_cons (pv 0) (pa_cons (pe_glob (v := .ref xTooMany) rfl T.c_TooMany rfl) pa_nil))) (pa_cons (pe_callB call_isiX rfl T.z_isinstance (by first | rfl | decide +kernel) (pa_cons (pv 0) (pa_cons (pe_glob (v := .ref xUnknown) rfl T.c_Unknown rfl) pa_nil))) (pa_cons (pe_callB call_isiX rfl T.z_isinstance (by first | rfl | decide +kernel) (pa_cons (pv 0) (pa_cons (pe_glob (v := .ref xTooWide) rfl T.c_TooWide rfl) pa_nil))) pa_nil))))))
    (pss_cons (ps_set (i := 2) sc.nd rfl (Or.inl rfl) (pe_op op_cat (pv 2) (@pe_lst _ _ _ _ (pa_cons (pe_callB call_isiX rfl T.z_isinstance (by first | rfl | decide +kernel) (pa_cons (pv 0) (pa_cons (pe_glob (v := .ref xThere) rfl T.c_There rfl) pa_nil))) (pa_cons (pe_callB call_isiX rfl T.z_isinstance (by first | rfl | decide +kernel) (pa_cons (pv 0) (pa_cons (pe_glob (v := .ref xNotThere) rfl T.c_NotThere rfl) pa_nil))) (pa_cons (pe_callB call_isiX rfl T.z_isinstance (by first | rfl | decide +kernel) (pa_cons (pv 0) (pa_cons (pe_glob (v := .ref xFull) rfl T.c_Full rfl) pa_nil))) pa_nil))))))
    (pss_cons (ps_set (i := 2) sc.nd rfl (Or.inl rfl) (pe_op op_cat (pv 2) (@pe_lst _ _ _ _ (pa_cons (pe_callB call_isiX rfl T.z_isinstance (by first | rfl | decide +kernel) (pa_cons (pv 0) (pa_cons (pe_glob (v := .ref xBadBook) rfl T.c_BadBook rfl) pa_nil))) (pa_cons (pe_callB call_isiX rfl T.z_isinstance (by first | rfl | decide +kernel) (pa_cons (pv 0) (pa_cons (pe_glob (v := .ref xBadPaper) rfl T.c_BadPaper rfl) pa_nil))) (pa_cons (pe_callB call_isiX rfl T.z_isinstance (by first | rfl | decide +kernel) (pa_cons (pv 0) (pa_cons (pe_glob (v := .ref xNoRule) rfl T.c_NoRule rfl) pa_nil))) pa_nil))))))
    (pss_cons (ps_set (i := 2) sc.nd rfl (Or.inl rfl) (pe_op op_cat (pv 2) (@pe_lst _ _ _ _ (pa_cons (pe_callB call_isiX rfl T.z_isinstance (by first | rfl | decide +kernel) (pa_cons (pv 0) (pa_cons (pe_glob (v := .ref xUnlike) rfl T.c_Unlike rfl) pa_nil))) (pa_cons (pe_callB call_isiX rfl T.z_isinstance (by first | rfl | decide +kernel) (pa_cons (pv 0) (pa_cons (pe_glob (v := .ref xNoLine) rfl T.c_NoLine rfl) pa_nil))) pa_nil)))))
    (pss_cons (ps_for own_outF rfl (pi_range1 rfl T.z_range (pa_cons (pe_callB call_len_seq rfl T.z_len PySem.boot_len (pa_cons (pv 2) pa_nil)) pa_nil)) (pg_name (i := 3) sc.nd rfl (Or.inl rfl))
      (@pss_one _ _ _ (ps_if (pt_cmpR op_ne (@pe_ix _ _ _ _ _ _ _ ix_list (pv 2) (pv 3) (fun _ _ => rfl)) (pe_cmpR op_eq (pv 3) (pv 1) (nomark _)) (nomark _))
        (@pss_one _ _ _ (@ps_ret _ _ _ _ pe_bl))
        pss_nil)))
    (pss_cons (ps_set (i := 4) sc.nd rfl (Or.inl rfl) (@pe_lst _ _ _ _ (@pa_consK _ _ _ _ _ _ _ pe_str (@pa_consK _ _ _ _ _ _ _ pe_str (@pa_consK _ _ _ _ _ _ _ pe_str (@pa_consK _ _ _ _ _ _ _ pe_str (@pa_consK _ _ _ _ _ _ _ pe_str (@pa_consK _ _ _ _ _ _ _ pe_str (@pa_consK _ _ _ _ _ _ _ pe_str (@pa_consK _ _ _ _ _ _ _ pe_str (@pa_consK _ _ _ _ _ _ _ pe_str pa_nil)))))))))))
    (pss_cons (ps_set (i := 4) sc.nd rfl (Or.inl rfl) (pe_op op_cat (pv 4) (@pe_lst _ _ _ _ (@pa_consK _ _ _ _ _ _ _ pe_str (@pa_consK _ _ _ _ _ _ _ pe_str (@pa_consK _ _ _ _ _ _ _ pe_str (@pa_consK _ _ _ _ _ _ _ pe_str (@pa_consK _ _ _ _ _ _ _ pe_str (@pa_consK _ _ _ _ _ _ _ pe_str pa_nil)))))))))
    (pss_cons (ps_set (i := 5) sc.nd rfl (Or.inl rfl) (pe_methA D_words hr (passS pass_onF) (pv 0)))
    (@pss_one _ _ _ (@ps_ret _ _ _ _ (pe_and (pe_callB call_isinst rfl T.z_isinstance (by first | rfl | decide +kernel) (pa_cons (pv 5) (pa_cons (pe_bltn (v := .ty "str") rfl T.z_str (by first | rfl | decide +kernel) rfl) pa_nil))) (pe_one (pe_cmpR op_eq (pv 5) (@pe_ix _ _ _ _ _ _ _ ix_list (pv 4) (pv 1) (fun _ _ => rfl)) (nomark _)))))))))))))))), ?_⟩
  rw [show start ["_law_thing", "_law_number", "_law_found", "_law_k", "_law_words", "_law_told"] [V.ref p, V.int k] = [some (V.ref p), some (V.int k), none, none, none, none] from rfl]
  have line := line_val
  obtain ⟨qi, ce, ve, f0, f1, f2, f3, f4, f5, f6, f7, f8, f9, f10, f11, f12, f13, _⟩ := hr'
  walk_at "go"
  refine isiX_go hp qi ce ⟨_, rfl, ?_⟩
  rw [if_neg (by decide)]
  refine isiX_ty hp qi ve ⟨_, rfl, ?_⟩
  rw [if_neg (by decide)]
  walk_at "go"
  refine isiX_go hp qi f0 ?_
  refine isiX_go hp qi f1 ?_
  refine isiX_go hp qi f2 ?_
  walk_at "go"
  intro l1 hl1
  have s1 : Same H (upd H l1 (.lst [V.bl (decide (0 = k)), V.bl (decide (1 = k)), V.bl (decide (2 = k))])) := Same.new hl1
  have e1 : upd H l1 (.lst [V.bl (decide (0 = k)), V.bl (decide (1 = k)), V.bl (decide (2 = k))]) l1 = some (.lst [V.bl (decide (0 = k)), V.bl (decide (1 = k)), V.bl (decide (2 = k))]) := upd_same
  generalize upd H l1 (.lst [V.bl (decide (0 = k)), V.bl (decide (1 = k)), V.bl (decide (2 = k))]) = H1 at s1 e1 ⊢
  have p1 := hp.same s1
  walk_at "go"
  refine isiX_go p1 qi f3 ?_
  refine isiX_go p1 qi f4 ?_
  refine isiX_go p1 qi f5 ?_
  refine ⟨by omega, fun m1 hm1 => ?_⟩
  have t1 : Same H1 (upd H1 m1 (.lst [V.bl (decide (3 = k)), V.bl (decide (4 = k)), V.bl (decide (5 = k))])) := Same.new hm1
  refine ⟨l1, m1, _, _, rfl, rfl, t1 _ _ e1, upd_same, by simp; omega, fun l2 hl2 => ?_⟩
  have s2 : Same H (upd (upd H1 m1 (.lst [V.bl (decide (3 = k)), V.bl (decide (4 = k)), V.bl (decide (5 = k))])) l2 (.lst [V.bl (decide (0 = k)), V.bl (decide (1 = k)), V.bl (decide (2 = k)), V.bl (decide (3 = k)), V.bl (decide (4 = k)), V.bl (decide (5 = k))])) := (s1.trans t1).trans (Same.new hl2)
  have e2 : upd (upd H1 m1 (.lst [V.bl (decide (3 = k)), V.bl (decide (4 = k)), V.bl (decide (5 = k))])) l2 (.lst [V.bl (decide (0 = k)), V.bl (decide (1 = k)), V.bl (decide (2 = k)), V.bl (decide (3 = k)), V.bl (decide (4 = k)), V.bl (decide (5 = k))]) l2 = some (.lst [V.bl (decide (0 = k)), V.bl (decide (1 = k)), V.bl (decide (2 = k)), V.bl (decide (3 = k)), V.bl (decide (4 = k)), V.bl (decide (5 = k))]) := upd_same
  show _
  have eqH2 : ∃ HH, HH = upd (upd H1 m1 (.lst [V.bl (decide (3 = k)), V.bl (decide (4 = k)), V.bl (decide (5 = k))])) l2 (.lst [V.bl (decide (0 = k)), V.bl (decide (1 = k)), V.bl (decide (2 = k)), V.bl (decide (3 = k)), V.bl (decide (4 = k)), V.bl (decide (5 = k))]) := ⟨_, rfl⟩
  obtain ⟨H2, hH2⟩ := eqH2
  simp only [List.cons_append, List.nil_append]
  rw [← hH2] at s2 e2 ⊢
  clear hH2
  have p2 := hp.same s2
  walk_at "go"
  refine isiX_go p2 qi f6 ?_
  refine isiX_go p2 qi f7 ?_
  refine isiX_go p2 qi f8 ?_
  refine ⟨by omega, fun m2 hm2 => ?_⟩
  have t2 : Same H2 (upd H2 m2 (.lst [V.bl (decide (6 = k)), V.bl (decide (7 = k)), V.bl (decide (8 = k))])) := Same.new hm2
  refine ⟨l2, m2, _, _, rfl, rfl, t2 _ _ e2, upd_same, by simp; omega, fun l3 hl3 => ?_⟩
  have s3 : Same H (upd (upd H2 m2 (.lst [V.bl (decide (6 = k)), V.bl (decide (7 = k)), V.bl (decide (8 = k))])) l3 (.lst [V.bl (decide (0 = k)), V.bl (decide (1 = k)), V.bl (decide (2 = k)), V.bl (decide (3 = k)), V.bl (decide (4 = k)), V.bl (decide (5 = k)), V.bl (decide (6 = k)), V.bl (decide (7 = k)), V.bl (decide (8 = k))])) := (s2.trans t2).trans (Same.new hl3)
  have e3 : upd (upd H2 m2 (.lst [V.bl (decide (6 = k)), V.bl (decide (7 = k)), V.bl (decide (8 = k))])) l3 (.lst [V.bl (decide (0 = k)), V.bl (decide (1 = k)), V.bl (decide (2 = k)), V.bl (decide (3 = k)), V.bl (decide (4 = k)), V.bl (decide (5 = k)), V.bl (decide (6 = k)), V.bl (decide (7 = k)), V.bl (decide (8 = k))]) l3 = some (.lst [V.bl (decide (0 = k)), V.bl (decide (1 = k)), V.bl (decide (2 = k)), V.bl (decide (3 = k)), V.bl (decide (4 = k)), V.bl (decide (5 = k)), V.bl (decide (6 = k)), V.bl (decide (7 = k)), V.bl (decide (8 = k))]) := upd_same
  show _
  have eqH3 : ∃ HH, HH = upd (upd H2 m2 (.lst [V.bl (decide (6 = k)), V.bl (decide (7 = k)), V.bl (decide (8 = k))])) l3 (.lst [V.bl (decide (0 = k)), V.bl (decide (1 = k)), V.bl (decide (2 = k)), V.bl (decide (3 = k)), V.bl (decide (4 = k)), V.bl (decide (5 = k)), V.bl (decide (6 = k)), V.bl (decide (7 = k)), V.bl (decide (8 = k))]) := ⟨_, rfl⟩
  obtain ⟨H3, hH3⟩ := eqH3
  simp only [List.cons_append, List.nil_append]
  rw [← hH3] at s3 e3 ⊢
  clear hH3
  have p3 := hp.same s3
  walk_at "go"
  refine isiX_go p3 qi f9 ?_
  refine isiX_go p3 qi f10 ?_
  refine isiX_go p3 qi f11 ?_
  refine ⟨by omega, fun m3 hm3 => ?_⟩
  have t3 : Same H3 (upd H3 m3 (.lst [V.bl (decide (9 = k)), V.bl (decide (10 = k)), V.bl (decide (11 = k))])) := Same.new hm3
  refine ⟨l3, m3, _, _, rfl, rfl, t3 _ _ e3, upd_same, by simp; omega, fun l4 hl4 => ?_⟩
  have s4 : Same H (upd (upd H3 m3 (.lst [V.bl (decide (9 = k)), V.bl (decide (10 = k)), V.bl (decide (11 = k))])) l4 (.lst [V.bl (decide (0 = k)), V.bl (decide (1 = k)), V.bl (decide (2 = k)), V.bl (decide (3 = k)), V.bl (decide (4 = k)), V.bl (decide (5 = k)), V.bl (decide (6 = k)), V.bl (decide (7 = k)), V.bl (decide (8 = k)), V.bl (decide (9 = k)), V.bl (decide (10 = k)), V.bl (decide (11 = k))])) := (s3.trans t3).trans (Same.new hl4)
  have e4 : upd (upd H3 m3 (.lst [V.bl (decide (9 = k)), V.bl (decide (10 = k)), V.bl (decide (11 = k))])) l4 (.lst [V.bl (decide (0 = k)), V.bl (decide (1 = k)), V.bl (decide (2 = k)), V.bl (decide (3 = k)), V.bl (decide (4 = k)), V.bl (decide (5 = k)), V.bl (decide (6 = k)), V.bl (decide (7 = k)), V.bl (decide (8 = k)), V.bl (decide (9 = k)), V.bl (decide (10 = k)), V.bl (decide (11 = k))]) l4 = some (.lst [V.bl (decide (0 = k)), V.bl (decide (1 = k)), V.bl (decide (2 = k)), V.bl (decide (3 = k)), V.bl (decide (4 = k)), V.bl (decide (5 = k)), V.bl (decide (6 = k)), V.bl (decide (7 = k)), V.bl (decide (8 = k)), V.bl (decide (9 = k)), V.bl (decide (10 = k)), V.bl (decide (11 = k))]) := upd_same
  show _
  have eqH4 : ∃ HH, HH = upd (upd H3 m3 (.lst [V.bl (decide (9 = k)), V.bl (decide (10 = k)), V.bl (decide (11 = k))])) l4 (.lst [V.bl (decide (0 = k)), V.bl (decide (1 = k)), V.bl (decide (2 = k)), V.bl (decide (3 = k)), V.bl (decide (4 = k)), V.bl (decide (5 = k)), V.bl (decide (6 = k)), V.bl (decide (7 = k)), V.bl (decide (8 = k)), V.bl (decide (9 = k)), V.bl (decide (10 = k)), V.bl (decide (11 = k))]) := ⟨_, rfl⟩
  obtain ⟨H4, hH4⟩ := eqH4
  simp only [List.cons_append, List.nil_append]
  rw [← hH4] at s4 e4 ⊢
  clear hH4
  have p4 := hp.same s4
  walk_at "go"
  refine isiX_go p4 qi f12 ?_
  refine isiX_go p4 qi f13 ?_
  refine ⟨by omega, fun m4 hm4 => ?_⟩
  have t4 : Same H4 (upd H4 m4 (.lst [V.bl (decide (12 = k)), V.bl (decide (13 = k))])) := Same.new hm4
  refine ⟨l4, m4, _, _, rfl, rfl, t4 _ _ e4, upd_same, by simp; omega, fun l5 hl5 => ?_⟩
  have s5 : Same H (upd (upd H4 m4 (.lst [V.bl (decide (12 = k)), V.bl (decide (13 = k))])) l5 (.lst [V.bl (decide (0 = k)), V.bl (decide (1 = k)), V.bl (decide (2 = k)), V.bl (decide (3 = k)), V.bl (decide (4 = k)), V.bl (decide (5 = k)), V.bl (decide (6 = k)), V.bl (decide (7 = k)), V.bl (decide (8 = k)), V.bl (decide (9 = k)), V.bl (decide (10 = k)), V.bl (decide (11 = k)), V.bl (decide (12 = k)), V.bl (decide (13 = k))])) := (s4.trans t4).trans (Same.new hl5)
  have e5 : upd (upd H4 m4 (.lst [V.bl (decide (12 = k)), V.bl (decide (13 = k))])) l5 (.lst [V.bl (decide (0 = k)), V.bl (decide (1 = k)), V.bl (decide (2 = k)), V.bl (decide (3 = k)), V.bl (decide (4 = k)), V.bl (decide (5 = k)), V.bl (decide (6 = k)), V.bl (decide (7 = k)), V.bl (decide (8 = k)), V.bl (decide (9 = k)), V.bl (decide (10 = k)), V.bl (decide (11 = k)), V.bl (decide (12 = k)), V.bl (decide (13 = k))]) l5 = some (.lst [V.bl (decide (0 = k)), V.bl (decide (1 = k)), V.bl (decide (2 = k)), V.bl (decide (3 = k)), V.bl (decide (4 = k)), V.bl (decide (5 = k)), V.bl (decide (6 = k)), V.bl (decide (7 = k)), V.bl (decide (8 = k)), V.bl (decide (9 = k)), V.bl (decide (10 = k)), V.bl (decide (11 = k)), V.bl (decide (12 = k)), V.bl (decide (13 = k))]) := upd_same
  show _
  have eqH5 : ∃ HH, HH = upd (upd H4 m4 (.lst [V.bl (decide (12 = k)), V.bl (decide (13 = k))])) l5 (.lst [V.bl (decide (0 = k)), V.bl (decide (1 = k)), V.bl (decide (2 = k)), V.bl (decide (3 = k)), V.bl (decide (4 = k)), V.bl (decide (5 = k)), V.bl (decide (6 = k)), V.bl (decide (7 = k)), V.bl (decide (8 = k)), V.bl (decide (9 = k)), V.bl (decide (10 = k)), V.bl (decide (11 = k)), V.bl (decide (12 = k)), V.bl (decide (13 = k))]) := ⟨_, rfl⟩
  obtain ⟨H5, hH5⟩ := eqH5
  simp only [List.cons_append, List.nil_append]
  rw [← hH5] at s5 e5 ⊢
  clear hH5
  have p5 := hp.same s5
  walk_at "go"
  have eY : [V.bl (decide (0 = k)), V.bl (decide (1 = k)), V.bl (decide (2 = k)), V.bl (decide (3 = k)), V.bl (decide (4 = k)), V.bl (decide (5 = k)), V.bl (decide (6 = k)), V.bl (decide (7 = k)), V.bl (decide (8 = k)), V.bl (decide (9 = k)), V.bl (decide (10 = k)), V.bl (decide (11 = k)), V.bl (decide (12 = k)), V.bl (decide (13 = k))] = (List.range 14).map (fun i => V.bl (decide (i = k))) := rfl
  rw [eY] at e5
  have lY : ((List.range 14).map (fun i => V.bl (decide (i = k)))).length = 14 := by simp
  rename_i rest hrest
  refine ⟨_, .inl (SqL.of e5), by rw [lY]; decide, by rw [lY]; decide, ?_⟩
  rw [lY]
  refine forR_by (fun i σ H' => ∃ v3, σ = [some (V.ref p), some (V.int k), some (V.ref l5), v3, none, none] ∧ H' = H5) ⟨none, rfl, rfl⟩ ?_ ?_
  · rintro i σ H' hi ⟨v3, rfl, rfl⟩
    walk_at "go"
    refine ixL_of (SqL.of e5) (v := V.bl (decide (i = k))) (atI_nat (by rw [List.getElem?_map, List.getElem?_range hi]; rfl)) ?_
    walk_at "go"
    have e : decide (i = k) = decide ((i : Int) = k) := decide_eq_decide.mpr (by omega)
    rw [if_neg (fun h => h e)]
    trivial
  · rintro σ H' ⟨v3, rfl, rfl⟩
    subst hrest
    walk_at "go"
    intro w1 hw1
    have sw : Same H (upd H' w1 (.lst [V.str (Str.ofString "no name"), V.str (Str.ofString "no number"), V.str (Str.ofString "twice"), V.str (Str.ofString "too many"), V.str (Str.ofString "unknown"), V.str (Str.ofString "too wide"), V.str (Str.ofString "there"), V.str (Str.ofString "not there"), V.str (Str.ofString "full")])) := s5.trans (Same.new hw1)
    have ew : upd H' w1 (.lst [V.str (Str.ofString "no name"), V.str (Str.ofString "no number"), V.str (Str.ofString "twice"), V.str (Str.ofString "too many"), V.str (Str.ofString "unknown"), V.str (Str.ofString "too wide"), V.str (Str.ofString "there"), V.str (Str.ofString "not there"), V.str (Str.ofString "full")]) w1 = some (.lst [V.str (Str.ofString "no name"), V.str (Str.ofString "no number"), V.str (Str.ofString "twice"), V.str (Str.ofString "too many"), V.str (Str.ofString "unknown"), V.str (Str.ofString "too wide"), V.str (Str.ofString "there"), V.str (Str.ofString "not there"), V.str (Str.ofString "full")]) := upd_same
    generalize upd H' w1 (.lst [V.str (Str.ofString "no name"), V.str (Str.ofString "no number"), V.str (Str.ofString "twice"), V.str (Str.ofString "too many"), V.str (Str.ofString "unknown"), V.str (Str.ofString "too wide"), V.str (Str.ofString "there"), V.str (Str.ofString "not there"), V.str (Str.ofString "full")]) = H6 at sw ew ⊢
    walk_at "go"
    intro w2 hw2
    refine ⟨w1, w2, _, _, rfl, rfl, (Same.new hw2) _ _ ew, upd_same, by simp; omega, fun w3 hw3 => ?_⟩
    have s7 : Same H (upd (upd H6 w2 (.lst [V.str (Str.ofString "bad book"), V.str (Str.ofString "bad paper"), V.str (Str.ofString "no rule"), V.str (Str.ofString "unlike"), V.str (Str.ofString "no line"), V.str (Str.ofString "refused")])) w3 (.lst (words.map V.str))) := (sw.trans (Same.new hw2)).trans (Same.new hw3)
    have e7 : upd (upd H6 w2 (.lst [V.str (Str.ofString "bad book"), V.str (Str.ofString "bad paper"), V.str (Str.ofString "no rule"), V.str (Str.ofString "unlike"), V.str (Str.ofString "no line"), V.str (Str.ofString "refused")])) w3 (.lst (words.map V.str)) w3 = some (.lst (words.map V.str)) := upd_same
    obtain ⟨H7, hH7⟩ : ∃ HH, HH = upd (upd H6 w2 (.lst [V.str (Str.ofString "bad book"), V.str (Str.ofString "bad paper"), V.str (Str.ofString "no rule"), V.str (Str.ofString "unlike"), V.str (Str.ofString "no line"), V.str (Str.ofString "refused")])) w3 (.lst (words.map V.str)) := ⟨_, rfl⟩
    rw [← hH7] at s7 e7
    have hX : ∀ R : Hp → Prop, R H7 → R (upd (upd H6 w2 (.lst [V.str (Str.ofString "bad book"), V.str (Str.ofString "bad paper"), V.str (Str.ofString "no rule"), V.str (Str.ofString "unlike"), V.str (Str.ofString "no line"), V.str (Str.ofString "refused")])) w3 (.lst (words.map V.str))) := fun R h => by rw [← hH7]; exact h
    refine hX (fun HH => _) ?_
    clear hX hH7
    walk_at "go"
    obtain ⟨nw, hpx⟩ := hp.same s7
    refine ⟨nw, p, C, w, hw, rfl, hpx.imp id fun ⟨dx, fs, h1, h2, h3⟩ => ⟨dx, h1, fs, h2, h3⟩, ?_⟩
    walk_at "go"
    refine ixL_of (SqL.of e7) (v := V.str w) (atI_nat (by rw [List.getElem?_map, hk]; rfl)) ⟨rfl, ?_⟩
    rw [decide_eq_true rfl]
    exact q _ s7
theorem ok_l_plain {f : Addr} {fd : FuncData} (F : Fun K "_law_plain" "_law_plain" s_l_plain f fd) (T : Txt K mg xCastError xNoName xNoNumber xTwice xTooMany xUnknown xTooWide xThere xNotThere xFull xBadBook xBadPaper xNoRule xUnlike xNoLine) (D_l_is : Def P w K mg base (CXF P w) 2 "_law_is" ["_law_thing", "_law_number"] (sp9_is K [xNoName, xNoNumber, xTwice, xTooMany, xUnknown, xTooWide, xThere, xNotThere, xFull, xBadBook, xBadPaper, xNoRule, xUnlike, xNoLine] xCastError [(xNoName, Str.ofString "no name"), (xNoNumber, Str.ofString "no number"), (xTwice, Str.ofString "twice"), (xTooMany, Str.ofString "too many"), (xUnknown, Str.ofString "unknown"), (xTooWide, Str.ofString "too wide"), (xThere, Str.ofString "there"), (xNotThere, Str.ofString "not there"), (xFull, Str.ofString "full"), (xBadBook, Str.ofString "bad book"), (xBadPaper, Str.ofString "bad paper"), (xNoRule, Str.ofString "no rule"), (xUnlike, Str.ofString "unlike"), (xNoLine, Str.ofString "no line"), (xCastError, Str.ofString "refused")])) : FnOk P w K mg base (CXF P w) 3 f fd ["_law_text"] (sp9_plain) := by
  have sc : FnScope ["_law_text"] ["_law_text"] (defScope s_l_plain) := ⟨rfl, rfl, rfl, by decide +kernel, rfl, by decide +kernel, by decide +kernel⟩
  refine F.okF sc (fun vs H Q E h => ?_) (fun cdv A outer s H vs Q E hr h => ?_)
  · obtain ⟨z, rfl, hz, q⟩ := h; rfl
  obtain ⟨z, rfl, hz, q⟩ := h
  refine ⟨_, (pss_cons (ps_if (PW.pt (pw_or (pt_not (pt_val (pe_callD D_l_is hr rfl pass_onF (pa_cons (pe_exc T.x_NoName rfl T.k_NoName rfl T.c_NoName (pa_cons (pv 0) pa_nil)) (pa_cons pe_int pa_nil))))) (pw_or (pt_not (pt_val (pe_callD D_l_is hr rfl pass_onF (pa_cons (pe_exc T.x_NoNumber rfl T.k_NoNumber rfl T.c_NoNumber (pa_cons (pv 0) pa_nil)) (pa_cons pe_int pa_nil))))) (pw_or1 (pt_not (pt_val (pe_callD D_l_is hr rfl pass_onF (pa_cons (pe_exc T.x_Twice rfl T.k_Twice rfl T.c_Twice (pa_cons (pv 0) pa_nil)) (pa_cons pe_int pa_nil)))))))))
      (@pss_one _ _ _ (@ps_ret _ _ _ _ pe_bl))
      pss_nil)
    (pss_cons (ps_if (PW.pt (pw_or (pt_not (pt_val (pe_callD D_l_is hr rfl pass_onF (pa_cons (pe_exc T.x_TooMany rfl T.k_TooMany rfl T.c_TooMany (pa_cons (pv 0) pa_nil)) (pa_cons pe_int pa_nil))))) (pw_or (pt_not (pt_val (pe_callD D_l_is hr rfl pass_onF (pa_cons (pe_exc T.x_There rfl T.k_There rfl T.c_There (pa_cons (pv 0) pa_nil)) (pa_cons pe_int pa_nil))))) (pw_or1 (pt_not (pt_val (pe_callD D_l_is hr rfl pass_onF (pa_cons (pe_exc T.x_NotThere rfl T.k_NotThere rfl T.c_NotThere (pa_cons (pv 0) pa_nil)) (pa_cons pe_int pa_nil)))))))))
      (@pss_one _ _ _ (@ps_ret _ _ _ _ pe_bl))
      pss_nil)
    (pss_cons (ps_if (PW.pt (pw_or (pt_not (pt_val (pe_callD D_l_is hr rfl pass_onF (pa_cons (pe_exc T.x_Full rfl T.k_Full rfl T.c_Full (pa_cons (pv 0) pa_nil)) (pa_cons pe_int pa_nil))))) (pw_or (pt_not (pt_val (pe_callD D_l_is hr rfl pass_onF (pa_cons (pe_exc T.x_BadPaper rfl T.k_BadPaper rfl T.c_BadPaper (pa_cons (pv 0) pa_nil)) (pa_cons pe_int pa_nil))))) (pw_or1 (pt_not (pt_val (pe_callD D_l_is hr rfl pass_onF (pa_cons (pe_exc T.x_NoRule rfl T.k_NoRule rfl T.c_NoRule (pa_cons (pv 0) pa_nil)) (pa_cons pe_int pa_nil)))))))))
      (@pss_one _ _ _ (@ps_ret _ _ _ _ pe_bl))
      pss_nil)
    (@pss_one _ _ _ (@ps_ret _ _ _ _ (pe_and (pe_callD D_l_is hr rfl pass_onF (pa_cons (pe_exc T.x_Unlike rfl T.k_Unlike rfl T.c_Unlike (pa_cons (pv 0) pa_nil)) (pa_cons pe_int pa_nil))) (pe_and (pe_callD D_l_is hr rfl pass_onF (pa_cons (pe_exc T.x_NoLine rfl T.k_NoLine rfl T.c_NoLine (pa_cons (pv 0) pa_nil)) (pa_cons pe_int pa_nil))) (pe_one (pe_callD D_l_is hr rfl pass_onF (pa_cons (pe_exc T.x_CastError rfl T.k_CastError rfl T.c_CastError (pa_cons (pv 0) pa_nil)) (pa_cons pe_int pa_nil))))))))))), ?_⟩
  rw [show start ["_law_text"] [V.str z] = [some (V.str z)] from rfl]
  have line := line_val
  walk_at "go"
  have s0 : Same H H := Same.refl H
  intro x0 hx0
  refine ⟨xNoName, 0, rfl, ⟨true, .inl upd_same⟩, T.r_NoName, _, by simp, rfl, fun H1 sm1 => ⟨by omega, fun x1 hx1 => ?_⟩⟩
  have s1 : Same H H1 := (s0.trans (Same.new hx0)).trans sm1
  refine ⟨xNoNumber, 1, rfl, ⟨true, .inl upd_same⟩, T.r_NoNumber, _, by simp, rfl, fun H2 sm2 => ⟨by omega, fun x2 hx2 => ?_⟩⟩
  have s2 : Same H H2 := (s1.trans (Same.new hx1)).trans sm2
  refine ⟨xTwice, 2, rfl, ⟨true, .inl upd_same⟩, T.r_Twice, _, by simp, rfl, fun H3 sm3 => ?_⟩
  have s3 : Same H H3 := (s2.trans (Same.new hx2)).trans sm3
  walk_at "go"
  intro x3 hx3
  refine ⟨xTooMany, 3, rfl, ⟨true, .inl upd_same⟩, T.r_TooMany, _, by simp, rfl, fun H4 sm4 => ⟨by omega, fun x4 hx4 => ?_⟩⟩
  have s4 : Same H H4 := (s3.trans (Same.new hx3)).trans sm4
  refine ⟨xThere, 6, rfl, ⟨true, .inl upd_same⟩, T.r_There, _, by simp, rfl, fun H5 sm5 => ⟨by omega, fun x5 hx5 => ?_⟩⟩
  have s5 : Same H H5 := (s4.trans (Same.new hx4)).trans sm5
  refine ⟨xNotThere, 7, rfl, ⟨true, .inl upd_same⟩, T.r_NotThere, _, by simp, rfl, fun H6 sm6 => ?_⟩
  have s6 : Same H H6 := (s5.trans (Same.new hx5)).trans sm6
  walk_at "go"
  intro x6 hx6
  refine ⟨xFull, 8, rfl, ⟨true, .inl upd_same⟩, T.r_Full, _, by simp, rfl, fun H7 sm7 => ⟨by omega, fun x7 hx7 => ?_⟩⟩
  have s7 : Same H H7 := (s6.trans (Same.new hx6)).trans sm7
  refine ⟨xBadPaper, 10, rfl, ⟨true, .inl upd_same⟩, T.r_BadPaper, _, by simp, rfl, fun H8 sm8 => ⟨by omega, fun x8 hx8 => ?_⟩⟩
  have s8 : Same H H8 := (s7.trans (Same.new hx7)).trans sm8
  refine ⟨xNoRule, 11, rfl, ⟨true, .inl upd_same⟩, T.r_NoRule, _, by simp, rfl, fun H9 sm9 => ?_⟩
  have s9 : Same H H9 := (s8.trans (Same.new hx8)).trans sm9
  walk_at "go"
  intro x9 hx9
  refine ⟨xUnlike, 12, rfl, ⟨true, .inl upd_same⟩, T.r_Unlike, _, by simp, rfl, fun H10 sm10 => ⟨by omega, fun x10 hx10 => ?_⟩⟩
  have s10 : Same H H10 := (s9.trans (Same.new hx9)).trans sm10
  refine ⟨xNoLine, 13, rfl, ⟨true, .inl upd_same⟩, T.r_NoLine, _, by simp, rfl, fun H11 sm11 => ⟨by omega, fun x11 hx11 => ?_⟩⟩
  have s11 : Same H H11 := (s10.trans (Same.new hx10)).trans sm11
  refine ⟨xCastError, 14, rfl, ⟨true, .inl upd_same⟩, T.r_CastError, _, by simp, rfl, fun H12 sm12 => ?_⟩
  have s12 : Same H H12 := (s11.trans (Same.new hx11)).trans sm12
  exact q _ s12
theorem ok_law {f : Addr} {fd : FuncData} (F : Fun K "law" "law" s_law f fd) (T : Txt K mg xCastError xNoName xNoNumber xTwice xTooMany xUnknown xTooWide xThere xNotThere xFull xBadBook xBadPaper xNoRule xUnlike xNoLine) (D_l_cell : Def P w K mg base (CXF P w) 1 "_law_cell" ["_law_script", "_law_k"] (sp_cell K)) (D_Unknown_init : DefX P w K mg base (CXF P w) 1 "Unknown" xUnknown ["self", "name", "place"] (sp_unk xUnknown)) (D_TooWide_init : DefX P w K mg base (CXF P w) 1 "TooWide" xTooWide ["self", "name", "place"] (sp_unk xTooWide)) (D_BadBook_init : DefX P w K mg base (CXF P w) 1 "BadBook" xBadBook ["self", "place"] (sp_bad xBadBook)) (D_l_is : Def P w K mg base (CXF P w) 2 "_law_is" ["_law_thing", "_law_number"] (sp9_is K [xNoName, xNoNumber, xTwice, xTooMany, xUnknown, xTooWide, xThere, xNotThere, xFull, xBadBook, xBadPaper, xNoRule, xUnlike, xNoLine] xCastError [(xNoName, Str.ofString "no name"), (xNoNumber, Str.ofString "no number"), (xTwice, Str.ofString "twice"), (xTooMany, Str.ofString "too many"), (xUnknown, Str.ofString "unknown"), (xTooWide, Str.ofString "too wide"), (xThere, Str.ofString "there"), (xNotThere, Str.ofString "not there"), (xFull, Str.ofString "full"), (xBadBook, Str.ofString "bad book"), (xBadPaper, Str.ofString "bad paper"), (xNoRule, Str.ofString "no rule"), (xUnlike, Str.ofString "unlike"), (xNoLine, Str.ofString "no line"), (xCastError, Str.ofString "refused")])) (D_l_whole : Def P w K mg base (CXF P w) 1 "_law_whole" ["_law_found", "_law_due"] (sp_whole)) (D_l_plain : Def P w K mg base (CXF P w) 3 "_law_plain" ["_law_text"] (sp9_plain)) : FnOk P w K mg base (CXF P w) 4 f fd ["_law_script"] (sp_law K) := by
  have sc : FnScope ["_law_script", "_law_signs", "_law_name", "_law_k", "_law_other", "_law_place", "_law_one", "_law_two", "_law_three", "_law_four", "_law_five"] ["_law_script"] (defScope s_law) := ⟨rfl, rfl, rfl, by decide +kernel, rfl, by decide +kernel, by decide +kernel⟩
  refine F.okF sc (fun vs H Q E h => ?_) (fun cdv A outer s H vs Q E hr h => ?_)
  · obtain ⟨a, ns, rfl, hS, hl, q⟩ := h; rfl
  obtain ⟨a, ns, rfl, hS, hl, q⟩ := h
  refine ⟨_, (pss_cons (ps_set (i := 1) sc.nd rfl (Or.inl rfl) pe_str)
    (pss_cons (ps_set (i := 2) sc.nd rfl (Or.inl rfl) pe_str)
    (pss_cons (ps_for own_outF rfl (pi_range1 rfl T.z_range (pa_cons (pe_op op_add pe_int (pe_op op_mod (pe_callD D_l_cell hr rfl pass_onF (pa_cons (pv 0) (pa_cons pe_int pa_nil))) pe_int)) pa_nil)) (pg_name (i := 3) sc.nd rfl (Or.inl rfl))
      (@pss_one _ _ _ (ps_set (i := 2) sc.nd rfl (Or.inl rfl) (pe_op op_add_str (pv 2) (@pe_ix _ _ _ _ _ _ _ ix_str (pv 1) (pe_op op_mod (pe_op op_add (pe_op op_fdivB (pe_callD D_l_cell hr rfl pass_onF (pa_cons (pv 0) (pa_cons pe_int pa_nil))) (pe_op op_add (pv 3) pe_int)) (pv 3)) pe_int) (fun _ _ => rfl))))))
    (pss_cons (ps_set (i := 4) sc.nd rfl (Or.inl rfl) (pe_op op_add_str (pe_slice sl_str (pv 2) (po_some pe_int) po_none) pe_str))
    (pss_cons (ps_set (i := 5) sc.nd rfl (Or.inl rfl) (pe_op op_sub (pe_op op_mod (pe_callD D_l_cell hr rfl pass_onF (pa_cons (pv 0) (pa_cons pe_int pa_nil))) pe_int) pe_int))
    (pss_cons (ps_set (i := 6) sc.nd rfl (Or.inl rfl) (pe_excI D_Unknown_init rfl hr rfl (passS pass_onF) (pa_cons (pv 2) (pa_cons (pv 5) pa_nil))))
    (pss_cons (ps_set (i := 7) sc.nd rfl (Or.inl rfl) (pe_excI D_TooWide_init rfl hr rfl (passS pass_onF) (pa_cons (pv 4) (pa_cons (pe_op op_add (pv 5) pe_int) pa_nil))))
    (pss_cons (ps_set (i := 8) sc.nd rfl (Or.inl rfl) (pe_excI D_Unknown_init rfl hr rfl (passS pass_onF) (pa_cons (pv 4) (pa_cons (pe_op op_add (pv 5) pe_int) pa_nil))))
    (pss_cons (ps_set (i := 9) sc.nd rfl (Or.inl rfl) (pe_excI D_BadBook_init rfl hr rfl (passS pass_onF) (pa_cons (pv 5) pa_nil)))
    (pss_cons (ps_set (i := 10) sc.nd rfl (Or.inl rfl) (pe_excI D_BadBook_init rfl hr rfl (passS pass_onF) (pa_cons (pe_op op_add (pv 5) pe_int) pa_nil)))
    (pss_cons (ps_if (PW.pt (pw_or (pt_not (pt_val (pe_callD D_l_is hr rfl pass_onF (pa_cons (pv 6) (pa_cons pe_int pa_nil))))) (pw_or (pt_not (pt_val (pe_callD D_l_is hr rfl pass_onF (pa_cons (pv 7) (pa_cons pe_int pa_nil))))) (pw_or1 (pt_not (pt_val (pe_callD D_l_is hr rfl pass_onF (pa_cons (pv 8) (pa_cons pe_int pa_nil)))))))))
      (@pss_one _ _ _ (@ps_ret _ _ _ _ pe_bl))
      pss_nil)
    (pss_cons (ps_if (PW.pt (pw_or (pt_not (pt_val (pe_callD D_l_is hr rfl pass_onF (pa_cons (pv 9) (pa_cons pe_int pa_nil))))) (pw_or1 (pt_not (pt_val (pe_callD D_l_is hr rfl pass_onF (pa_cons (pv 10) (pa_cons pe_int pa_nil))))))))
      (@pss_one _ _ _ (@ps_ret _ _ _ _ pe_bl))
      pss_nil)
    (pss_cons (ps_if (PW.pt (pw_or (pt_cmpR op_ne (pe_fldX (pv 6) rfl) (pv 2) (nomark _)) (pw_or (pt_cmpR op_ne (pe_fldX (pv 7) rfl) (pv 4) (nomark _)) (pw_or1 (pt_cmpR op_ne (pe_fldX (pv 8) rfl) (pv 4) (nomark _))))))
      (@pss_one _ _ _ (@ps_ret _ _ _ _ pe_bl))
      pss_nil)
    (pss_cons (ps_if (PW.pt (pw_or (pt_not (pt_val (pe_callD D_l_whole hr rfl pass_onF (pa_cons (pe_fldX (pv 6) rfl) (pa_cons (pv 5) pa_nil))))) (pw_or1 (pt_not (pt_val (pe_callD D_l_whole hr rfl pass_onF (pa_cons (pe_fldX (pv 7) rfl) (pa_cons (pe_op op_add (pv 5) pe_int) pa_nil))))))))
      (@pss_one _ _ _ (@ps_ret _ _ _ _ pe_bl))
      pss_nil)
    (pss_cons (ps_if (PW.pt (pw_or (pt_not (pt_val (pe_callD D_l_whole hr rfl pass_onF (pa_cons (pe_fldX (pv 8) rfl) (pa_cons (pe_op op_add (pv 5) pe_int) pa_nil))))) (pw_or1 (pt_not (pt_val (pe_callD D_l_whole hr rfl pass_onF (pa_cons (pe_fldX (pv 9) rfl) (pa_cons (pv 5) pa_nil))))))))
      (@pss_one _ _ _ (@ps_ret _ _ _ _ pe_bl))
      pss_nil)
    (@pss_one _ _ _ (@ps_ret _ _ _ _ (pe_and (pe_callD D_l_whole hr rfl pass_onF (pa_cons (pe_fldX (pv 10) rfl) (pa_cons (pe_op op_add (pv 5) pe_int) pa_nil))) (pe_and (pe_callD D_l_plain hr rfl pass_onF (pa_cons (pv 2) pa_nil)) (pe_one (pe_callD D_l_plain hr rfl pass_onF (pa_cons pe_str pa_nil)))))))))))))))))))))), ?_⟩
  rw [show start ["_law_script", "_law_signs", "_law_name", "_law_k", "_law_other", "_law_place", "_law_one", "_law_two", "_law_three", "_law_four", "_law_five"] [V.ref a] = [some (V.ref a), none, none, none, none, none, none, none, none, none, none] from rfl]
  have line := line_val
  have ll := let_len
  walk_at "go"
  rename_i rest hrest
  refine forR_by (fun k σ H' => ∃ (z : Str) (v3 : Option V), σ = [some (V.ref a), some (V.str (Str.ofString "abcdefghijklmnopqrstuvwxyz")), some (V.str z), v3, none, none, none, none, none, none, none] ∧ H' = H ∧ z.length ≤ k) ⟨Str.ofString "", none, rfl, rfl, by decide +kernel⟩ ?_ ?_
  · rintro k σ H' hk ⟨z, v3, rfl, rfl, hz⟩
    have hk8 : k < 8 := by omega
    walk_at "go"
    exact ixS_of (by omega) (ix_let _) ⟨_, rfl, by rw [len_one]; omega, rfl, by rw [len_app, len_one]; omega⟩
  · rintro σ H' ⟨z, v3, rfl, rfl, hz⟩
    have hz8 : z.length ≤ 8 := by omega
    subst hrest
    have z1 := Txt.slice_le z (some 1) none
    have lq : (Str.ofString "q").length = 1 := by decide +kernel
    walk_at "go"
    intro x1 hx1
    generalize ns.getD 2 0 % 202 - 1 = pl
    generalize Txt.slice z (some 1) none ++ Str.ofString "q" = y
    refine ⟨true, upd_same, fun d1 hd1 => ?_⟩
    have n1 : x1 ≠ d1 := fun e => by rw [e, upd_same] at hd1; cases hd1
    have g1 : H' d1 = none := by rw [upd_ne n1.symm] at hd1; exact hd1
    have s1 : Same H' (upd (upd H' x1 (exO true x1 xUnknown (some d1))) d1 (exD d1 (unkF (V.str z) (V.int pl)))) := fun b o e => by rw [upd_ne (ne_of_none e g1), upd_ne (ne_of_none e hx1)]; exact e
    have a1 : (upd (upd H' x1 (exO true x1 xUnknown (some d1))) d1 (exD d1 (unkF (V.str z) (V.int pl)))) x1 = some (exO true x1 xUnknown (some d1)) := by rw [upd_ne n1, upd_same]
    have b1 : (upd (upd H' x1 (exO true x1 xUnknown (some d1))) d1 (exD d1 (unkF (V.str z) (V.int pl)))) d1 = some (exD d1 (unkF (V.str z) (V.int pl))) := upd_same
    walk_at "go"
    generalize upd (upd H' x1 (exO true x1 xUnknown (some d1))) d1 (exD d1 (unkF (V.str z) (V.int pl))) = HA1 at s1 a1 b1 ⊢
    clear hd1 g1 n1
    intro x2 hx2
    refine ⟨true, upd_same, fun d2 hd2 => ?_⟩
    have n2 : x2 ≠ d2 := fun e => by rw [e, upd_same] at hd2; cases hd2
    have g2 : HA1 d2 = none := by rw [upd_ne n2.symm] at hd2; exact hd2
    have s2 : Same HA1 (upd (upd HA1 x2 (exO true x2 xTooWide (some d2))) d2 (exD d2 (unkF (V.str y) (V.int (pl + 1))))) := fun b o e => by rw [upd_ne (ne_of_none e g2), upd_ne (ne_of_none e hx2)]; exact e
    have a2 : (upd (upd HA1 x2 (exO true x2 xTooWide (some d2))) d2 (exD d2 (unkF (V.str y) (V.int (pl + 1))))) x2 = some (exO true x2 xTooWide (some d2)) := by rw [upd_ne n2, upd_same]
    have b2 : (upd (upd HA1 x2 (exO true x2 xTooWide (some d2))) d2 (exD d2 (unkF (V.str y) (V.int (pl + 1))))) d2 = some (exD d2 (unkF (V.str y) (V.int (pl + 1)))) := upd_same
    generalize upd (upd HA1 x2 (exO true x2 xTooWide (some d2))) d2 (exD d2 (unkF (V.str y) (V.int (pl + 1)))) = HA2 at s2 a2 b2 ⊢
    replace a1 := s2 _ _ a1
    replace b1 := s2 _ _ b1
    clear hd2 g2 n2
    walk_at "go"
    intro x3 hx3
    refine ⟨true, upd_same, fun d3 hd3 => ?_⟩
    have n3 : x3 ≠ d3 := fun e => by rw [e, upd_same] at hd3; cases hd3
    have g3 : HA2 d3 = none := by rw [upd_ne n3.symm] at hd3; exact hd3
    have s3 : Same HA2 (upd (upd HA2 x3 (exO true x3 xUnknown (some d3))) d3 (exD d3 (unkF (V.str y) (V.int (pl + 2))))) := fun b o e => by rw [upd_ne (ne_of_none e g3), upd_ne (ne_of_none e hx3)]; exact e
    have a3 : (upd (upd HA2 x3 (exO true x3 xUnknown (some d3))) d3 (exD d3 (unkF (V.str y) (V.int (pl + 2))))) x3 = some (exO true x3 xUnknown (some d3)) := by rw [upd_ne n3, upd_same]
    have b3 : (upd (upd HA2 x3 (exO true x3 xUnknown (some d3))) d3 (exD d3 (unkF (V.str y) (V.int (pl + 2))))) d3 = some (exD d3 (unkF (V.str y) (V.int (pl + 2)))) := upd_same
    generalize upd (upd HA2 x3 (exO true x3 xUnknown (some d3))) d3 (exD d3 (unkF (V.str y) (V.int (pl + 2)))) = HA3 at s3 a3 b3 ⊢
    replace a1 := s3 _ _ a1
    replace b1 := s3 _ _ b1
    replace a2 := s3 _ _ a2
    replace b2 := s3 _ _ b2
    clear hd3 g3 n3
    walk_at "go"
    intro x4 hx4
    refine ⟨true, upd_same, fun d4 hd4 => ?_⟩
    have n4 : x4 ≠ d4 := fun e => by rw [e, upd_same] at hd4; cases hd4
    have g4 : HA3 d4 = none := by rw [upd_ne n4.symm] at hd4; exact hd4
    have s4 : Same HA3 (upd (upd HA3 x4 (exO true x4 xBadBook (some d4))) d4 (exD d4 (putF "place" (V.int pl) []))) := fun b o e => by rw [upd_ne (ne_of_none e g4), upd_ne (ne_of_none e hx4)]; exact e
    have a4 : (upd (upd HA3 x4 (exO true x4 xBadBook (some d4))) d4 (exD d4 (putF "place" (V.int pl) []))) x4 = some (exO true x4 xBadBook (some d4)) := by rw [upd_ne n4, upd_same]
    have b4 : (upd (upd HA3 x4 (exO true x4 xBadBook (some d4))) d4 (exD d4 (putF "place" (V.int pl) []))) d4 = some (exD d4 (putF "place" (V.int pl) [])) := upd_same
    generalize upd (upd HA3 x4 (exO true x4 xBadBook (some d4))) d4 (exD d4 (putF "place" (V.int pl) [])) = HA4 at s4 a4 b4 ⊢
    replace a1 := s4 _ _ a1
    replace b1 := s4 _ _ b1
    replace a2 := s4 _ _ a2
    replace b2 := s4 _ _ b2
    replace a3 := s4 _ _ a3
    replace b3 := s4 _ _ b3
    clear hd4 g4 n4
    walk_at "go"
    intro x5 hx5
    refine ⟨true, upd_same, fun d5 hd5 => ?_⟩
    have n5 : x5 ≠ d5 := fun e => by rw [e, upd_same] at hd5; cases hd5
    have g5 : HA4 d5 = none := by rw [upd_ne n5.symm] at hd5; exact hd5
    have s5 : Same HA4 (upd (upd HA4 x5 (exO true x5 xBadBook (some d5))) d5 (exD d5 (putF "place" (V.int (pl + 3)) []))) := fun b o e => by rw [upd_ne (ne_of_none e g5), upd_ne (ne_of_none e hx5)]; exact e
    have a5 : (upd (upd HA4 x5 (exO true x5 xBadBook (some d5))) d5 (exD d5 (putF "place" (V.int (pl + 3)) []))) x5 = some (exO true x5 xBadBook (some d5)) := by rw [upd_ne n5, upd_same]
    have b5 : (upd (upd HA4 x5 (exO true x5 xBadBook (some d5))) d5 (exD d5 (putF "place" (V.int (pl + 3)) []))) d5 = some (exD d5 (putF "place" (V.int (pl + 3)) [])) := upd_same
    generalize upd (upd HA4 x5 (exO true x5 xBadBook (some d5))) d5 (exD d5 (putF "place" (V.int (pl + 3)) [])) = HA5 at s5 a5 b5 ⊢
    replace a1 := s5 _ _ a1
    replace b1 := s5 _ _ b1
    replace a2 := s5 _ _ a2
    replace b2 := s5 _ _ b2
    replace a3 := s5 _ _ a3
    replace b3 := s5 _ _ b3
    replace a4 := s5 _ _ a4
    replace b4 := s5 _ _ b4
    clear hd5 g5 n5
    walk_at "go"
    have E1 : ExAt HA5 x1 xUnknown := ⟨true, .inr ⟨d1, _, a1, b1, unk_word⟩⟩
    have E2 : ExAt HA5 x2 xTooWide := ⟨true, .inr ⟨d2, _, a2, b2, unk_word⟩⟩
    have E3 : ExAt HA5 x3 xUnknown := ⟨true, .inr ⟨d3, _, a3, b3, unk_word⟩⟩
    have E4 : ExAt HA5 x4 xBadBook := ⟨true, .inr ⟨d4, _, a4, b4, bad_word⟩⟩
    have E5 : ExAt HA5 x5 xBadBook := ⟨true, .inr ⟨d5, _, a5, b5, bad_word⟩⟩
    refine ⟨xUnknown, 4, rfl, E1, T.r_Unknown, _, by simp, rfl, fun B1 t1 => ?_⟩
    refine ⟨xTooWide, 5, rfl, E2.same t1, T.r_TooWide, _, by simp, rfl, fun B2 t2 => ?_⟩
    have t12 := t1.trans t2
    refine ⟨xUnknown, 4, rfl, E3.same t12, T.r_Unknown, _, by simp, rfl, fun B3 t3 => ?_⟩
    have t13 := t12.trans t3
    walk_at "go"
    refine ⟨xBadBook, 9, rfl, E4.same t13, T.r_BadBook, _, by simp, rfl, fun B4 t4 => ?_⟩
    have t14 := t13.trans t4
    refine ⟨xBadBook, 9, rfl, E5.same t14, T.r_BadBook, _, by simp, rfl, fun B5 t5 => ?_⟩
    have t15 := t14.trans t5
    replace a1 := t15 _ _ a1
    replace b1 := t15 _ _ b1
    replace a2 := t15 _ _ a2
    replace b2 := t15 _ _ b2
    replace a3 := t15 _ _ a3
    replace b3 := t15 _ _ b3
    replace a4 := t15 _ _ a4
    replace b4 := t15 _ _ b4
    replace a5 := t15 _ _ a5
    replace b5 := t15 _ _ b5
    walk_at "go"
    refine ⟨true, xUnknown, xCastError, d1, a1, _, b1, T.q_Unknown, T.n_Unknown_name, _, unk_name, rfl, ?_⟩
    rw [if_neg (fun h => h rfl)]
    refine ⟨true, xTooWide, xCastError, d2, a2, _, b2, T.q_TooWide, T.n_TooWide_name, _, unk_name, rfl, ?_⟩
    rw [if_neg (fun h => h rfl)]
    refine ⟨true, xUnknown, xCastError, d3, a3, _, b3, T.q_Unknown, T.n_Unknown_name, _, unk_name, rfl, ?_⟩
    rw [if_neg (fun h => h rfl)]
    walk_at "go"
    refine ⟨true, xUnknown, xCastError, d1, a1, _, b1, T.q_Unknown, T.n_Unknown_place, _, unk_place, _, rfl, ?_⟩
    rw [if_neg (fun h => h rfl)]
    refine ⟨true, xTooWide, xCastError, d2, a2, _, b2, T.q_TooWide, T.n_TooWide_place, _, unk_place, _, rfl, ?_⟩
    rw [if_neg (fun h => h rfl)]
    walk_at "go"
    refine ⟨true, xUnknown, xCastError, d3, a3, _, b3, T.q_Unknown, T.n_Unknown_place, _, unk_place, _, rfl, ?_⟩
    rw [if_neg (fun h => h rfl)]
    refine ⟨true, xBadBook, xCastError, d4, a4, _, b4, T.q_BadBook, T.n_BadBook_place, _, bad_place, _, rfl, ?_⟩
    rw [if_neg (fun h => h rfl)]
    walk_at "go"
    refine ⟨true, xBadBook, xCastError, d5, a5, _, b5, T.q_BadBook, T.n_BadBook_place, _, bad_place, _, rfl, ?_⟩
    rw [if_pos rfl]
    exact ⟨by omega, fun _ _ => ⟨by decide +kernel, fun H2 _ => q H2⟩⟩
end
theorem all_mk {l : PySem.W.OpenLaw} {w : World} {K : PySem.W.Frag} {h : Heap} {mg : Str → Option Value} {fa f0 f1 f2 f3 f4 f5 f6 f7 f8 f9 f10 f11 f12 f13 f14 f15 f16 f17 f18 f19 f20 f21 f22 xCastError xNoName xNoNumber xTwice xTooMany xUnknown xTooWide xThere xNotThere xFull xBadBook xBadPaper xNoRule xUnlike xNoLine : Addr} (X : K.In h) (G : h.Ns mainGlobals mg) (hfa : mg "law" = some (.ref fa))
    {od0 an0 od1 an1 od2 an2 od3 an3 od4 an4 od5 an5 od6 an6 od7 an7 od8 an8 od9 an9 od10 an10 od11 an11 od12 an12 od13 an13 od14 an14 od15 an15 od16 an16 od17 an17 od18 an18 od19 an19 od20 an20 od21 an21 od22 an22 : Option Addr} {sl0 sl1 sl2 sl3 sl4 sl5 sl6 sl7 sl8 sl9 sl10 sl11 sl12 sl13 sl14 sl15 sl16 sl17 sl18 sl19 sl20 sl21 sl22 : Array (Option Value)} {oc0 kV0 dc0 pm0 cd0 ct0 oc1 kV1 dc1 pm1 cd1 ct1 oc2 kV2 dc2 pm2 cd2 ct2 oc3 kV3 dc3 pm3 cd3 ct3 oc4 kV4 dc4 pm4 cd4 ct4 oc5 kV5 dc5 pm5 cd5 ct5 oc6 kV6 dc6 pm6 cd6 ct6 oc7 kV7 dc7 pm7 cd7 ct7 oc8 kV8 dc8 pm8 cd8 ct8 oc9 kV9 dc9 pm9 cd9 ct9 oc10 kV10 dc10 pm10 cd10 ct10 oc11 kV11 dc11 pm11 cd11 ct11 oc12 kV12 dc12 pm12 cd12 ct12 oc13 kV13 dc13 pm13 cd13 ct13 oc14 kV14 dc14 pm14 cd14 ct14 oc15 kV15 dc15 pm15 cd15 ct15 oc16 kV16 dc16 pm16 cd16 ct16 oc17 kV17 dc17 pm17 cd17 ct17 oc18 kV18 dc18 pm18 cd18 ct18 oc19 kV19 dc19 pm19 cd19 ct19 oc20 kV20 dc20 pm20 cd20 ct20 oc21 kV21 dc21 pm21 cd21 ct21 oc22 kV22 dc22 pm22 cd22 ct22 : Value}
    (a0 : PySem.W.findIn K (.ref xNoName) "word" = some (some (.ref f0))) (l0 : K.lookup f0 = some ⟨oc0, od0, .func (PySem.W.fnOf "word" "NoName.word" (defArgs s_NoName_word) (defBody s_NoName_word) (defScope s_NoName_word) .none kV0 dc0 pm0 an0 cd0 ct0), sl0⟩) (c0 : PySem.W.codeIn K cd0 "NoName.word" = true) (n0 : PySem.W.isFn K (.ref f0) = true) (k0 : PySem.W.keepIn K (.ref f0) = true)
    (a1 : PySem.W.findIn K (.ref xNoNumber) "word" = some (some (.ref f1))) (l1 : K.lookup f1 = some ⟨oc1, od1, .func (PySem.W.fnOf "word" "NoNumber.word" (defArgs s_NoNumber_word) (defBody s_NoNumber_word) (defScope s_NoNumber_word) .none kV1 dc1 pm1 an1 cd1 ct1), sl1⟩) (c1 : PySem.W.codeIn K cd1 "NoNumber.word" = true) (n1 : PySem.W.isFn K (.ref f1) = true) (k1 : PySem.W.keepIn K (.ref f1) = true)
    (a2 : PySem.W.findIn K (.ref xTwice) "word" = some (some (.ref f2))) (l2 : K.lookup f2 = some ⟨oc2, od2, .func (PySem.W.fnOf "word" "Twice.word" (defArgs s_Twice_word) (defBody s_Twice_word) (defScope s_Twice_word) .none kV2 dc2 pm2 an2 cd2 ct2), sl2⟩) (c2 : PySem.W.codeIn K cd2 "Twice.word" = true) (n2 : PySem.W.isFn K (.ref f2) = true) (k2 : PySem.W.keepIn K (.ref f2) = true)
    (a3 : PySem.W.findIn K (.ref xTooMany) "word" = some (some (.ref f3))) (l3 : K.lookup f3 = some ⟨oc3, od3, .func (PySem.W.fnOf "word" "TooMany.word" (defArgs s_TooMany_word) (defBody s_TooMany_word) (defScope s_TooMany_word) .none kV3 dc3 pm3 an3 cd3 ct3), sl3⟩) (c3 : PySem.W.codeIn K cd3 "TooMany.word" = true) (n3 : PySem.W.isFn K (.ref f3) = true) (k3 : PySem.W.keepIn K (.ref f3) = true)
    (a4 : PySem.W.findIn K (.ref xUnknown) "word" = some (some (.ref f4))) (l4 : K.lookup f4 = some ⟨oc4, od4, .func (PySem.W.fnOf "word" "Unknown.word" (defArgs s_Unknown_word) (defBody s_Unknown_word) (defScope s_Unknown_word) .none kV4 dc4 pm4 an4 cd4 ct4), sl4⟩) (c4 : PySem.W.codeIn K cd4 "Unknown.word" = true) (n4 : PySem.W.isFn K (.ref f4) = true) (k4 : PySem.W.keepIn K (.ref f4) = true)
    (a5 : PySem.W.findIn K (.ref xTooWide) "word" = some (some (.ref f5))) (l5 : K.lookup f5 = some ⟨oc5, od5, .func (PySem.W.fnOf "word" "TooWide.word" (defArgs s_TooWide_word) (defBody s_TooWide_word) (defScope s_TooWide_word) .none kV5 dc5 pm5 an5 cd5 ct5), sl5⟩) (c5 : PySem.W.codeIn K cd5 "TooWide.word" = true) (n5 : PySem.W.isFn K (.ref f5) = true) (k5 : PySem.W.keepIn K (.ref f5) = true)
    (a6 : PySem.W.findIn K (.ref xThere) "word" = some (some (.ref f6))) (l6 : K.lookup f6 = some ⟨oc6, od6, .func (PySem.W.fnOf "word" "There.word" (defArgs s_There_word) (defBody s_There_word) (defScope s_There_word) .none kV6 dc6 pm6 an6 cd6 ct6), sl6⟩) (c6 : PySem.W.codeIn K cd6 "There.word" = true) (n6 : PySem.W.isFn K (.ref f6) = true) (k6 : PySem.W.keepIn K (.ref f6) = true)
    (a7 : PySem.W.findIn K (.ref xNotThere) "word" = some (some (.ref f7))) (l7 : K.lookup f7 = some ⟨oc7, od7, .func (PySem.W.fnOf "word" "NotThere.word" (defArgs s_NotThere_word) (defBody s_NotThere_word) (defScope s_NotThere_word) .none kV7 dc7 pm7 an7 cd7 ct7), sl7⟩) (c7 : PySem.W.codeIn K cd7 "NotThere.word" = true) (n7 : PySem.W.isFn K (.ref f7) = true) (k7 : PySem.W.keepIn K (.ref f7) = true)
    (a8 : PySem.W.findIn K (.ref xFull) "word" = some (some (.ref f8))) (l8 : K.lookup f8 = some ⟨oc8, od8, .func (PySem.W.fnOf "word" "Full.word" (defArgs s_Full_word) (defBody s_Full_word) (defScope s_Full_word) .none kV8 dc8 pm8 an8 cd8 ct8), sl8⟩) (c8 : PySem.W.codeIn K cd8 "Full.word" = true) (n8 : PySem.W.isFn K (.ref f8) = true) (k8 : PySem.W.keepIn K (.ref f8) = true)
    (a9 : PySem.W.findIn K (.ref xBadBook) "word" = some (some (.ref f9))) (l9 : K.lookup f9 = some ⟨oc9, od9, .func (PySem.W.fnOf "word" "BadBook.word" (defArgs s_BadBook_word) (defBody s_BadBook_word) (defScope s_BadBook_word) .none kV9 dc9 pm9 an9 cd9 ct9), sl9⟩) (c9 : PySem.W.codeIn K cd9 "BadBook.word" = true) (n9 : PySem.W.isFn K (.ref f9) = true) (k9 : PySem.W.keepIn K (.ref f9) = true)
    (a10 : PySem.W.findIn K (.ref xBadPaper) "word" = some (some (.ref f10))) (l10 : K.lookup f10 = some ⟨oc10, od10, .func (PySem.W.fnOf "word" "BadPaper.word" (defArgs s_BadPaper_word) (defBody s_BadPaper_word) (defScope s_BadPaper_word) .none kV10 dc10 pm10 an10 cd10 ct10), sl10⟩) (c10 : PySem.W.codeIn K cd10 "BadPaper.word" = true) (n10 : PySem.W.isFn K (.ref f10) = true) (k10 : PySem.W.keepIn K (.ref f10) = true)
    (a11 : PySem.W.findIn K (.ref xNoRule) "word" = some (some (.ref f11))) (l11 : K.lookup f11 = some ⟨oc11, od11, .func (PySem.W.fnOf "word" "NoRule.word" (defArgs s_NoRule_word) (defBody s_NoRule_word) (defScope s_NoRule_word) .none kV11 dc11 pm11 an11 cd11 ct11), sl11⟩) (c11 : PySem.W.codeIn K cd11 "NoRule.word" = true) (n11 : PySem.W.isFn K (.ref f11) = true) (k11 : PySem.W.keepIn K (.ref f11) = true)
    (a12 : PySem.W.findIn K (.ref xUnlike) "word" = some (some (.ref f12))) (l12 : K.lookup f12 = some ⟨oc12, od12, .func (PySem.W.fnOf "word" "Unlike.word" (defArgs s_Unlike_word) (defBody s_Unlike_word) (defScope s_Unlike_word) .none kV12 dc12 pm12 an12 cd12 ct12), sl12⟩) (c12 : PySem.W.codeIn K cd12 "Unlike.word" = true) (n12 : PySem.W.isFn K (.ref f12) = true) (k12 : PySem.W.keepIn K (.ref f12) = true)
    (a13 : PySem.W.findIn K (.ref xNoLine) "word" = some (some (.ref f13))) (l13 : K.lookup f13 = some ⟨oc13, od13, .func (PySem.W.fnOf "word" "NoLine.word" (defArgs s_NoLine_word) (defBody s_NoLine_word) (defScope s_NoLine_word) .none kV13 dc13 pm13 an13 cd13 ct13), sl13⟩) (c13 : PySem.W.codeIn K cd13 "NoLine.word" = true) (n13 : PySem.W.isFn K (.ref f13) = true) (k13 : PySem.W.keepIn K (.ref f13) = true)
    (a14 : PySem.W.findIn K (.ref xCastError) "word" = some (some (.ref f14))) (l14 : K.lookup f14 = some ⟨oc14, od14, .func (PySem.W.fnOf "word" "CastError.word" (defArgs s_CastError_word) (defBody s_CastError_word) (defScope s_CastError_word) .none kV14 dc14 pm14 an14 cd14 ct14), sl14⟩) (c14 : PySem.W.codeIn K cd14 "CastError.word" = true) (n14 : PySem.W.isFn K (.ref f14) = true) (k14 : PySem.W.keepIn K (.ref f14) = true)
    (a15 : PySem.W.findIn K (.ref xUnknown) "__init__" = some (some (.ref f15))) (l15 : K.lookup f15 = some ⟨oc15, od15, .func (PySem.W.fnOf "__init__" "Unknown.__init__" (defArgs s_Unknown_init) (defBody s_Unknown_init) (defScope s_Unknown_init) .none kV15 dc15 pm15 an15 cd15 ct15), sl15⟩) (c15 : PySem.W.codeIn K cd15 "Unknown.__init__" = true) (k15 : PySem.W.keepIn K (.ref xUnknown) = true) (kf15 : PySem.W.keepIn K (.ref f15) = true) (hc15 : oc15 = .type "function")
    (a16 : PySem.W.findIn K (.ref xTooWide) "__init__" = some (some (.ref f16))) (l16 : K.lookup f16 = some ⟨oc16, od16, .func (PySem.W.fnOf "__init__" "TooWide.__init__" (defArgs s_TooWide_init) (defBody s_TooWide_init) (defScope s_TooWide_init) .none kV16 dc16 pm16 an16 cd16 ct16), sl16⟩) (c16 : PySem.W.codeIn K cd16 "TooWide.__init__" = true) (k16 : PySem.W.keepIn K (.ref xTooWide) = true) (kf16 : PySem.W.keepIn K (.ref f16) = true) (hc16 : oc16 = .type "function")
    (a17 : PySem.W.findIn K (.ref xBadBook) "__init__" = some (some (.ref f17))) (l17 : K.lookup f17 = some ⟨oc17, od17, .func (PySem.W.fnOf "__init__" "BadBook.__init__" (defArgs s_BadBook_init) (defBody s_BadBook_init) (defScope s_BadBook_init) .none kV17 dc17 pm17 an17 cd17 ct17), sl17⟩) (c17 : PySem.W.codeIn K cd17 "BadBook.__init__" = true) (k17 : PySem.W.keepIn K (.ref xBadBook) = true) (kf17 : PySem.W.keepIn K (.ref f17) = true) (hc17 : oc17 = .type "function")
    (a18 : PySem.W.nsIn K mainGlobals "_law_cell" = some (some (.ref f18))) (l18 : K.lookup f18 = some ⟨oc18, od18, .func (PySem.W.fnOf "_law_cell" "_law_cell" (defArgs s_l_cell) (defBody s_l_cell) (defScope s_l_cell) .none kV18 dc18 pm18 an18 cd18 ct18), sl18⟩) (c18 : PySem.W.codeIn K cd18 "_law_cell" = true) (k18 : PySem.W.keepIn K (.ref f18) = true)
    (a19 : PySem.W.nsIn K mainGlobals "_law_whole" = some (some (.ref f19))) (l19 : K.lookup f19 = some ⟨oc19, od19, .func (PySem.W.fnOf "_law_whole" "_law_whole" (defArgs s_l_whole) (defBody s_l_whole) (defScope s_l_whole) .none kV19 dc19 pm19 an19 cd19 ct19), sl19⟩) (c19 : PySem.W.codeIn K cd19 "_law_whole" = true) (k19 : PySem.W.keepIn K (.ref f19) = true)
    (a20 : PySem.W.nsIn K mainGlobals "_law_is" = some (some (.ref f20))) (l20 : K.lookup f20 = some ⟨oc20, od20, .func (PySem.W.fnOf "_law_is" "_law_is" (defArgs s_l_is) (defBody s_l_is) (defScope s_l_is) .none kV20 dc20 pm20 an20 cd20 ct20), sl20⟩) (c20 : PySem.W.codeIn K cd20 "_law_is" = true) (k20 : PySem.W.keepIn K (.ref f20) = true)
    (a21 : PySem.W.nsIn K mainGlobals "_law_plain" = some (some (.ref f21))) (l21 : K.lookup f21 = some ⟨oc21, od21, .func (PySem.W.fnOf "_law_plain" "_law_plain" (defArgs s_l_plain) (defBody s_l_plain) (defScope s_l_plain) .none kV21 dc21 pm21 an21 cd21 ct21), sl21⟩) (c21 : PySem.W.codeIn K cd21 "_law_plain" = true) (k21 : PySem.W.keepIn K (.ref f21) = true)
    (a22 : PySem.W.nsIn K mainGlobals "law" = some (some (.ref f22))) (l22 : K.lookup f22 = some ⟨oc22, od22, .func (PySem.W.fnOf "law" "law" (defArgs s_law) (defBody s_law) (defScope s_law) .none kV22 dc22 pm22 an22 cd22 ct22), sl22⟩) (c22 : PySem.W.codeIn K cd22 "law" = true) (k22 : PySem.W.keepIn K (.ref f22) = true)
    (z_len : PySem.W.nsIn K mainGlobals "len" = some none)
    (z_isinstance : PySem.W.nsIn K mainGlobals "isinstance" = some none)
    (z_int : PySem.W.nsIn K mainGlobals "int" = some none)
    (z_bool : PySem.W.nsIn K mainGlobals "bool" = some none)
    (z_str : PySem.W.nsIn K mainGlobals "str" = some none)
    (z_range : PySem.W.nsIn K mainGlobals "range" = some none)
    (z_ValueError : PySem.W.nsIn K mainGlobals "ValueError" = some none)
    (a_CastError : PySem.W.nsIn K mainGlobals "CastError" = some (some (.ref xCastError)))
    (a_NoName : PySem.W.nsIn K mainGlobals "NoName" = some (some (.ref xNoName)))
    (a_NoNumber : PySem.W.nsIn K mainGlobals "NoNumber" = some (some (.ref xNoNumber)))
    (a_Twice : PySem.W.nsIn K mainGlobals "Twice" = some (some (.ref xTwice)))
    (a_TooMany : PySem.W.nsIn K mainGlobals "TooMany" = some (some (.ref xTooMany)))
    (a_Unknown : PySem.W.nsIn K mainGlobals "Unknown" = some (some (.ref xUnknown)))
    (a_TooWide : PySem.W.nsIn K mainGlobals "TooWide" = some (some (.ref xTooWide)))
    (a_There : PySem.W.nsIn K mainGlobals "There" = some (some (.ref xThere)))
    (a_NotThere : PySem.W.nsIn K mainGlobals "NotThere" = some (some (.ref xNotThere)))
    (a_Full : PySem.W.nsIn K mainGlobals "Full" = some (some (.ref xFull)))
    (a_BadBook : PySem.W.nsIn K mainGlobals "BadBook" = some (some (.ref xBadBook)))
    (a_BadPaper : PySem.W.nsIn K mainGlobals "BadPaper" = some (some (.ref xBadPaper)))
    (a_NoRule : PySem.W.nsIn K mainGlobals "NoRule" = some (some (.ref xNoRule)))
    (a_Unlike : PySem.W.nsIn K mainGlobals "Unlike" = some (some (.ref xUnlike)))
    (a_NoLine : PySem.W.nsIn K mainGlobals "NoLine" = some (some (.ref xNoLine)))
    {cA oA : Value} {dA eA : Option Addr} {cdA : ClassData} {slA smA : Array (Option Value)} {esA : Array DictEntry} {epA : Nat} (lA : K.lookup xCastError = some ⟨cA, dA, .cls cdA, slA⟩) (lNA : K.lookup cdA.ns = some ⟨oA, eA, .dict esA epA, smA⟩) (sNA : strKeysB esA = true) (iNA : nsFind esA "__init__" = none)
    {nm_CastError q_CastError : Str} {N_CastError : Addr} {bs_CastError : List Value} {hd_CastError : Bool} {sn_CastError : List Str} {su_CastError : List Value} {ab_CastError : Bool} {co_CastError : Option Bool} {dd_CastError : Option Addr} {k0_CastError k1_CastError k2_CastError k3_CastError k5_CastError : Option Value} {oc_CastError : Value} {od_CastError : Option Addr} {es_CastError : Array DictEntry} {ep_CastError : Nat} {sl_CastError : Array (Option Value)}
    (lC_CastError : K.lookup xCastError = some (excClassObj nm_CastError q_CastError xCastError N_CastError bs_CastError [.type "ValueError", .type "Exception", .type "BaseException", .type "object"] hd_CastError sn_CastError su_CastError ab_CastError co_CastError dd_CastError k0_CastError k1_CastError k2_CastError k3_CastError k5_CastError "ValueError.__new__")) (lN_CastError : K.lookup N_CastError = some ⟨oc_CastError, od_CastError, .dict es_CastError ep_CastError, sl_CastError⟩) (sN_CastError : strKeysB es_CastError = true) (iN_CastError : nsFind es_CastError "__init__" = none)
    (kc_CastError : PySem.W.keepIn K (.ref xCastError) = true)
    {nm_NoName q_NoName : Str} {N_NoName : Addr} {bs_NoName : List Value} {hd_NoName : Bool} {sn_NoName : List Str} {su_NoName : List Value} {ab_NoName : Bool} {co_NoName : Option Bool} {dd_NoName : Option Addr} {k0_NoName k1_NoName k2_NoName k3_NoName k5_NoName : Option Value} {oc_NoName : Value} {od_NoName : Option Addr} {es_NoName : Array DictEntry} {ep_NoName : Nat} {sl_NoName : Array (Option Value)}
    (lC_NoName : K.lookup xNoName = some (excClassObj nm_NoName q_NoName xNoName N_NoName bs_NoName [.ref xCastError, .type "ValueError", .type "Exception", .type "BaseException", .type "object"] hd_NoName sn_NoName su_NoName ab_NoName co_NoName dd_NoName k0_NoName k1_NoName k2_NoName k3_NoName k5_NoName "ValueError.__new__")) (lN_NoName : K.lookup N_NoName = some ⟨oc_NoName, od_NoName, .dict es_NoName ep_NoName, sl_NoName⟩) (sN_NoName : strKeysB es_NoName = true) (iN_NoName : nsFind es_NoName "__init__" = none)
    (kc_NoName : PySem.W.keepIn K (.ref xNoName) = true)
    {nm_NoNumber q_NoNumber : Str} {N_NoNumber : Addr} {bs_NoNumber : List Value} {hd_NoNumber : Bool} {sn_NoNumber : List Str} {su_NoNumber : List Value} {ab_NoNumber : Bool} {co_NoNumber : Option Bool} {dd_NoNumber : Option Addr} {k0_NoNumber k1_NoNumber k2_NoNumber k3_NoNumber k5_NoNumber : Option Value} {oc_NoNumber : Value} {od_NoNumber : Option Addr} {es_NoNumber : Array DictEntry} {ep_NoNumber : Nat} {sl_NoNumber : Array (Option Value)}
    (lC_NoNumber : K.lookup xNoNumber = some (excClassObj nm_NoNumber q_NoNumber xNoNumber N_NoNumber bs_NoNumber [.ref xCastError, .type "ValueError", .type "Exception", .type "BaseException", .type "object"] hd_NoNumber sn_NoNumber su_NoNumber ab_NoNumber co_NoNumber dd_NoNumber k0_NoNumber k1_NoNumber k2_NoNumber k3_NoNumber k5_NoNumber "ValueError.__new__")) (lN_NoNumber : K.lookup N_NoNumber = some ⟨oc_NoNumber, od_NoNumber, .dict es_NoNumber ep_NoNumber, sl_NoNumber⟩) (sN_NoNumber : strKeysB es_NoNumber = true) (iN_NoNumber : nsFind es_NoNumber "__init__" = none)
    (kc_NoNumber : PySem.W.keepIn K (.ref xNoNumber) = true)
    {nm_Twice q_Twice : Str} {N_Twice : Addr} {bs_Twice : List Value} {hd_Twice : Bool} {sn_Twice : List Str} {su_Twice : List Value} {ab_Twice : Bool} {co_Twice : Option Bool} {dd_Twice : Option Addr} {k0_Twice k1_Twice k2_Twice k3_Twice k5_Twice : Option Value} {oc_Twice : Value} {od_Twice : Option Addr} {es_Twice : Array DictEntry} {ep_Twice : Nat} {sl_Twice : Array (Option Value)}
    (lC_Twice : K.lookup xTwice = some (excClassObj nm_Twice q_Twice xTwice N_Twice bs_Twice [.ref xCastError, .type "ValueError", .type "Exception", .type "BaseException", .type "object"] hd_Twice sn_Twice su_Twice ab_Twice co_Twice dd_Twice k0_Twice k1_Twice k2_Twice k3_Twice k5_Twice "ValueError.__new__")) (lN_Twice : K.lookup N_Twice = some ⟨oc_Twice, od_Twice, .dict es_Twice ep_Twice, sl_Twice⟩) (sN_Twice : strKeysB es_Twice = true) (iN_Twice : nsFind es_Twice "__init__" = none)
    (kc_Twice : PySem.W.keepIn K (.ref xTwice) = true)
    {nm_TooMany q_TooMany : Str} {N_TooMany : Addr} {bs_TooMany : List Value} {hd_TooMany : Bool} {sn_TooMany : List Str} {su_TooMany : List Value} {ab_TooMany : Bool} {co_TooMany : Option Bool} {dd_TooMany : Option Addr} {k0_TooMany k1_TooMany k2_TooMany k3_TooMany k5_TooMany : Option Value} {oc_TooMany : Value} {od_TooMany : Option Addr} {es_TooMany : Array DictEntry} {ep_TooMany : Nat} {sl_TooMany : Array (Option Value)}
    (lC_TooMany : K.lookup xTooMany = some (excClassObj nm_TooMany q_TooMany xTooMany N_TooMany bs_TooMany [.ref xCastError, .type "ValueError", .type "Exception", .type "BaseException", .type "object"] hd_TooMany sn_TooMany su_TooMany ab_TooMany co_TooMany dd_TooMany k0_TooMany k1_TooMany k2_TooMany k3_TooMany k5_TooMany "ValueError.__new__")) (lN_TooMany : K.lookup N_TooMany = some ⟨oc_TooMany, od_TooMany, .dict es_TooMany ep_TooMany, sl_TooMany⟩) (sN_TooMany : strKeysB es_TooMany = true) (iN_TooMany : nsFind es_TooMany "__init__" = none)
    (kc_TooMany : PySem.W.keepIn K (.ref xTooMany) = true)
    {nm_There q_There : Str} {N_There : Addr} {bs_There : List Value} {hd_There : Bool} {sn_There : List Str} {su_There : List Value} {ab_There : Bool} {co_There : Option Bool} {dd_There : Option Addr} {k0_There k1_There k2_There k3_There k5_There : Option Value} {oc_There : Value} {od_There : Option Addr} {es_There : Array DictEntry} {ep_There : Nat} {sl_There : Array (Option Value)}
    (lC_There : K.lookup xThere = some (excClassObj nm_There q_There xThere N_There bs_There [.ref xCastError, .type "ValueError", .type "Exception", .type "BaseException", .type "object"] hd_There sn_There su_There ab_There co_There dd_There k0_There k1_There k2_There k3_There k5_There "ValueError.__new__")) (lN_There : K.lookup N_There = some ⟨oc_There, od_There, .dict es_There ep_There, sl_There⟩) (sN_There : strKeysB es_There = true) (iN_There : nsFind es_There "__init__" = none)
    (kc_There : PySem.W.keepIn K (.ref xThere) = true)
    {nm_NotThere q_NotThere : Str} {N_NotThere : Addr} {bs_NotThere : List Value} {hd_NotThere : Bool} {sn_NotThere : List Str} {su_NotThere : List Value} {ab_NotThere : Bool} {co_NotThere : Option Bool} {dd_NotThere : Option Addr} {k0_NotThere k1_NotThere k2_NotThere k3_NotThere k5_NotThere : Option Value} {oc_NotThere : Value} {od_NotThere : Option Addr} {es_NotThere : Array DictEntry} {ep_NotThere : Nat} {sl_NotThere : Array (Option Value)}
    (lC_NotThere : K.lookup xNotThere = some (excClassObj nm_NotThere q_NotThere xNotThere N_NotThere bs_NotThere [.ref xCastError, .type "ValueError", .type "Exception", .type "BaseException", .type "object"] hd_NotThere sn_NotThere su_NotThere ab_NotThere co_NotThere dd_NotThere k0_NotThere k1_NotThere k2_NotThere k3_NotThere k5_NotThere "ValueError.__new__")) (lN_NotThere : K.lookup N_NotThere = some ⟨oc_NotThere, od_NotThere, .dict es_NotThere ep_NotThere, sl_NotThere⟩) (sN_NotThere : strKeysB es_NotThere = true) (iN_NotThere : nsFind es_NotThere "__init__" = none)
    (kc_NotThere : PySem.W.keepIn K (.ref xNotThere) = true)
    {nm_Full q_Full : Str} {N_Full : Addr} {bs_Full : List Value} {hd_Full : Bool} {sn_Full : List Str} {su_Full : List Value} {ab_Full : Bool} {co_Full : Option Bool} {dd_Full : Option Addr} {k0_Full k1_Full k2_Full k3_Full k5_Full : Option Value} {oc_Full : Value} {od_Full : Option Addr} {es_Full : Array DictEntry} {ep_Full : Nat} {sl_Full : Array (Option Value)}
    (lC_Full : K.lookup xFull = some (excClassObj nm_Full q_Full xFull N_Full bs_Full [.ref xCastError, .type "ValueError", .type "Exception", .type "BaseException", .type "object"] hd_Full sn_Full su_Full ab_Full co_Full dd_Full k0_Full k1_Full k2_Full k3_Full k5_Full "ValueError.__new__")) (lN_Full : K.lookup N_Full = some ⟨oc_Full, od_Full, .dict es_Full ep_Full, sl_Full⟩) (sN_Full : strKeysB es_Full = true) (iN_Full : nsFind es_Full "__init__" = none)
    (kc_Full : PySem.W.keepIn K (.ref xFull) = true)
    {nm_BadPaper q_BadPaper : Str} {N_BadPaper : Addr} {bs_BadPaper : List Value} {hd_BadPaper : Bool} {sn_BadPaper : List Str} {su_BadPaper : List Value} {ab_BadPaper : Bool} {co_BadPaper : Option Bool} {dd_BadPaper : Option Addr} {k0_BadPaper k1_BadPaper k2_BadPaper k3_BadPaper k5_BadPaper : Option Value} {oc_BadPaper : Value} {od_BadPaper : Option Addr} {es_BadPaper : Array DictEntry} {ep_BadPaper : Nat} {sl_BadPaper : Array (Option Value)}
    (lC_BadPaper : K.lookup xBadPaper = some (excClassObj nm_BadPaper q_BadPaper xBadPaper N_BadPaper bs_BadPaper [.ref xCastError, .type "ValueError", .type "Exception", .type "BaseException", .type "object"] hd_BadPaper sn_BadPaper su_BadPaper ab_BadPaper co_BadPaper dd_BadPaper k0_BadPaper k1_BadPaper k2_BadPaper k3_BadPaper k5_BadPaper "ValueError.__new__")) (lN_BadPaper : K.lookup N_BadPaper = some ⟨oc_BadPaper, od_BadPaper, .dict es_BadPaper ep_BadPaper, sl_BadPaper⟩) (sN_BadPaper : strKeysB es_BadPaper = true) (iN_BadPaper : nsFind es_BadPaper "__init__" = none)
    (kc_BadPaper : PySem.W.keepIn K (.ref xBadPaper) = true)
    {nm_NoRule q_NoRule : Str} {N_NoRule : Addr} {bs_NoRule : List Value} {hd_NoRule : Bool} {sn_NoRule : List Str} {su_NoRule : List Value} {ab_NoRule : Bool} {co_NoRule : Option Bool} {dd_NoRule : Option Addr} {k0_NoRule k1_NoRule k2_NoRule k3_NoRule k5_NoRule : Option Value} {oc_NoRule : Value} {od_NoRule : Option Addr} {es_NoRule : Array DictEntry} {ep_NoRule : Nat} {sl_NoRule : Array (Option Value)}
    (lC_NoRule : K.lookup xNoRule = some (excClassObj nm_NoRule q_NoRule xNoRule N_NoRule bs_NoRule [.ref xCastError, .type "ValueError", .type "Exception", .type "BaseException", .type "object"] hd_NoRule sn_NoRule su_NoRule ab_NoRule co_NoRule dd_NoRule k0_NoRule k1_NoRule k2_NoRule k3_NoRule k5_NoRule "ValueError.__new__")) (lN_NoRule : K.lookup N_NoRule = some ⟨oc_NoRule, od_NoRule, .dict es_NoRule ep_NoRule, sl_NoRule⟩) (sN_NoRule : strKeysB es_NoRule = true) (iN_NoRule : nsFind es_NoRule "__init__" = none)
    (kc_NoRule : PySem.W.keepIn K (.ref xNoRule) = true)
    {nm_Unlike q_Unlike : Str} {N_Unlike : Addr} {bs_Unlike : List Value} {hd_Unlike : Bool} {sn_Unlike : List Str} {su_Unlike : List Value} {ab_Unlike : Bool} {co_Unlike : Option Bool} {dd_Unlike : Option Addr} {k0_Unlike k1_Unlike k2_Unlike k3_Unlike k5_Unlike : Option Value} {oc_Unlike : Value} {od_Unlike : Option Addr} {es_Unlike : Array DictEntry} {ep_Unlike : Nat} {sl_Unlike : Array (Option Value)}
    (lC_Unlike : K.lookup xUnlike = some (excClassObj nm_Unlike q_Unlike xUnlike N_Unlike bs_Unlike [.ref xCastError, .type "ValueError", .type "Exception", .type "BaseException", .type "object"] hd_Unlike sn_Unlike su_Unlike ab_Unlike co_Unlike dd_Unlike k0_Unlike k1_Unlike k2_Unlike k3_Unlike k5_Unlike "ValueError.__new__")) (lN_Unlike : K.lookup N_Unlike = some ⟨oc_Unlike, od_Unlike, .dict es_Unlike ep_Unlike, sl_Unlike⟩) (sN_Unlike : strKeysB es_Unlike = true) (iN_Unlike : nsFind es_Unlike "__init__" = none)
    (kc_Unlike : PySem.W.keepIn K (.ref xUnlike) = true)
    {nm_NoLine q_NoLine : Str} {N_NoLine : Addr} {bs_NoLine : List Value} {hd_NoLine : Bool} {sn_NoLine : List Str} {su_NoLine : List Value} {ab_NoLine : Bool} {co_NoLine : Option Bool} {dd_NoLine : Option Addr} {k0_NoLine k1_NoLine k2_NoLine k3_NoLine k5_NoLine : Option Value} {oc_NoLine : Value} {od_NoLine : Option Addr} {es_NoLine : Array DictEntry} {ep_NoLine : Nat} {sl_NoLine : Array (Option Value)}
    (lC_NoLine : K.lookup xNoLine = some (excClassObj nm_NoLine q_NoLine xNoLine N_NoLine bs_NoLine [.ref xCastError, .type "ValueError", .type "Exception", .type "BaseException", .type "object"] hd_NoLine sn_NoLine su_NoLine ab_NoLine co_NoLine dd_NoLine k0_NoLine k1_NoLine k2_NoLine k3_NoLine k5_NoLine "ValueError.__new__")) (lN_NoLine : K.lookup N_NoLine = some ⟨oc_NoLine, od_NoLine, .dict es_NoLine ep_NoLine, sl_NoLine⟩) (sN_NoLine : strKeysB es_NoLine = true) (iN_NoLine : nsFind es_NoLine "__init__" = none)
    (kc_NoLine : PySem.W.keepIn K (.ref xNoLine) = true)
    {nm_Unknown q_Unknown : Str} {N_Unknown : Addr} {bs_Unknown : List Value} {sn_Unknown : List Str} {su_Unknown : List Value} {ab_Unknown : Bool} {co_Unknown : Option Bool} {dd_Unknown : Option Addr} {k0_Unknown k1_Unknown k2_Unknown k3_Unknown k5_Unknown : Option Value} {oc_Unknown : Value} {od_Unknown : Option Addr} {es_Unknown : Array DictEntry} {ep_Unknown : Nat} {sl_Unknown : Array (Option Value)}
    (lC_Unknown : K.lookup xUnknown = some (excClassObj nm_Unknown q_Unknown xUnknown N_Unknown bs_Unknown [.ref xCastError, .type "ValueError", .type "Exception", .type "BaseException", .type "object"] true sn_Unknown su_Unknown ab_Unknown co_Unknown dd_Unknown k0_Unknown k1_Unknown k2_Unknown k3_Unknown k5_Unknown "ValueError.__new__")) (lN_Unknown : K.lookup N_Unknown = some ⟨oc_Unknown, od_Unknown, .dict es_Unknown ep_Unknown, sl_Unknown⟩) (sN_Unknown : strKeysB es_Unknown = true) (iN_Unknown : nsFind es_Unknown "__init__" = some (.ref f15))
    (qa_Unknown : PySem.W.findIn K (.ref xUnknown) "__getattribute__" = some (some (.builtin "BaseException.__getattribute__"))) (qh_Unknown : PySem.W.findIn K (.ref xUnknown) "__getattr__" = some none) (qs_Unknown : PySem.W.findIn K (.ref xUnknown) "__setattr__" = some (some (.builtin "object.__setattr__")))
    (n_Unknown_name : PySem.W.findIn K (.ref xUnknown) "name" = some none)
    (n_Unknown_place : PySem.W.findIn K (.ref xUnknown) "place" = some none)
    {nm_TooWide q_TooWide : Str} {N_TooWide : Addr} {bs_TooWide : List Value} {sn_TooWide : List Str} {su_TooWide : List Value} {ab_TooWide : Bool} {co_TooWide : Option Bool} {dd_TooWide : Option Addr} {k0_TooWide k1_TooWide k2_TooWide k3_TooWide k5_TooWide : Option Value} {oc_TooWide : Value} {od_TooWide : Option Addr} {es_TooWide : Array DictEntry} {ep_TooWide : Nat} {sl_TooWide : Array (Option Value)}
    (lC_TooWide : K.lookup xTooWide = some (excClassObj nm_TooWide q_TooWide xTooWide N_TooWide bs_TooWide [.ref xCastError, .type "ValueError", .type "Exception", .type "BaseException", .type "object"] true sn_TooWide su_TooWide ab_TooWide co_TooWide dd_TooWide k0_TooWide k1_TooWide k2_TooWide k3_TooWide k5_TooWide "ValueError.__new__")) (lN_TooWide : K.lookup N_TooWide = some ⟨oc_TooWide, od_TooWide, .dict es_TooWide ep_TooWide, sl_TooWide⟩) (sN_TooWide : strKeysB es_TooWide = true) (iN_TooWide : nsFind es_TooWide "__init__" = some (.ref f16))
    (qa_TooWide : PySem.W.findIn K (.ref xTooWide) "__getattribute__" = some (some (.builtin "BaseException.__getattribute__"))) (qh_TooWide : PySem.W.findIn K (.ref xTooWide) "__getattr__" = some none) (qs_TooWide : PySem.W.findIn K (.ref xTooWide) "__setattr__" = some (some (.builtin "object.__setattr__")))
    (n_TooWide_name : PySem.W.findIn K (.ref xTooWide) "name" = some none)
    (n_TooWide_place : PySem.W.findIn K (.ref xTooWide) "place" = some none)
    {nm_BadBook q_BadBook : Str} {N_BadBook : Addr} {bs_BadBook : List Value} {sn_BadBook : List Str} {su_BadBook : List Value} {ab_BadBook : Bool} {co_BadBook : Option Bool} {dd_BadBook : Option Addr} {k0_BadBook k1_BadBook k2_BadBook k3_BadBook k5_BadBook : Option Value} {oc_BadBook : Value} {od_BadBook : Option Addr} {es_BadBook : Array DictEntry} {ep_BadBook : Nat} {sl_BadBook : Array (Option Value)}
    (lC_BadBook : K.lookup xBadBook = some (excClassObj nm_BadBook q_BadBook xBadBook N_BadBook bs_BadBook [.ref xCastError, .type "ValueError", .type "Exception", .type "BaseException", .type "object"] true sn_BadBook su_BadBook ab_BadBook co_BadBook dd_BadBook k0_BadBook k1_BadBook k2_BadBook k3_BadBook k5_BadBook "ValueError.__new__")) (lN_BadBook : K.lookup N_BadBook = some ⟨oc_BadBook, od_BadBook, .dict es_BadBook ep_BadBook, sl_BadBook⟩) (sN_BadBook : strKeysB es_BadBook = true) (iN_BadBook : nsFind es_BadBook "__init__" = some (.ref f17))
    (qa_BadBook : PySem.W.findIn K (.ref xBadBook) "__getattribute__" = some (some (.builtin "BaseException.__getattribute__"))) (qh_BadBook : PySem.W.findIn K (.ref xBadBook) "__getattr__" = some none) (qs_BadBook : PySem.W.findIn K (.ref xBadBook) "__setattr__" = some (some (.builtin "object.__setattr__")))
    (n_BadBook_place : PySem.W.findIn K (.ref xBadBook) "place" = some none)
    (ga_NoName : PySem.W.findIn K (.ref xNoName) "__getattribute__" = some (some (.builtin "BaseException.__getattribute__"))) (gh_NoName : PySem.W.findIn K (.ref xNoName) "__getattr__" = some none)
    (ga_NoNumber : PySem.W.findIn K (.ref xNoNumber) "__getattribute__" = some (some (.builtin "BaseException.__getattribute__"))) (gh_NoNumber : PySem.W.findIn K (.ref xNoNumber) "__getattr__" = some none)
    (ga_Twice : PySem.W.findIn K (.ref xTwice) "__getattribute__" = some (some (.builtin "BaseException.__getattribute__"))) (gh_Twice : PySem.W.findIn K (.ref xTwice) "__getattr__" = some none)
    (ga_TooMany : PySem.W.findIn K (.ref xTooMany) "__getattribute__" = some (some (.builtin "BaseException.__getattribute__"))) (gh_TooMany : PySem.W.findIn K (.ref xTooMany) "__getattr__" = some none)
    (ga_Unknown : PySem.W.findIn K (.ref xUnknown) "__getattribute__" = some (some (.builtin "BaseException.__getattribute__"))) (gh_Unknown : PySem.W.findIn K (.ref xUnknown) "__getattr__" = some none)
    (ga_TooWide : PySem.W.findIn K (.ref xTooWide) "__getattribute__" = some (some (.builtin "BaseException.__getattribute__"))) (gh_TooWide : PySem.W.findIn K (.ref xTooWide) "__getattr__" = some none)
    (ga_There : PySem.W.findIn K (.ref xThere) "__getattribute__" = some (some (.builtin "BaseException.__getattribute__"))) (gh_There : PySem.W.findIn K (.ref xThere) "__getattr__" = some none)
    (ga_NotThere : PySem.W.findIn K (.ref xNotThere) "__getattribute__" = some (some (.builtin "BaseException.__getattribute__"))) (gh_NotThere : PySem.W.findIn K (.ref xNotThere) "__getattr__" = some none)
    (ga_Full : PySem.W.findIn K (.ref xFull) "__getattribute__" = some (some (.builtin "BaseException.__getattribute__"))) (gh_Full : PySem.W.findIn K (.ref xFull) "__getattr__" = some none)
    (ga_BadBook : PySem.W.findIn K (.ref xBadBook) "__getattribute__" = some (some (.builtin "BaseException.__getattribute__"))) (gh_BadBook : PySem.W.findIn K (.ref xBadBook) "__getattr__" = some none)
    (ga_BadPaper : PySem.W.findIn K (.ref xBadPaper) "__getattribute__" = some (some (.builtin "BaseException.__getattribute__"))) (gh_BadPaper : PySem.W.findIn K (.ref xBadPaper) "__getattr__" = some none)
    (ga_NoRule : PySem.W.findIn K (.ref xNoRule) "__getattribute__" = some (some (.builtin "BaseException.__getattribute__"))) (gh_NoRule : PySem.W.findIn K (.ref xNoRule) "__getattr__" = some none)
    (ga_Unlike : PySem.W.findIn K (.ref xUnlike) "__getattribute__" = some (some (.builtin "BaseException.__getattribute__"))) (gh_Unlike : PySem.W.findIn K (.ref xUnlike) "__getattr__" = some none)
    (ga_NoLine : PySem.W.findIn K (.ref xNoLine) "__getattribute__" = some (some (.builtin "BaseException.__getattribute__"))) (gh_NoLine : PySem.W.findIn K (.ref xNoLine) "__getattr__" = some none)
    (ga_CastError : PySem.W.findIn K (.ref xCastError) "__getattribute__" = some (some (.builtin "BaseException.__getattribute__"))) (gh_CastError : PySem.W.findIn K (.ref xCastError) "__getattr__" = some none)
    (gs_ : PySem.W.specialIn K (.builtin "object.__class__") "__get__" = some (some (.builtin "getset_descriptor.__get__"))) (tk_ : PySem.W.takesIn K (.builtin "object.__class__") = some true)
    {wd_NoName : ClassData} (wc_NoName : PySem.W.clsIn K xNoName = some wd_NoName) (wt_NoName : PySem.W.typeIn K (.ref xNoName) = some (.type "type"))
    {wd_NoNumber : ClassData} (wc_NoNumber : PySem.W.clsIn K xNoNumber = some wd_NoNumber) (wt_NoNumber : PySem.W.typeIn K (.ref xNoNumber) = some (.type "type"))
    {wd_Twice : ClassData} (wc_Twice : PySem.W.clsIn K xTwice = some wd_Twice) (wt_Twice : PySem.W.typeIn K (.ref xTwice) = some (.type "type"))
    {wd_TooMany : ClassData} (wc_TooMany : PySem.W.clsIn K xTooMany = some wd_TooMany) (wt_TooMany : PySem.W.typeIn K (.ref xTooMany) = some (.type "type"))
    {wd_Unknown : ClassData} (wc_Unknown : PySem.W.clsIn K xUnknown = some wd_Unknown) (wt_Unknown : PySem.W.typeIn K (.ref xUnknown) = some (.type "type"))
    {wd_TooWide : ClassData} (wc_TooWide : PySem.W.clsIn K xTooWide = some wd_TooWide) (wt_TooWide : PySem.W.typeIn K (.ref xTooWide) = some (.type "type"))
    {wd_There : ClassData} (wc_There : PySem.W.clsIn K xThere = some wd_There) (wt_There : PySem.W.typeIn K (.ref xThere) = some (.type "type"))
    {wd_NotThere : ClassData} (wc_NotThere : PySem.W.clsIn K xNotThere = some wd_NotThere) (wt_NotThere : PySem.W.typeIn K (.ref xNotThere) = some (.type "type"))
    {wd_Full : ClassData} (wc_Full : PySem.W.clsIn K xFull = some wd_Full) (wt_Full : PySem.W.typeIn K (.ref xFull) = some (.type "type"))
    {wd_BadBook : ClassData} (wc_BadBook : PySem.W.clsIn K xBadBook = some wd_BadBook) (wt_BadBook : PySem.W.typeIn K (.ref xBadBook) = some (.type "type"))
    {wd_BadPaper : ClassData} (wc_BadPaper : PySem.W.clsIn K xBadPaper = some wd_BadPaper) (wt_BadPaper : PySem.W.typeIn K (.ref xBadPaper) = some (.type "type"))
    {wd_NoRule : ClassData} (wc_NoRule : PySem.W.clsIn K xNoRule = some wd_NoRule) (wt_NoRule : PySem.W.typeIn K (.ref xNoRule) = some (.type "type"))
    {wd_Unlike : ClassData} (wc_Unlike : PySem.W.clsIn K xUnlike = some wd_Unlike) (wt_Unlike : PySem.W.typeIn K (.ref xUnlike) = some (.type "type"))
    {wd_NoLine : ClassData} (wc_NoLine : PySem.W.clsIn K xNoLine = some wd_NoLine) (wt_NoLine : PySem.W.typeIn K (.ref xNoLine) = some (.type "type"))
    {wd_CastError : ClassData} (wc_CastError : PySem.W.clsIn K xCastError = some wd_CastError) (wt_CastError : PySem.W.typeIn K (.ref xCastError) = some (.type "type"))
    (wa_NoName : PySem.W.findIn K (.ref xNoName) "__class__" = some (some (.builtin "object.__class__"))) (wb_NoName : PySem.W.mroIn K xNoName (.type "BaseException") = some true) (wo_NoName : PySem.W.mroIn K xNoName (.type "object") = some true) (ws_NoName : PySem.W.subIn K (.ref xNoName) (.ref xNoName) = some true) (wv_NoName : PySem.W.subIn K (.ref xNoName) (.type "ValueError") = some true) (we_NoName : PySem.W.subIn K (.ref xNoName) (.ref xCastError) = some true)
    (w_NoName_NoName : PySem.W.subIn K (.ref xNoName) (.ref xNoName) = some true)
    (w_NoName_NoNumber : PySem.W.subIn K (.ref xNoName) (.ref xNoNumber) = some false)
    (w_NoName_Twice : PySem.W.subIn K (.ref xNoName) (.ref xTwice) = some false)
    (w_NoName_TooMany : PySem.W.subIn K (.ref xNoName) (.ref xTooMany) = some false)
    (w_NoName_Unknown : PySem.W.subIn K (.ref xNoName) (.ref xUnknown) = some false)
    (w_NoName_TooWide : PySem.W.subIn K (.ref xNoName) (.ref xTooWide) = some false)
    (w_NoName_There : PySem.W.subIn K (.ref xNoName) (.ref xThere) = some false)
    (w_NoName_NotThere : PySem.W.subIn K (.ref xNoName) (.ref xNotThere) = some false)
    (w_NoName_Full : PySem.W.subIn K (.ref xNoName) (.ref xFull) = some false)
    (w_NoName_BadBook : PySem.W.subIn K (.ref xNoName) (.ref xBadBook) = some false)
    (w_NoName_BadPaper : PySem.W.subIn K (.ref xNoName) (.ref xBadPaper) = some false)
    (w_NoName_NoRule : PySem.W.subIn K (.ref xNoName) (.ref xNoRule) = some false)
    (w_NoName_Unlike : PySem.W.subIn K (.ref xNoName) (.ref xUnlike) = some false)
    (w_NoName_NoLine : PySem.W.subIn K (.ref xNoName) (.ref xNoLine) = some false)
    (wa_NoNumber : PySem.W.findIn K (.ref xNoNumber) "__class__" = some (some (.builtin "object.__class__"))) (wb_NoNumber : PySem.W.mroIn K xNoNumber (.type "BaseException") = some true) (wo_NoNumber : PySem.W.mroIn K xNoNumber (.type "object") = some true) (ws_NoNumber : PySem.W.subIn K (.ref xNoNumber) (.ref xNoNumber) = some true) (wv_NoNumber : PySem.W.subIn K (.ref xNoNumber) (.type "ValueError") = some true) (we_NoNumber : PySem.W.subIn K (.ref xNoNumber) (.ref xCastError) = some true)
    (w_NoNumber_NoName : PySem.W.subIn K (.ref xNoNumber) (.ref xNoName) = some false)
    (w_NoNumber_NoNumber : PySem.W.subIn K (.ref xNoNumber) (.ref xNoNumber) = some true)
    (w_NoNumber_Twice : PySem.W.subIn K (.ref xNoNumber) (.ref xTwice) = some false)
    (w_NoNumber_TooMany : PySem.W.subIn K (.ref xNoNumber) (.ref xTooMany) = some false)
    (w_NoNumber_Unknown : PySem.W.subIn K (.ref xNoNumber) (.ref xUnknown) = some false)
    (w_NoNumber_TooWide : PySem.W.subIn K (.ref xNoNumber) (.ref xTooWide) = some false)
    (w_NoNumber_There : PySem.W.subIn K (.ref xNoNumber) (.ref xThere) = some false)
    (w_NoNumber_NotThere : PySem.W.subIn K (.ref xNoNumber) (.ref xNotThere) = some false)
    (w_NoNumber_Full : PySem.W.subIn K (.ref xNoNumber) (.ref xFull) = some false)
    (w_NoNumber_BadBook : PySem.W.subIn K (.ref xNoNumber) (.ref xBadBook) = some false)
    (w_NoNumber_BadPaper : PySem.W.subIn K (.ref xNoNumber) (.ref xBadPaper) = some false)
    (w_NoNumber_NoRule : PySem.W.subIn K (.ref xNoNumber) (.ref xNoRule) = some false)
    (w_NoNumber_Unlike : PySem.W.subIn K (.ref xNoNumber) (.ref xUnlike) = some false)
    (w_NoNumber_NoLine : PySem.W.subIn K (.ref xNoNumber) (.ref xNoLine) = some false)
    (wa_Twice : PySem.W.findIn K (.ref xTwice) "__class__" = some (some (.builtin "object.__class__"))) (wb_Twice : PySem.W.mroIn K xTwice (.type "BaseException") = some true) (wo_Twice : PySem.W.mroIn K xTwice (.type "object") = some true) (ws_Twice : PySem.W.subIn K (.ref xTwice) (.ref xTwice) = some true) (wv_Twice : PySem.W.subIn K (.ref xTwice) (.type "ValueError") = some true) (we_Twice : PySem.W.subIn K (.ref xTwice) (.ref xCastError) = some true)
    (w_Twice_NoName : PySem.W.subIn K (.ref xTwice) (.ref xNoName) = some false)
    (w_Twice_NoNumber : PySem.W.subIn K (.ref xTwice) (.ref xNoNumber) = some false)
    (w_Twice_Twice : PySem.W.subIn K (.ref xTwice) (.ref xTwice) = some true)
    (w_Twice_TooMany : PySem.W.subIn K (.ref xTwice) (.ref xTooMany) = some false)
    (w_Twice_Unknown : PySem.W.subIn K (.ref xTwice) (.ref xUnknown) = some false)
    (w_Twice_TooWide : PySem.W.subIn K (.ref xTwice) (.ref xTooWide) = some false)
    (w_Twice_There : PySem.W.subIn K (.ref xTwice) (.ref xThere) = some false)
    (w_Twice_NotThere : PySem.W.subIn K (.ref xTwice) (.ref xNotThere) = some false)
    (w_Twice_Full : PySem.W.subIn K (.ref xTwice) (.ref xFull) = some false)
    (w_Twice_BadBook : PySem.W.subIn K (.ref xTwice) (.ref xBadBook) = some false)
    (w_Twice_BadPaper : PySem.W.subIn K (.ref xTwice) (.ref xBadPaper) = some false)
    (w_Twice_NoRule : PySem.W.subIn K (.ref xTwice) (.ref xNoRule) = some false)
    (w_Twice_Unlike : PySem.W.subIn K (.ref xTwice) (.ref xUnlike) = some false)
    (w_Twice_NoLine : PySem.W.subIn K (.ref xTwice) (.ref xNoLine) = some false)
    (wa_TooMany : PySem.W.findIn K (.ref xTooMany) "__class__" = some (some (.builtin "object.__class__"))) (wb_TooMany : PySem.W.mroIn K xTooMany (.type "BaseException") = some true) (wo_TooMany : PySem.W.mroIn K xTooMany (.type "object") = some true) (ws_TooMany : PySem.W.subIn K (.ref xTooMany) (.ref xTooMany) = some true) (wv_TooMany : PySem.W.subIn K (.ref xTooMany) (.type "ValueError") = some true) (we_TooMany : PySem.W.subIn K (.ref xTooMany) (.ref xCastError) = some true)
    (w_TooMany_NoName : PySem.W.subIn K (.ref xTooMany) (.ref xNoName) = some false)
    (w_TooMany_NoNumber : PySem.W.subIn K (.ref xTooMany) (.ref xNoNumber) = some false)
    (w_TooMany_Twice : PySem.W.subIn K (.ref xTooMany) (.ref xTwice) = some false)
    (w_TooMany_TooMany : PySem.W.subIn K (.ref xTooMany) (.ref xTooMany) = some true)
    (w_TooMany_Unknown : PySem.W.subIn K (.ref xTooMany) (.ref xUnknown) = some false)
    (w_TooMany_TooWide : PySem.W.subIn K (.ref xTooMany) (.ref xTooWide) = some false)
    (w_TooMany_There : PySem.W.subIn K (.ref xTooMany) (.ref xThere) = some false)
    (w_TooMany_NotThere : PySem.W.subIn K (.ref xTooMany) (.ref xNotThere) = some false)
    (w_TooMany_Full : PySem.W.subIn K (.ref xTooMany) (.ref xFull) = some false)
    (w_TooMany_BadBook : PySem.W.subIn K (.ref xTooMany) (.ref xBadBook) = some false)
    (w_TooMany_BadPaper : PySem.W.subIn K (.ref xTooMany) (.ref xBadPaper) = some false)
    (w_TooMany_NoRule : PySem.W.subIn K (.ref xTooMany) (.ref xNoRule) = some false)
    (w_TooMany_Unlike : PySem.W.subIn K (.ref xTooMany) (.ref xUnlike) = some false)
    (w_TooMany_NoLine : PySem.W.subIn K (.ref xTooMany) (.ref xNoLine) = some false)
    (wa_Unknown : PySem.W.findIn K (.ref xUnknown) "__class__" = some (some (.builtin "object.__class__"))) (wb_Unknown : PySem.W.mroIn K xUnknown (.type "BaseException") = some true) (wo_Unknown : PySem.W.mroIn K xUnknown (.type "object") = some true) (ws_Unknown : PySem.W.subIn K (.ref xUnknown) (.ref xUnknown) = some true) (wv_Unknown : PySem.W.subIn K (.ref xUnknown) (.type "ValueError") = some true) (we_Unknown : PySem.W.subIn K (.ref xUnknown) (.ref xCastError) = some true)
    (w_Unknown_NoName : PySem.W.subIn K (.ref xUnknown) (.ref xNoName) = some false)
    (w_Unknown_NoNumber : PySem.W.subIn K (.ref xUnknown) (.ref xNoNumber) = some false)
    (w_Unknown_Twice : PySem.W.subIn K (.ref xUnknown) (.ref xTwice) = some false)
    (w_Unknown_TooMany : PySem.W.subIn K (.ref xUnknown) (.ref xTooMany) = some false)
    (w_Unknown_Unknown : PySem.W.subIn K (.ref xUnknown) (.ref xUnknown) = some true)
    (w_Unknown_TooWide : PySem.W.subIn K (.ref xUnknown) (.ref xTooWide) = some false)
    (w_Unknown_There : PySem.W.subIn K (.ref xUnknown) (.ref xThere) = some false)
    (w_Unknown_NotThere : PySem.W.subIn K (.ref xUnknown) (.ref xNotThere) = some false)
    (w_Unknown_Full : PySem.W.subIn K (.ref xUnknown) (.ref xFull) = some false)
    (w_Unknown_BadBook : PySem.W.subIn K (.ref xUnknown) (.ref xBadBook) = some false)
    (w_Unknown_BadPaper : PySem.W.subIn K (.ref xUnknown) (.ref xBadPaper) = some false)
    (w_Unknown_NoRule : PySem.W.subIn K (.ref xUnknown) (.ref xNoRule) = some false)
    (w_Unknown_Unlike : PySem.W.subIn K (.ref xUnknown) (.ref xUnlike) = some false)
    (w_Unknown_NoLine : PySem.W.subIn K (.ref xUnknown) (.ref xNoLine) = some false)
    (wa_TooWide : PySem.W.findIn K (.ref xTooWide) "__class__" = some (some (.builtin "object.__class__"))) (wb_TooWide : PySem.W.mroIn K xTooWide (.type "BaseException") = some true) (wo_TooWide : PySem.W.mroIn K xTooWide (.type "object") = some true) (ws_TooWide : PySem.W.subIn K (.ref xTooWide) (.ref xTooWide) = some true) (wv_TooWide : PySem.W.subIn K (.ref xTooWide) (.type "ValueError") = some true) (we_TooWide : PySem.W.subIn K (.ref xTooWide) (.ref xCastError) = some true)
    (w_TooWide_NoName : PySem.W.subIn K (.ref xTooWide) (.ref xNoName) = some false)
    (w_TooWide_NoNumber : PySem.W.subIn K (.ref xTooWide) (.ref xNoNumber) = some false)
    (w_TooWide_Twice : PySem.W.subIn K (.ref xTooWide) (.ref xTwice) = some false)
    (w_TooWide_TooMany : PySem.W.subIn K (.ref xTooWide) (.ref xTooMany) = some false)
    (w_TooWide_Unknown : PySem.W.subIn K (.ref xTooWide) (.ref xUnknown) = some false)
    (w_TooWide_TooWide : PySem.W.subIn K (.ref xTooWide) (.ref xTooWide) = some true)
    (w_TooWide_There : PySem.W.subIn K (.ref xTooWide) (.ref xThere) = some false)
    (w_TooWide_NotThere : PySem.W.subIn K (.ref xTooWide) (.ref xNotThere) = some false)
    (w_TooWide_Full : PySem.W.subIn K (.ref xTooWide) (.ref xFull) = some false)
    (w_TooWide_BadBook : PySem.W.subIn K (.ref xTooWide) (.ref xBadBook) = some false)
    (w_TooWide_BadPaper : PySem.W.subIn K (.ref xTooWide) (.ref xBadPaper) = some false)
    (w_TooWide_NoRule : PySem.W.subIn K (.ref xTooWide) (.ref xNoRule) = some false)
    (w_TooWide_Unlike : PySem.W.subIn K (.ref xTooWide) (.ref xUnlike) = some false)
    (w_TooWide_NoLine : PySem.W.subIn K (.ref xTooWide) (.ref xNoLine) = some false)
    (wa_There : PySem.W.findIn K (.ref xThere) "__class__" = some (some (.builtin "object.__class__"))) (wb_There : PySem.W.mroIn K xThere (.type "BaseException") = some true) (wo_There : PySem.W.mroIn K xThere (.type "object") = some true) (ws_There : PySem.W.subIn K (.ref xThere) (.ref xThere) = some true) (wv_There : PySem.W.subIn K (.ref xThere) (.type "ValueError") = some true) (we_There : PySem.W.subIn K (.ref xThere) (.ref xCastError) = some true)
    (w_There_NoName : PySem.W.subIn K (.ref xThere) (.ref xNoName) = some false)
    (w_There_NoNumber : PySem.W.subIn K (.ref xThere) (.ref xNoNumber) = some false)
    (w_There_Twice : PySem.W.subIn K (.ref xThere) (.ref xTwice) = some false)
    (w_There_TooMany : PySem.W.subIn K (.ref xThere) (.ref xTooMany) = some false)
    (w_There_Unknown : PySem.W.subIn K (.ref xThere) (.ref xUnknown) = some false)
    (w_There_TooWide : PySem.W.subIn K (.ref xThere) (.ref xTooWide) = some false)
    (w_There_There : PySem.W.subIn K (.ref xThere) (.ref xThere) = some true)
    (w_There_NotThere : PySem.W.subIn K (.ref xThere) (.ref xNotThere) = some false)
    (w_There_Full : PySem.W.subIn K (.ref xThere) (.ref xFull) = some false)
    (w_There_BadBook : PySem.W.subIn K (.ref xThere) (.ref xBadBook) = some false)
    (w_There_BadPaper : PySem.W.subIn K (.ref xThere) (.ref xBadPaper) = some false)
    (w_There_NoRule : PySem.W.subIn K (.ref xThere) (.ref xNoRule) = some false)
    (w_There_Unlike : PySem.W.subIn K (.ref xThere) (.ref xUnlike) = some false)
    (w_There_NoLine : PySem.W.subIn K (.ref xThere) (.ref xNoLine) = some false)
    (wa_NotThere : PySem.W.findIn K (.ref xNotThere) "__class__" = some (some (.builtin "object.__class__"))) (wb_NotThere : PySem.W.mroIn K xNotThere (.type "BaseException") = some true) (wo_NotThere : PySem.W.mroIn K xNotThere (.type "object") = some true) (ws_NotThere : PySem.W.subIn K (.ref xNotThere) (.ref xNotThere) = some true) (wv_NotThere : PySem.W.subIn K (.ref xNotThere) (.type "ValueError") = some true) (we_NotThere : PySem.W.subIn K (.ref xNotThere) (.ref xCastError) = some true)
    (w_NotThere_NoName : PySem.W.subIn K (.ref xNotThere) (.ref xNoName) = some false)
    (w_NotThere_NoNumber : PySem.W.subIn K (.ref xNotThere) (.ref xNoNumber) = some false)
    (w_NotThere_Twice : PySem.W.subIn K (.ref xNotThere) (.ref xTwice) = some false)
    (w_NotThere_TooMany : PySem.W.subIn K (.ref xNotThere) (.ref xTooMany) = some false)
    (w_NotThere_Unknown : PySem.W.subIn K (.ref xNotThere) (.ref xUnknown) = some false)
    (w_NotThere_TooWide : PySem.W.subIn K (.ref xNotThere) (.ref xTooWide) = some false)
    (w_NotThere_There : PySem.W.subIn K (.ref xNotThere) (.ref xThere) = some false)
    (w_NotThere_NotThere : PySem.W.subIn K (.ref xNotThere) (.ref xNotThere) = some true)
    (w_NotThere_Full : PySem.W.subIn K (.ref xNotThere) (.ref xFull) = some false)
    (w_NotThere_BadBook : PySem.W.subIn K (.ref xNotThere) (.ref xBadBook) = some false)
    (w_NotThere_BadPaper : PySem.W.subIn K (.ref xNotThere) (.ref xBadPaper) = some false)
    (w_NotThere_NoRule : PySem.W.subIn K (.ref xNotThere) (.ref xNoRule) = some false)
    (w_NotThere_Unlike : PySem.W.subIn K (.ref xNotThere) (.ref xUnlike) = some false)
    (w_NotThere_NoLine : PySem.W.subIn K (.ref xNotThere) (.ref xNoLine) = some false)
    (wa_Full : PySem.W.findIn K (.ref xFull) "__class__" = some (some (.builtin "object.__class__"))) (wb_Full : PySem.W.mroIn K xFull (.type "BaseException") = some true) (wo_Full : PySem.W.mroIn K xFull (.type "object") = some true) (ws_Full : PySem.W.subIn K (.ref xFull) (.ref xFull) = some true) (wv_Full : PySem.W.subIn K (.ref xFull) (.type "ValueError") = some true) (we_Full : PySem.W.subIn K (.ref xFull) (.ref xCastError) = some true)
    (w_Full_NoName : PySem.W.subIn K (.ref xFull) (.ref xNoName) = some false)
    (w_Full_NoNumber : PySem.W.subIn K (.ref xFull) (.ref xNoNumber) = some false)
    (w_Full_Twice : PySem.W.subIn K (.ref xFull) (.ref xTwice) = some false)
    (w_Full_TooMany : PySem.W.subIn K (.ref xFull) (.ref xTooMany) = some false)
    (w_Full_Unknown : PySem.W.subIn K (.ref xFull) (.ref xUnknown) = some false)
    (w_Full_TooWide : PySem.W.subIn K (.ref xFull) (.ref xTooWide) = some false)
    (w_Full_There : PySem.W.subIn K (.ref xFull) (.ref xThere) = some false)
    (w_Full_NotThere : PySem.W.subIn K (.ref xFull) (.ref xNotThere) = some false)
    (w_Full_Full : PySem.W.subIn K (.ref xFull) (.ref xFull) = some true)
    (w_Full_BadBook : PySem.W.subIn K (.ref xFull) (.ref xBadBook) = some false)
    (w_Full_BadPaper : PySem.W.subIn K (.ref xFull) (.ref xBadPaper) = some false)
    (w_Full_NoRule : PySem.W.subIn K (.ref xFull) (.ref xNoRule) = some false)
    (w_Full_Unlike : PySem.W.subIn K (.ref xFull) (.ref xUnlike) = some false)
    (w_Full_NoLine : PySem.W.subIn K (.ref xFull) (.ref xNoLine) = some false)
    (wa_BadBook : PySem.W.findIn K (.ref xBadBook) "__class__" = some (some (.builtin "object.__class__"))) (wb_BadBook : PySem.W.mroIn K xBadBook (.type "BaseException") = some true) (wo_BadBook : PySem.W.mroIn K xBadBook (.type "object") = some true) (ws_BadBook : PySem.W.subIn K (.ref xBadBook) (.ref xBadBook) = some true) (wv_BadBook : PySem.W.subIn K (.ref xBadBook) (.type "ValueError") = some true) (we_BadBook : PySem.W.subIn K (.ref xBadBook) (.ref xCastError) = some true)
    (w_BadBook_NoName : PySem.W.subIn K (.ref xBadBook) (.ref xNoName) = some false)
    (w_BadBook_NoNumber : PySem.W.subIn K (.ref xBadBook) (.ref xNoNumber) = some false)
    (w_BadBook_Twice : PySem.W.subIn K (.ref xBadBook) (.ref xTwice) = some false)
    (w_BadBook_TooMany : PySem.W.subIn K (.ref xBadBook) (.ref xTooMany) = some false)
    (w_BadBook_Unknown : PySem.W.subIn K (.ref xBadBook) (.ref xUnknown) = some false)
    (w_BadBook_TooWide : PySem.W.subIn K (.ref xBadBook) (.ref xTooWide) = some false)
    (w_BadBook_There : PySem.W.subIn K (.ref xBadBook) (.ref xThere) = some false)
    (w_BadBook_NotThere : PySem.W.subIn K (.ref xBadBook) (.ref xNotThere) = some false)
    (w_BadBook_Full : PySem.W.subIn K (.ref xBadBook) (.ref xFull) = some false)
    (w_BadBook_BadBook : PySem.W.subIn K (.ref xBadBook) (.ref xBadBook) = some true)
    (w_BadBook_BadPaper : PySem.W.subIn K (.ref xBadBook) (.ref xBadPaper) = some false)
    (w_BadBook_NoRule : PySem.W.subIn K (.ref xBadBook) (.ref xNoRule) = some false)
    (w_BadBook_Unlike : PySem.W.subIn K (.ref xBadBook) (.ref xUnlike) = some false)
    (w_BadBook_NoLine : PySem.W.subIn K (.ref xBadBook) (.ref xNoLine) = some false)
    (wa_BadPaper : PySem.W.findIn K (.ref xBadPaper) "__class__" = some (some (.builtin "object.__class__"))) (wb_BadPaper : PySem.W.mroIn K xBadPaper (.type "BaseException") = some true) (wo_BadPaper : PySem.W.mroIn K xBadPaper (.type "object") = some true) (ws_BadPaper : PySem.W.subIn K (.ref xBadPaper) (.ref xBadPaper) = some true) (wv_BadPaper : PySem.W.subIn K (.ref xBadPaper) (.type "ValueError") = some true) (we_BadPaper : PySem.W.subIn K (.ref xBadPaper) (.ref xCastError) = some true)
    (w_BadPaper_NoName : PySem.W.subIn K (.ref xBadPaper) (.ref xNoName) = some false)
    (w_BadPaper_NoNumber : PySem.W.subIn K (.ref xBadPaper) (.ref xNoNumber) = some false)
    (w_BadPaper_Twice : PySem.W.subIn K (.ref xBadPaper) (.ref xTwice) = some false)
    (w_BadPaper_TooMany : PySem.W.subIn K (.ref xBadPaper) (.ref xTooMany) = some false)
    (w_BadPaper_Unknown : PySem.W.subIn K (.ref xBadPaper) (.ref xUnknown) = some false)
    (w_BadPaper_TooWide : PySem.W.subIn K (.ref xBadPaper) (.ref xTooWide) = some false)
    (w_BadPaper_There : PySem.W.subIn K (.ref xBadPaper) (.ref xThere) = some false)
    (w_BadPaper_NotThere : PySem.W.subIn K (.ref xBadPaper) (.ref xNotThere) = some false)
    (w_BadPaper_Full : PySem.W.subIn K (.ref xBadPaper) (.ref xFull) = some false)
    (w_BadPaper_BadBook : PySem.W.subIn K (.ref xBadPaper) (.ref xBadBook) = some false)
    (w_BadPaper_BadPaper : PySem.W.subIn K (.ref xBadPaper) (.ref xBadPaper) = some true)
    (w_BadPaper_NoRule : PySem.W.subIn K (.ref xBadPaper) (.ref xNoRule) = some false)
    (w_BadPaper_Unlike : PySem.W.subIn K (.ref xBadPaper) (.ref xUnlike) = some false)
    (w_BadPaper_NoLine : PySem.W.subIn K (.ref xBadPaper) (.ref xNoLine) = some false)
    (wa_NoRule : PySem.W.findIn K (.ref xNoRule) "__class__" = some (some (.builtin "object.__class__"))) (wb_NoRule : PySem.W.mroIn K xNoRule (.type "BaseException") = some true) (wo_NoRule : PySem.W.mroIn K xNoRule (.type "object") = some true) (ws_NoRule : PySem.W.subIn K (.ref xNoRule) (.ref xNoRule) = some true) (wv_NoRule : PySem.W.subIn K (.ref xNoRule) (.type "ValueError") = some true) (we_NoRule : PySem.W.subIn K (.ref xNoRule) (.ref xCastError) = some true)
    (w_NoRule_NoName : PySem.W.subIn K (.ref xNoRule) (.ref xNoName) = some false)
    (w_NoRule_NoNumber : PySem.W.subIn K (.ref xNoRule) (.ref xNoNumber) = some false)
    (w_NoRule_Twice : PySem.W.subIn K (.ref xNoRule) (.ref xTwice) = some false)
    (w_NoRule_TooMany : PySem.W.subIn K (.ref xNoRule) (.ref xTooMany) = some false)
    (w_NoRule_Unknown : PySem.W.subIn K (.ref xNoRule) (.ref xUnknown) = some false)
    (w_NoRule_TooWide : PySem.W.subIn K (.ref xNoRule) (.ref xTooWide) = some false)
    (w_NoRule_There : PySem.W.subIn K (.ref xNoRule) (.ref xThere) = some false)
    (w_NoRule_NotThere : PySem.W.subIn K (.ref xNoRule) (.ref xNotThere) = some false)
    (w_NoRule_Full : PySem.W.subIn K (.ref xNoRule) (.ref xFull) = some false)
    (w_NoRule_BadBook : PySem.W.subIn K (.ref xNoRule) (.ref xBadBook) = some false)
    (w_NoRule_BadPaper : PySem.W.subIn K (.ref xNoRule) (.ref xBadPaper) = some false)
    (w_NoRule_NoRule : PySem.W.subIn K (.ref xNoRule) (.ref xNoRule) = some true)
    (w_NoRule_Unlike : PySem.W.subIn K (.ref xNoRule) (.ref xUnlike) = some false)
    (w_NoRule_NoLine : PySem.W.subIn K (.ref xNoRule) (.ref xNoLine) = some false)
    (wa_Unlike : PySem.W.findIn K (.ref xUnlike) "__class__" = some (some (.builtin "object.__class__"))) (wb_Unlike : PySem.W.mroIn K xUnlike (.type "BaseException") = some true) (wo_Unlike : PySem.W.mroIn K xUnlike (.type "object") = some true) (ws_Unlike : PySem.W.subIn K (.ref xUnlike) (.ref xUnlike) = some true) (wv_Unlike : PySem.W.subIn K (.ref xUnlike) (.type "ValueError") = some true) (we_Unlike : PySem.W.subIn K (.ref xUnlike) (.ref xCastError) = some true)
    (w_Unlike_NoName : PySem.W.subIn K (.ref xUnlike) (.ref xNoName) = some false)
    (w_Unlike_NoNumber : PySem.W.subIn K (.ref xUnlike) (.ref xNoNumber) = some false)
    (w_Unlike_Twice : PySem.W.subIn K (.ref xUnlike) (.ref xTwice) = some false)
    (w_Unlike_TooMany : PySem.W.subIn K (.ref xUnlike) (.ref xTooMany) = some false)
    (w_Unlike_Unknown : PySem.W.subIn K (.ref xUnlike) (.ref xUnknown) = some false)
    (w_Unlike_TooWide : PySem.W.subIn K (.ref xUnlike) (.ref xTooWide) = some false)
    (w_Unlike_There : PySem.W.subIn K (.ref xUnlike) (.ref xThere) = some false)
    (w_Unlike_NotThere : PySem.W.subIn K (.ref xUnlike) (.ref xNotThere) = some false)
    (w_Unlike_Full : PySem.W.subIn K (.ref xUnlike) (.ref xFull) = some false)
    (w_Unlike_BadBook : PySem.W.subIn K (.ref xUnlike) (.ref xBadBook) = some false)
    (w_Unlike_BadPaper : PySem.W.subIn K (.ref xUnlike) (.ref xBadPaper) = some false)
    (w_Unlike_NoRule : PySem.W.subIn K (.ref xUnlike) (.ref xNoRule) = some false)
    (w_Unlike_Unlike : PySem.W.subIn K (.ref xUnlike) (.ref xUnlike) = some true)
    (w_Unlike_NoLine : PySem.W.subIn K (.ref xUnlike) (.ref xNoLine) = some false)
    (wa_NoLine : PySem.W.findIn K (.ref xNoLine) "__class__" = some (some (.builtin "object.__class__"))) (wb_NoLine : PySem.W.mroIn K xNoLine (.type "BaseException") = some true) (wo_NoLine : PySem.W.mroIn K xNoLine (.type "object") = some true) (ws_NoLine : PySem.W.subIn K (.ref xNoLine) (.ref xNoLine) = some true) (wv_NoLine : PySem.W.subIn K (.ref xNoLine) (.type "ValueError") = some true) (we_NoLine : PySem.W.subIn K (.ref xNoLine) (.ref xCastError) = some true)
    (w_NoLine_NoName : PySem.W.subIn K (.ref xNoLine) (.ref xNoName) = some false)
    (w_NoLine_NoNumber : PySem.W.subIn K (.ref xNoLine) (.ref xNoNumber) = some false)
    (w_NoLine_Twice : PySem.W.subIn K (.ref xNoLine) (.ref xTwice) = some false)
    (w_NoLine_TooMany : PySem.W.subIn K (.ref xNoLine) (.ref xTooMany) = some false)
    (w_NoLine_Unknown : PySem.W.subIn K (.ref xNoLine) (.ref xUnknown) = some false)
    (w_NoLine_TooWide : PySem.W.subIn K (.ref xNoLine) (.ref xTooWide) = some false)
    (w_NoLine_There : PySem.W.subIn K (.ref xNoLine) (.ref xThere) = some false)
    (w_NoLine_NotThere : PySem.W.subIn K (.ref xNoLine) (.ref xNotThere) = some false)
    (w_NoLine_Full : PySem.W.subIn K (.ref xNoLine) (.ref xFull) = some false)
    (w_NoLine_BadBook : PySem.W.subIn K (.ref xNoLine) (.ref xBadBook) = some false)
    (w_NoLine_BadPaper : PySem.W.subIn K (.ref xNoLine) (.ref xBadPaper) = some false)
    (w_NoLine_NoRule : PySem.W.subIn K (.ref xNoLine) (.ref xNoRule) = some false)
    (w_NoLine_Unlike : PySem.W.subIn K (.ref xNoLine) (.ref xUnlike) = some false)
    (w_NoLine_NoLine : PySem.W.subIn K (.ref xNoLine) (.ref xNoLine) = some true)
    (wa_CastError : PySem.W.findIn K (.ref xCastError) "__class__" = some (some (.builtin "object.__class__"))) (wb_CastError : PySem.W.mroIn K xCastError (.type "BaseException") = some true) (wo_CastError : PySem.W.mroIn K xCastError (.type "object") = some true) (ws_CastError : PySem.W.subIn K (.ref xCastError) (.ref xCastError) = some true) (wv_CastError : PySem.W.subIn K (.ref xCastError) (.type "ValueError") = some true) (we_CastError : PySem.W.subIn K (.ref xCastError) (.ref xCastError) = some true)
    (w_CastError_NoName : PySem.W.subIn K (.ref xCastError) (.ref xNoName) = some false)
    (w_CastError_NoNumber : PySem.W.subIn K (.ref xCastError) (.ref xNoNumber) = some false)
    (w_CastError_Twice : PySem.W.subIn K (.ref xCastError) (.ref xTwice) = some false)
    (w_CastError_TooMany : PySem.W.subIn K (.ref xCastError) (.ref xTooMany) = some false)
    (w_CastError_Unknown : PySem.W.subIn K (.ref xCastError) (.ref xUnknown) = some false)
    (w_CastError_TooWide : PySem.W.subIn K (.ref xCastError) (.ref xTooWide) = some false)
    (w_CastError_There : PySem.W.subIn K (.ref xCastError) (.ref xThere) = some false)
    (w_CastError_NotThere : PySem.W.subIn K (.ref xCastError) (.ref xNotThere) = some false)
    (w_CastError_Full : PySem.W.subIn K (.ref xCastError) (.ref xFull) = some false)
    (w_CastError_BadBook : PySem.W.subIn K (.ref xCastError) (.ref xBadBook) = some false)
    (w_CastError_BadPaper : PySem.W.subIn K (.ref xCastError) (.ref xBadPaper) = some false)
    (w_CastError_NoRule : PySem.W.subIn K (.ref xCastError) (.ref xNoRule) = some false)
    (w_CastError_Unlike : PySem.W.subIn K (.ref xCastError) (.ref xUnlike) = some false)
    (w_CastError_NoLine : PySem.W.subIn K (.ref xCastError) (.ref xNoLine) = some false)
    : ∃ fd : FuncData, (∀ (s : Shared) (v : Value), BindsTo s fd ⟨[v], []⟩ [("_law_script", v)]) ∧ ∀ base : Heap, K.In base → base.Ns mainGlobals mg → FnOk l.prog w K mg base (CXF l.prog w) 4 fa fd ["_law_script"] (sp_law K) := by
  have e := hfa.symm.trans (PySem.W.mg_of X G a22)
  cases e
  have T : Txt K mg xCastError xNoName xNoNumber xTwice xTooMany xUnknown xTooWide xThere xNotThere xFull xBadBook xBadPaper xNoRule xUnlike xNoLine := ⟨PySem.W.mg_of X G a_CastError, excC_of0 lC_CastError lN_CastError sN_CastError iN_CastError, kc_CastError, PySem.W.mg_of X G a_NoName, excC_of lC_NoName lN_NoName sN_NoName iN_NoName lA lNA sNA iNA, kc_NoName, PySem.W.mg_of X G a_NoNumber, excC_of lC_NoNumber lN_NoNumber sN_NoNumber iN_NoNumber lA lNA sNA iNA, kc_NoNumber, PySem.W.mg_of X G a_Twice, excC_of lC_Twice lN_Twice sN_Twice iN_Twice lA lNA sNA iNA, kc_Twice, PySem.W.mg_of X G a_TooMany, excC_of lC_TooMany lN_TooMany sN_TooMany iN_TooMany lA lNA sNA iNA, kc_TooMany, PySem.W.mg_of X G a_Unknown, PySem.W.mg_of X G a_TooWide, PySem.W.mg_of X G a_There, excC_of lC_There lN_There sN_There iN_There lA lNA sNA iNA, kc_There, PySem.W.mg_of X G a_NotThere, excC_of lC_NotThere lN_NotThere sN_NotThere iN_NotThere lA lNA sNA iNA, kc_NotThere, PySem.W.mg_of X G a_Full, excC_of lC_Full lN_Full sN_Full iN_Full lA lNA sNA iNA, kc_Full, PySem.W.mg_of X G a_BadBook, PySem.W.mg_of X G a_BadPaper, excC_of lC_BadPaper lN_BadPaper sN_BadPaper iN_BadPaper lA lNA sNA iNA, kc_BadPaper, PySem.W.mg_of X G a_NoRule, excC_of lC_NoRule lN_NoRule sN_NoRule iN_NoRule lA lNA sNA iNA, kc_NoRule, PySem.W.mg_of X G a_Unlike, excC_of lC_Unlike lN_Unlike sN_Unlike iN_Unlike lA lNA sNA iNA, kc_Unlike, PySem.W.mg_of X G a_NoLine, excC_of lC_NoLine lN_NoLine sN_NoLine iN_NoLine lA lNA sNA iNA, kc_NoLine, excQ_of lC_Unknown qa_Unknown qh_Unknown qs_Unknown, n_Unknown_name, n_Unknown_place, excQ_of lC_TooWide qa_TooWide qh_TooWide qs_TooWide, n_TooWide_name, n_TooWide_place, excQ_of lC_BadBook qa_BadBook qh_BadBook qs_BadBook, n_BadBook_place, ⟨ga_NoName, gh_NoName⟩, ⟨ga_NoNumber, gh_NoNumber⟩, ⟨ga_Twice, gh_Twice⟩, ⟨ga_TooMany, gh_TooMany⟩, ⟨ga_Unknown, gh_Unknown⟩, ⟨ga_TooWide, gh_TooWide⟩, ⟨ga_There, gh_There⟩, ⟨ga_NotThere, gh_NotThere⟩, ⟨ga_Full, gh_Full⟩, ⟨ga_BadBook, gh_BadBook⟩, ⟨ga_BadPaper, gh_BadPaper⟩, ⟨ga_NoRule, gh_NoRule⟩, ⟨ga_Unlike, gh_Unlike⟩, ⟨ga_NoLine, gh_NoLine⟩, ⟨ga_CastError, gh_CastError⟩, ⟨⟨ga_NoName, gh_NoName, wa_NoName, gs_, tk_, wb_NoName, wo_NoName, ⟨_, wc_NoName⟩⟩, kit_ref ws_NoName wc_CastError wt_CastError we_NoName, kit_VE wv_NoName, kit_ref ws_NoName wc_NoName wt_NoName w_NoName_NoName, kit_ref ws_NoName wc_NoNumber wt_NoNumber w_NoName_NoNumber, kit_ref ws_NoName wc_Twice wt_Twice w_NoName_Twice, kit_ref ws_NoName wc_TooMany wt_TooMany w_NoName_TooMany, kit_ref ws_NoName wc_Unknown wt_Unknown w_NoName_Unknown, kit_ref ws_NoName wc_TooWide wt_TooWide w_NoName_TooWide, kit_ref ws_NoName wc_There wt_There w_NoName_There, kit_ref ws_NoName wc_NotThere wt_NotThere w_NoName_NotThere, kit_ref ws_NoName wc_Full wt_Full w_NoName_Full, kit_ref ws_NoName wc_BadBook wt_BadBook w_NoName_BadBook, kit_ref ws_NoName wc_BadPaper wt_BadPaper w_NoName_BadPaper, kit_ref ws_NoName wc_NoRule wt_NoRule w_NoName_NoRule, kit_ref ws_NoName wc_Unlike wt_Unlike w_NoName_Unlike, kit_ref ws_NoName wc_NoLine wt_NoLine w_NoName_NoLine, trivial⟩, ⟨⟨ga_NoNumber, gh_NoNumber, wa_NoNumber, gs_, tk_, wb_NoNumber, wo_NoNumber, ⟨_, wc_NoNumber⟩⟩, kit_ref ws_NoNumber wc_CastError wt_CastError we_NoNumber, kit_VE wv_NoNumber, kit_ref ws_NoNumber wc_NoName wt_NoName w_NoNumber_NoName, kit_ref ws_NoNumber wc_NoNumber wt_NoNumber w_NoNumber_NoNumber, kit_ref ws_NoNumber wc_Twice wt_Twice w_NoNumber_Twice, kit_ref ws_NoNumber wc_TooMany wt_TooMany w_NoNumber_TooMany, kit_ref ws_NoNumber wc_Unknown wt_Unknown w_NoNumber_Unknown, kit_ref ws_NoNumber wc_TooWide wt_TooWide w_NoNumber_TooWide, kit_ref ws_NoNumber wc_There wt_There w_NoNumber_There, kit_ref ws_NoNumber wc_NotThere wt_NotThere w_NoNumber_NotThere, kit_ref ws_NoNumber wc_Full wt_Full w_NoNumber_Full, kit_ref ws_NoNumber wc_BadBook wt_BadBook w_NoNumber_BadBook, kit_ref ws_NoNumber wc_BadPaper wt_BadPaper w_NoNumber_BadPaper, kit_ref ws_NoNumber wc_NoRule wt_NoRule w_NoNumber_NoRule, kit_ref ws_NoNumber wc_Unlike wt_Unlike w_NoNumber_Unlike, kit_ref ws_NoNumber wc_NoLine wt_NoLine w_NoNumber_NoLine, trivial⟩, ⟨⟨ga_Twice, gh_Twice, wa_Twice, gs_, tk_, wb_Twice, wo_Twice, ⟨_, wc_Twice⟩⟩, kit_ref ws_Twice wc_CastError wt_CastError we_Twice, kit_VE wv_Twice, kit_ref ws_Twice wc_NoName wt_NoName w_Twice_NoName, kit_ref ws_Twice wc_NoNumber wt_NoNumber w_Twice_NoNumber, kit_ref ws_Twice wc_Twice wt_Twice w_Twice_Twice, kit_ref ws_Twice wc_TooMany wt_TooMany w_Twice_TooMany, kit_ref ws_Twice wc_Unknown wt_Unknown w_Twice_Unknown, kit_ref ws_Twice wc_TooWide wt_TooWide w_Twice_TooWide, kit_ref ws_Twice wc_There wt_There w_Twice_There, kit_ref ws_Twice wc_NotThere wt_NotThere w_Twice_NotThere, kit_ref ws_Twice wc_Full wt_Full w_Twice_Full, kit_ref ws_Twice wc_BadBook wt_BadBook w_Twice_BadBook, kit_ref ws_Twice wc_BadPaper wt_BadPaper w_Twice_BadPaper, kit_ref ws_Twice wc_NoRule wt_NoRule w_Twice_NoRule, kit_ref ws_Twice wc_Unlike wt_Unlike w_Twice_Unlike, kit_ref ws_Twice wc_NoLine wt_NoLine w_Twice_NoLine, trivial⟩, ⟨⟨ga_TooMany, gh_TooMany, wa_TooMany, gs_, tk_, wb_TooMany, wo_TooMany, ⟨_, wc_TooMany⟩⟩, kit_ref ws_TooMany wc_CastError wt_CastError we_TooMany, kit_VE wv_TooMany, kit_ref ws_TooMany wc_NoName wt_NoName w_TooMany_NoName, kit_ref ws_TooMany wc_NoNumber wt_NoNumber w_TooMany_NoNumber, kit_ref ws_TooMany wc_Twice wt_Twice w_TooMany_Twice, kit_ref ws_TooMany wc_TooMany wt_TooMany w_TooMany_TooMany, kit_ref ws_TooMany wc_Unknown wt_Unknown w_TooMany_Unknown, kit_ref ws_TooMany wc_TooWide wt_TooWide w_TooMany_TooWide, kit_ref ws_TooMany wc_There wt_There w_TooMany_There, kit_ref ws_TooMany wc_NotThere wt_NotThere w_TooMany_NotThere, kit_ref ws_TooMany wc_Full wt_Full w_TooMany_Full, kit_ref ws_TooMany wc_BadBook wt_BadBook w_TooMany_BadBook, kit_ref ws_TooMany wc_BadPaper wt_BadPaper w_TooMany_BadPaper, kit_ref ws_TooMany wc_NoRule wt_NoRule w_TooMany_NoRule, kit_ref ws_TooMany wc_Unlike wt_Unlike w_TooMany_Unlike, kit_ref ws_TooMany wc_NoLine wt_NoLine w_TooMany_NoLine, trivial⟩, ⟨⟨ga_Unknown, gh_Unknown, wa_Unknown, gs_, tk_, wb_Unknown, wo_Unknown, ⟨_, wc_Unknown⟩⟩, kit_ref ws_Unknown wc_CastError wt_CastError we_Unknown, kit_VE wv_Unknown, kit_ref ws_Unknown wc_NoName wt_NoName w_Unknown_NoName, kit_ref ws_Unknown wc_NoNumber wt_NoNumber w_Unknown_NoNumber, kit_ref ws_Unknown wc_Twice wt_Twice w_Unknown_Twice, kit_ref ws_Unknown wc_TooMany wt_TooMany w_Unknown_TooMany, kit_ref ws_Unknown wc_Unknown wt_Unknown w_Unknown_Unknown, kit_ref ws_Unknown wc_TooWide wt_TooWide w_Unknown_TooWide, kit_ref ws_Unknown wc_There wt_There w_Unknown_There, kit_ref ws_Unknown wc_NotThere wt_NotThere w_Unknown_NotThere, kit_ref ws_Unknown wc_Full wt_Full w_Unknown_Full, kit_ref ws_Unknown wc_BadBook wt_BadBook w_Unknown_BadBook, kit_ref ws_Unknown wc_BadPaper wt_BadPaper w_Unknown_BadPaper, kit_ref ws_Unknown wc_NoRule wt_NoRule w_Unknown_NoRule, kit_ref ws_Unknown wc_Unlike wt_Unlike w_Unknown_Unlike, kit_ref ws_Unknown wc_NoLine wt_NoLine w_Unknown_NoLine, trivial⟩, ⟨⟨ga_TooWide, gh_TooWide, wa_TooWide, gs_, tk_, wb_TooWide, wo_TooWide, ⟨_, wc_TooWide⟩⟩, kit_ref ws_TooWide wc_CastError wt_CastError we_TooWide, kit_VE wv_TooWide, kit_ref ws_TooWide wc_NoName wt_NoName w_TooWide_NoName, kit_ref ws_TooWide wc_NoNumber wt_NoNumber w_TooWide_NoNumber, kit_ref ws_TooWide wc_Twice wt_Twice w_TooWide_Twice, kit_ref ws_TooWide wc_TooMany wt_TooMany w_TooWide_TooMany, kit_ref ws_TooWide wc_Unknown wt_Unknown w_TooWide_Unknown, kit_ref ws_TooWide wc_TooWide wt_TooWide w_TooWide_TooWide, kit_ref ws_TooWide wc_There wt_There w_TooWide_There, kit_ref ws_TooWide wc_NotThere wt_NotThere w_TooWide_NotThere, kit_ref ws_TooWide wc_Full wt_Full w_TooWide_Full, kit_ref ws_TooWide wc_BadBook wt_BadBook w_TooWide_BadBook, kit_ref ws_TooWide wc_BadPaper wt_BadPaper w_TooWide_BadPaper, kit_ref ws_TooWide wc_NoRule wt_NoRule w_TooWide_NoRule, kit_ref ws_TooWide wc_Unlike wt_Unlike w_TooWide_Unlike, kit_ref ws_TooWide wc_NoLine wt_NoLine w_TooWide_NoLine, trivial⟩, ⟨⟨ga_There, gh_There, wa_There, gs_, tk_, wb_There, wo_There, ⟨_, wc_There⟩⟩, kit_ref ws_There wc_CastError wt_CastError we_There, kit_VE wv_There, kit_ref ws_There wc_NoName wt_NoName w_There_NoName, kit_ref ws_There wc_NoNumber wt_NoNumber w_There_NoNumber, kit_ref ws_There wc_Twice wt_Twice w_There_Twice, kit_ref ws_There wc_TooMany wt_TooMany w_There_TooMany, kit_ref ws_There wc_Unknown wt_Unknown w_There_Unknown, kit_ref ws_There wc_TooWide wt_TooWide w_There_TooWide, kit_ref ws_There wc_There wt_There w_There_There, kit_ref ws_There wc_NotThere wt_NotThere w_There_NotThere, kit_ref ws_There wc_Full wt_Full w_There_Full, kit_ref ws_There wc_BadBook wt_BadBook w_There_BadBook, kit_ref ws_There wc_BadPaper wt_BadPaper w_There_BadPaper, kit_ref ws_There wc_NoRule wt_NoRule w_There_NoRule, kit_ref ws_There wc_Unlike wt_Unlike w_There_Unlike, kit_ref ws_There wc_NoLine wt_NoLine w_There_NoLine, trivial⟩, ⟨⟨ga_NotThere, gh_NotThere, wa_NotThere, gs_, tk_, wb_NotThere, wo_NotThere, ⟨_, wc_NotThere⟩⟩, kit_ref ws_NotThere wc_CastError wt_CastError we_NotThere, kit_VE wv_NotThere, kit_ref ws_NotThere wc_NoName wt_NoName w_NotThere_NoName, kit_ref ws_NotThere wc_NoNumber wt_NoNumber w_NotThere_NoNumber, kit_ref ws_NotThere wc_Twice wt_Twice w_NotThere_Twice, kit_ref ws_NotThere wc_TooMany wt_TooMany w_NotThere_TooMany, kit_ref ws_NotThere wc_Unknown wt_Unknown w_NotThere_Unknown, kit_ref ws_NotThere wc_TooWide wt_TooWide w_NotThere_TooWide, kit_ref ws_NotThere wc_There wt_There w_NotThere_There, kit_ref ws_NotThere wc_NotThere wt_NotThere w_NotThere_NotThere, kit_ref ws_NotThere wc_Full wt_Full w_NotThere_Full, kit_ref ws_NotThere wc_BadBook wt_BadBook w_NotThere_BadBook, kit_ref ws_NotThere wc_BadPaper wt_BadPaper w_NotThere_BadPaper, kit_ref ws_NotThere wc_NoRule wt_NoRule w_NotThere_NoRule, kit_ref ws_NotThere wc_Unlike wt_Unlike w_NotThere_Unlike, kit_ref ws_NotThere wc_NoLine wt_NoLine w_NotThere_NoLine, trivial⟩, ⟨⟨ga_Full, gh_Full, wa_Full, gs_, tk_, wb_Full, wo_Full, ⟨_, wc_Full⟩⟩, kit_ref ws_Full wc_CastError wt_CastError we_Full, kit_VE wv_Full, kit_ref ws_Full wc_NoName wt_NoName w_Full_NoName, kit_ref ws_Full wc_NoNumber wt_NoNumber w_Full_NoNumber, kit_ref ws_Full wc_Twice wt_Twice w_Full_Twice, kit_ref ws_Full wc_TooMany wt_TooMany w_Full_TooMany, kit_ref ws_Full wc_Unknown wt_Unknown w_Full_Unknown, kit_ref ws_Full wc_TooWide wt_TooWide w_Full_TooWide, kit_ref ws_Full wc_There wt_There w_Full_There, kit_ref ws_Full wc_NotThere wt_NotThere w_Full_NotThere, kit_ref ws_Full wc_Full wt_Full w_Full_Full, kit_ref ws_Full wc_BadBook wt_BadBook w_Full_BadBook, kit_ref ws_Full wc_BadPaper wt_BadPaper w_Full_BadPaper, kit_ref ws_Full wc_NoRule wt_NoRule w_Full_NoRule, kit_ref ws_Full wc_Unlike wt_Unlike w_Full_Unlike, kit_ref ws_Full wc_NoLine wt_NoLine w_Full_NoLine, trivial⟩, ⟨⟨ga_BadBook, gh_BadBook, wa_BadBook, gs_, tk_, wb_BadBook, wo_BadBook, ⟨_, wc_BadBook⟩⟩, kit_ref ws_BadBook wc_CastError wt_CastError we_BadBook, kit_VE wv_BadBook, kit_ref ws_BadBook wc_NoName wt_NoName w_BadBook_NoName, kit_ref ws_BadBook wc_NoNumber wt_NoNumber w_BadBook_NoNumber, kit_ref ws_BadBook wc_Twice wt_Twice w_BadBook_Twice, kit_ref ws_BadBook wc_TooMany wt_TooMany w_BadBook_TooMany, kit_ref ws_BadBook wc_Unknown wt_Unknown w_BadBook_Unknown, kit_ref ws_BadBook wc_TooWide wt_TooWide w_BadBook_TooWide, kit_ref ws_BadBook wc_There wt_There w_BadBook_There, kit_ref ws_BadBook wc_NotThere wt_NotThere w_BadBook_NotThere, kit_ref ws_BadBook wc_Full wt_Full w_BadBook_Full, kit_ref ws_BadBook wc_BadBook wt_BadBook w_BadBook_BadBook, kit_ref ws_BadBook wc_BadPaper wt_BadPaper w_BadBook_BadPaper, kit_ref ws_BadBook wc_NoRule wt_NoRule w_BadBook_NoRule, kit_ref ws_BadBook wc_Unlike wt_Unlike w_BadBook_Unlike, kit_ref ws_BadBook wc_NoLine wt_NoLine w_BadBook_NoLine, trivial⟩, ⟨⟨ga_BadPaper, gh_BadPaper, wa_BadPaper, gs_, tk_, wb_BadPaper, wo_BadPaper, ⟨_, wc_BadPaper⟩⟩, kit_ref ws_BadPaper wc_CastError wt_CastError we_BadPaper, kit_VE wv_BadPaper, kit_ref ws_BadPaper wc_NoName wt_NoName w_BadPaper_NoName, kit_ref ws_BadPaper wc_NoNumber wt_NoNumber w_BadPaper_NoNumber, kit_ref ws_BadPaper wc_Twice wt_Twice w_BadPaper_Twice, kit_ref ws_BadPaper wc_TooMany wt_TooMany w_BadPaper_TooMany, kit_ref ws_BadPaper wc_Unknown wt_Unknown w_BadPaper_Unknown, kit_ref ws_BadPaper wc_TooWide wt_TooWide w_BadPaper_TooWide, kit_ref ws_BadPaper wc_There wt_There w_BadPaper_There, kit_ref ws_BadPaper wc_NotThere wt_NotThere w_BadPaper_NotThere, kit_ref ws_BadPaper wc_Full wt_Full w_BadPaper_Full, kit_ref ws_BadPaper wc_BadBook wt_BadBook w_BadPaper_BadBook, kit_ref ws_BadPaper wc_BadPaper wt_BadPaper w_BadPaper_BadPaper, kit_ref ws_BadPaper wc_NoRule wt_NoRule w_BadPaper_NoRule, kit_ref ws_BadPaper wc_Unlike wt_Unlike w_BadPaper_Unlike, kit_ref ws_BadPaper wc_NoLine wt_NoLine w_BadPaper_NoLine, trivial⟩, ⟨⟨ga_NoRule, gh_NoRule, wa_NoRule, gs_, tk_, wb_NoRule, wo_NoRule, ⟨_, wc_NoRule⟩⟩, kit_ref ws_NoRule wc_CastError wt_CastError we_NoRule, kit_VE wv_NoRule, kit_ref ws_NoRule wc_NoName wt_NoName w_NoRule_NoName, kit_ref ws_NoRule wc_NoNumber wt_NoNumber w_NoRule_NoNumber, kit_ref ws_NoRule wc_Twice wt_Twice w_NoRule_Twice, kit_ref ws_NoRule wc_TooMany wt_TooMany w_NoRule_TooMany, kit_ref ws_NoRule wc_Unknown wt_Unknown w_NoRule_Unknown, kit_ref ws_NoRule wc_TooWide wt_TooWide w_NoRule_TooWide, kit_ref ws_NoRule wc_There wt_There w_NoRule_There, kit_ref ws_NoRule wc_NotThere wt_NotThere w_NoRule_NotThere, kit_ref ws_NoRule wc_Full wt_Full w_NoRule_Full, kit_ref ws_NoRule wc_BadBook wt_BadBook w_NoRule_BadBook, kit_ref ws_NoRule wc_BadPaper wt_BadPaper w_NoRule_BadPaper, kit_ref ws_NoRule wc_NoRule wt_NoRule w_NoRule_NoRule, kit_ref ws_NoRule wc_Unlike wt_Unlike w_NoRule_Unlike, kit_ref ws_NoRule wc_NoLine wt_NoLine w_NoRule_NoLine, trivial⟩, ⟨⟨ga_Unlike, gh_Unlike, wa_Unlike, gs_, tk_, wb_Unlike, wo_Unlike, ⟨_, wc_Unlike⟩⟩, kit_ref ws_Unlike wc_CastError wt_CastError we_Unlike, kit_VE wv_Unlike, kit_ref ws_Unlike wc_NoName wt_NoName w_Unlike_NoName, kit_ref ws_Unlike wc_NoNumber wt_NoNumber w_Unlike_NoNumber, kit_ref ws_Unlike wc_Twice wt_Twice w_Unlike_Twice, kit_ref ws_Unlike wc_TooMany wt_TooMany w_Unlike_TooMany, kit_ref ws_Unlike wc_Unknown wt_Unknown w_Unlike_Unknown, kit_ref ws_Unlike wc_TooWide wt_TooWide w_Unlike_TooWide, kit_ref ws_Unlike wc_There wt_There w_Unlike_There, kit_ref ws_Unlike wc_NotThere wt_NotThere w_Unlike_NotThere, kit_ref ws_Unlike wc_Full wt_Full w_Unlike_Full, kit_ref ws_Unlike wc_BadBook wt_BadBook w_Unlike_BadBook, kit_ref ws_Unlike wc_BadPaper wt_BadPaper w_Unlike_BadPaper, kit_ref ws_Unlike wc_NoRule wt_NoRule w_Unlike_NoRule, kit_ref ws_Unlike wc_Unlike wt_Unlike w_Unlike_Unlike, kit_ref ws_Unlike wc_NoLine wt_NoLine w_Unlike_NoLine, trivial⟩, ⟨⟨ga_NoLine, gh_NoLine, wa_NoLine, gs_, tk_, wb_NoLine, wo_NoLine, ⟨_, wc_NoLine⟩⟩, kit_ref ws_NoLine wc_CastError wt_CastError we_NoLine, kit_VE wv_NoLine, kit_ref ws_NoLine wc_NoName wt_NoName w_NoLine_NoName, kit_ref ws_NoLine wc_NoNumber wt_NoNumber w_NoLine_NoNumber, kit_ref ws_NoLine wc_Twice wt_Twice w_NoLine_Twice, kit_ref ws_NoLine wc_TooMany wt_TooMany w_NoLine_TooMany, kit_ref ws_NoLine wc_Unknown wt_Unknown w_NoLine_Unknown, kit_ref ws_NoLine wc_TooWide wt_TooWide w_NoLine_TooWide, kit_ref ws_NoLine wc_There wt_There w_NoLine_There, kit_ref ws_NoLine wc_NotThere wt_NotThere w_NoLine_NotThere, kit_ref ws_NoLine wc_Full wt_Full w_NoLine_Full, kit_ref ws_NoLine wc_BadBook wt_BadBook w_NoLine_BadBook, kit_ref ws_NoLine wc_BadPaper wt_BadPaper w_NoLine_BadPaper, kit_ref ws_NoLine wc_NoRule wt_NoRule w_NoLine_NoRule, kit_ref ws_NoLine wc_Unlike wt_Unlike w_NoLine_Unlike, kit_ref ws_NoLine wc_NoLine wt_NoLine w_NoLine_NoLine, trivial⟩, ⟨⟨ga_CastError, gh_CastError, wa_CastError, gs_, tk_, wb_CastError, wo_CastError, ⟨_, wc_CastError⟩⟩, kit_ref ws_CastError wc_CastError wt_CastError we_CastError, kit_VE wv_CastError, kit_ref ws_CastError wc_NoName wt_NoName w_CastError_NoName, kit_ref ws_CastError wc_NoNumber wt_NoNumber w_CastError_NoNumber, kit_ref ws_CastError wc_Twice wt_Twice w_CastError_Twice, kit_ref ws_CastError wc_TooMany wt_TooMany w_CastError_TooMany, kit_ref ws_CastError wc_Unknown wt_Unknown w_CastError_Unknown, kit_ref ws_CastError wc_TooWide wt_TooWide w_CastError_TooWide, kit_ref ws_CastError wc_There wt_There w_CastError_There, kit_ref ws_CastError wc_NotThere wt_NotThere w_CastError_NotThere, kit_ref ws_CastError wc_Full wt_Full w_CastError_Full, kit_ref ws_CastError wc_BadBook wt_BadBook w_CastError_BadBook, kit_ref ws_CastError wc_BadPaper wt_BadPaper w_CastError_BadPaper, kit_ref ws_CastError wc_NoRule wt_NoRule w_CastError_NoRule, kit_ref ws_CastError wc_Unlike wt_Unlike w_CastError_Unlike, kit_ref ws_CastError wc_NoLine wt_NoLine w_CastError_NoLine, trivial⟩, PySem.W.mg_none_of X G z_len, PySem.W.mg_none_of X G z_isinstance, PySem.W.mg_none_of X G z_int, PySem.W.mg_none_of X G z_bool, PySem.W.mg_none_of X G z_str, PySem.W.mg_none_of X G z_range, PySem.W.mg_none_of X G z_ValueError⟩
  have F0 := fun_mk (st := s_NoName_word) l0 c0 k0
  have F1 := fun_mk (st := s_NoNumber_word) l1 c1 k1
  have F2 := fun_mk (st := s_Twice_word) l2 c2 k2
  have F3 := fun_mk (st := s_TooMany_word) l3 c3 k3
  have F4 := fun_mk (st := s_Unknown_word) l4 c4 k4
  have F5 := fun_mk (st := s_TooWide_word) l5 c5 k5
  have F6 := fun_mk (st := s_There_word) l6 c6 k6
  have F7 := fun_mk (st := s_NotThere_word) l7 c7 k7
  have F8 := fun_mk (st := s_Full_word) l8 c8 k8
  have F9 := fun_mk (st := s_BadBook_word) l9 c9 k9
  have F10 := fun_mk (st := s_BadPaper_word) l10 c10 k10
  have F11 := fun_mk (st := s_NoRule_word) l11 c11 k11
  have F12 := fun_mk (st := s_Unlike_word) l12 c12 k12
  have F13 := fun_mk (st := s_NoLine_word) l13 c13 k13
  have F14 := fun_mk (st := s_CastError_word) l14 c14 k14
  have F15 := fun_mk (st := s_Unknown_init) l15 c15 kf15
  have F16 := fun_mk (st := s_TooWide_init) l16 c16 kf16
  have F17 := fun_mk (st := s_BadBook_init) l17 c17 kf17
  have F18 := fun_mk (st := s_l_cell) l18 c18 k18
  have F19 := fun_mk (st := s_l_whole) l19 c19 k19
  have F20 := fun_mk (st := s_l_is) l20 c20 k20
  have F21 := fun_mk (st := s_l_plain) l21 c21 k21
  have F22 := fun_mk (st := s_law) l22 c22 k22
  refine ⟨PySem.W.fnOf "law" "law" (defArgs s_law) (defBody s_law) (defScope s_law) .none kV22 dc22 pm22 an22 cd22 ct22, fun s v => .of_eq rfl, fun base _ _ => ?_⟩
  have D_NoName_word : DefM l.prog w K mg base (CXF l.prog w) 1 xNoName "word" ["self"] (sp_word (Str.ofString "no name")) := ⟨⟨f0, _, ok_NoName_word F0 T , ⟨a0, n0, k0⟩, F0.binds (ps := ["self"]) fun _ _ _ _ _ _ us hl => match us, hl with | [_], _ => rfl⟩⟩
  have D_NoNumber_word : DefM l.prog w K mg base (CXF l.prog w) 1 xNoNumber "word" ["self"] (sp_word (Str.ofString "no number")) := ⟨⟨f1, _, ok_NoNumber_word F1 T , ⟨a1, n1, k1⟩, F1.binds (ps := ["self"]) fun _ _ _ _ _ _ us hl => match us, hl with | [_], _ => rfl⟩⟩
  have D_Twice_word : DefM l.prog w K mg base (CXF l.prog w) 1 xTwice "word" ["self"] (sp_word (Str.ofString "twice")) := ⟨⟨f2, _, ok_Twice_word F2 T , ⟨a2, n2, k2⟩, F2.binds (ps := ["self"]) fun _ _ _ _ _ _ us hl => match us, hl with | [_], _ => rfl⟩⟩
  have D_TooMany_word : DefM l.prog w K mg base (CXF l.prog w) 1 xTooMany "word" ["self"] (sp_word (Str.ofString "too many")) := ⟨⟨f3, _, ok_TooMany_word F3 T , ⟨a3, n3, k3⟩, F3.binds (ps := ["self"]) fun _ _ _ _ _ _ us hl => match us, hl with | [_], _ => rfl⟩⟩
  have D_Unknown_word : DefM l.prog w K mg base (CXF l.prog w) 1 xUnknown "word" ["self"] (sp_word (Str.ofString "unknown")) := ⟨⟨f4, _, ok_Unknown_word F4 T , ⟨a4, n4, k4⟩, F4.binds (ps := ["self"]) fun _ _ _ _ _ _ us hl => match us, hl with | [_], _ => rfl⟩⟩
  have D_TooWide_word : DefM l.prog w K mg base (CXF l.prog w) 1 xTooWide "word" ["self"] (sp_word (Str.ofString "too wide")) := ⟨⟨f5, _, ok_TooWide_word F5 T , ⟨a5, n5, k5⟩, F5.binds (ps := ["self"]) fun _ _ _ _ _ _ us hl => match us, hl with | [_], _ => rfl⟩⟩
  have D_There_word : DefM l.prog w K mg base (CXF l.prog w) 1 xThere "word" ["self"] (sp_word (Str.ofString "there")) := ⟨⟨f6, _, ok_There_word F6 T , ⟨a6, n6, k6⟩, F6.binds (ps := ["self"]) fun _ _ _ _ _ _ us hl => match us, hl with | [_], _ => rfl⟩⟩
  have D_NotThere_word : DefM l.prog w K mg base (CXF l.prog w) 1 xNotThere "word" ["self"] (sp_word (Str.ofString "not there")) := ⟨⟨f7, _, ok_NotThere_word F7 T , ⟨a7, n7, k7⟩, F7.binds (ps := ["self"]) fun _ _ _ _ _ _ us hl => match us, hl with | [_], _ => rfl⟩⟩
  have D_Full_word : DefM l.prog w K mg base (CXF l.prog w) 1 xFull "word" ["self"] (sp_word (Str.ofString "full")) := ⟨⟨f8, _, ok_Full_word F8 T , ⟨a8, n8, k8⟩, F8.binds (ps := ["self"]) fun _ _ _ _ _ _ us hl => match us, hl with | [_], _ => rfl⟩⟩
  have D_BadBook_word : DefM l.prog w K mg base (CXF l.prog w) 1 xBadBook "word" ["self"] (sp_word (Str.ofString "bad book")) := ⟨⟨f9, _, ok_BadBook_word F9 T , ⟨a9, n9, k9⟩, F9.binds (ps := ["self"]) fun _ _ _ _ _ _ us hl => match us, hl with | [_], _ => rfl⟩⟩
  have D_BadPaper_word : DefM l.prog w K mg base (CXF l.prog w) 1 xBadPaper "word" ["self"] (sp_word (Str.ofString "bad paper")) := ⟨⟨f10, _, ok_BadPaper_word F10 T , ⟨a10, n10, k10⟩, F10.binds (ps := ["self"]) fun _ _ _ _ _ _ us hl => match us, hl with | [_], _ => rfl⟩⟩
  have D_NoRule_word : DefM l.prog w K mg base (CXF l.prog w) 1 xNoRule "word" ["self"] (sp_word (Str.ofString "no rule")) := ⟨⟨f11, _, ok_NoRule_word F11 T , ⟨a11, n11, k11⟩, F11.binds (ps := ["self"]) fun _ _ _ _ _ _ us hl => match us, hl with | [_], _ => rfl⟩⟩
  have D_Unlike_word : DefM l.prog w K mg base (CXF l.prog w) 1 xUnlike "word" ["self"] (sp_word (Str.ofString "unlike")) := ⟨⟨f12, _, ok_Unlike_word F12 T , ⟨a12, n12, k12⟩, F12.binds (ps := ["self"]) fun _ _ _ _ _ _ us hl => match us, hl with | [_], _ => rfl⟩⟩
  have D_NoLine_word : DefM l.prog w K mg base (CXF l.prog w) 1 xNoLine "word" ["self"] (sp_word (Str.ofString "no line")) := ⟨⟨f13, _, ok_NoLine_word F13 T , ⟨a13, n13, k13⟩, F13.binds (ps := ["self"]) fun _ _ _ _ _ _ us hl => match us, hl with | [_], _ => rfl⟩⟩
  have D_CastError_word : DefM l.prog w K mg base (CXF l.prog w) 1 xCastError "word" ["self"] (sp_word (Str.ofString "refused")) := ⟨⟨f14, _, ok_CastError_word F14 T , ⟨a14, n14, k14⟩, F14.binds (ps := ["self"]) fun _ _ _ _ _ _ us hl => match us, hl with | [_], _ => rfl⟩⟩
  have D_Unknown_init : DefX l.prog w K mg base (CXF l.prog w) 1 "Unknown" xUnknown ["self", "name", "place"] (sp_unk xUnknown) := ⟨⟨f15, _, ok_Unknown_init F15 T , mkX_of lC_Unknown lN_Unknown sN_Unknown iN_Unknown lA lNA sNA iNA l15 hc15 k15, PySem.W.mg_of X G a_Unknown, F15.binds (ps := ["self", "name", "place"]) fun _ _ _ _ _ _ us hl => match us, hl with | [_, _, _], _ => rfl⟩⟩
  have D_TooWide_init : DefX l.prog w K mg base (CXF l.prog w) 1 "TooWide" xTooWide ["self", "name", "place"] (sp_unk xTooWide) := ⟨⟨f16, _, ok_TooWide_init F16 T , mkX_of lC_TooWide lN_TooWide sN_TooWide iN_TooWide lA lNA sNA iNA l16 hc16 k16, PySem.W.mg_of X G a_TooWide, F16.binds (ps := ["self", "name", "place"]) fun _ _ _ _ _ _ us hl => match us, hl with | [_, _, _], _ => rfl⟩⟩
  have D_BadBook_init : DefX l.prog w K mg base (CXF l.prog w) 1 "BadBook" xBadBook ["self", "place"] (sp_bad xBadBook) := ⟨⟨f17, _, ok_BadBook_init F17 T , mkX_of lC_BadBook lN_BadBook sN_BadBook iN_BadBook lA lNA sNA iNA l17 hc17 k17, PySem.W.mg_of X G a_BadBook, F17.binds (ps := ["self", "place"]) fun _ _ _ _ _ _ us hl => match us, hl with | [_, _], _ => rfl⟩⟩
  have D_l_cell : Def l.prog w K mg base (CXF l.prog w) 1 "_law_cell" ["_law_script", "_law_k"] (sp_cell K) := ⟨⟨f18, _, ok_l_cell F18 T , PySem.W.mg_of X G a18, k18, F18.binds (ps := ["_law_script", "_law_k"]) fun _ _ _ _ _ _ us hl => match us, hl with | [_, _], _ => rfl⟩⟩
  have D_l_whole : Def l.prog w K mg base (CXF l.prog w) 1 "_law_whole" ["_law_found", "_law_due"] (sp_whole) := ⟨⟨f19, _, ok_l_whole F19 T , PySem.W.mg_of X G a19, k19, F19.binds (ps := ["_law_found", "_law_due"]) fun _ _ _ _ _ _ us hl => match us, hl with | [_, _], _ => rfl⟩⟩
  have D_words : ∀ C i, (C, i) ∈ ([(xNoName, Str.ofString "no name"), (xNoNumber, Str.ofString "no number"), (xTwice, Str.ofString "twice"), (xTooMany, Str.ofString "too many"), (xUnknown, Str.ofString "unknown"), (xTooWide, Str.ofString "too wide"), (xThere, Str.ofString "there"), (xNotThere, Str.ofString "not there"), (xFull, Str.ofString "full"), (xBadBook, Str.ofString "bad book"), (xBadPaper, Str.ofString "bad paper"), (xNoRule, Str.ofString "no rule"), (xUnlike, Str.ofString "unlike"), (xNoLine, Str.ofString "no line"), (xCastError, Str.ofString "refused")] : List (Addr × Str)) → DefM l.prog w K mg base (CXF l.prog w) 1 C "word" ["self"] (sp_word i) ∧ ExcG K C := fun C i h => by
    simp only [List.mem_cons, List.not_mem_nil, or_false, Prod.mk.injEq] at h
    rcases h with ⟨rfl, rfl⟩ | ⟨rfl, rfl⟩ | ⟨rfl, rfl⟩ | ⟨rfl, rfl⟩ | ⟨rfl, rfl⟩ | ⟨rfl, rfl⟩ | ⟨rfl, rfl⟩ | ⟨rfl, rfl⟩ | ⟨rfl, rfl⟩ | ⟨rfl, rfl⟩ | ⟨rfl, rfl⟩ | ⟨rfl, rfl⟩ | ⟨rfl, rfl⟩ | ⟨rfl, rfl⟩ | ⟨rfl, rfl⟩
    · exact ⟨D_NoName_word, T.g_NoName⟩
    · exact ⟨D_NoNumber_word, T.g_NoNumber⟩
    · exact ⟨D_Twice_word, T.g_Twice⟩
    · exact ⟨D_TooMany_word, T.g_TooMany⟩
    · exact ⟨D_Unknown_word, T.g_Unknown⟩
    · exact ⟨D_TooWide_word, T.g_TooWide⟩
    · exact ⟨D_There_word, T.g_There⟩
    · exact ⟨D_NotThere_word, T.g_NotThere⟩
    · exact ⟨D_Full_word, T.g_Full⟩
    · exact ⟨D_BadBook_word, T.g_BadBook⟩
    · exact ⟨D_BadPaper_word, T.g_BadPaper⟩
    · exact ⟨D_NoRule_word, T.g_NoRule⟩
    · exact ⟨D_Unlike_word, T.g_Unlike⟩
    · exact ⟨D_NoLine_word, T.g_NoLine⟩
    · exact ⟨D_CastError_word, T.g_CastError⟩
  have D_l_is : Def l.prog w K mg base (CXF l.prog w) 2 "_law_is" ["_law_thing", "_law_number"] (sp9_is K [xNoName, xNoNumber, xTwice, xTooMany, xUnknown, xTooWide, xThere, xNotThere, xFull, xBadBook, xBadPaper, xNoRule, xUnlike, xNoLine] xCastError [(xNoName, Str.ofString "no name"), (xNoNumber, Str.ofString "no number"), (xTwice, Str.ofString "twice"), (xTooMany, Str.ofString "too many"), (xUnknown, Str.ofString "unknown"), (xTooWide, Str.ofString "too wide"), (xThere, Str.ofString "there"), (xNotThere, Str.ofString "not there"), (xFull, Str.ofString "full"), (xBadBook, Str.ofString "bad book"), (xBadPaper, Str.ofString "bad paper"), (xNoRule, Str.ofString "no rule"), (xUnlike, Str.ofString "unlike"), (xNoLine, Str.ofString "no line"), (xCastError, Str.ofString "refused")]) := ⟨⟨f20, _, ok_l_is F20 T D_words, PySem.W.mg_of X G a20, k20, F20.binds (ps := ["_law_thing", "_law_number"]) fun _ _ _ _ _ _ us hl => match us, hl with | [_, _], _ => rfl⟩⟩
  have D_l_plain : Def l.prog w K mg base (CXF l.prog w) 3 "_law_plain" ["_law_text"] (sp9_plain) := ⟨⟨f21, _, ok_l_plain F21 T D_l_is, PySem.W.mg_of X G a21, k21, F21.binds (ps := ["_law_text"]) fun _ _ _ _ _ _ us hl => match us, hl with | [_], _ => rfl⟩⟩
  exact ok_law F22 T D_l_cell D_Unknown_init D_TooWide_init D_BadBook_init D_l_is D_l_whole D_l_plain
end K09
open PySem PySem.W PyProof.Rows
set_option maxRecDepth 100000 in
set_option maxHeartbeats 0 in
theorem PySem.Challenge.cw_castoff_k09_refusals_holds : PySem.Challenge.rw_castoff_k09_refusals.Holds := by
  w_on; o_law; k_head; (case hw => w_witness2)
  k_fill
  refine L2.walk_ofKF (l := PySem.Challenge.rw_castoff_k09_refusals) (n := 63) (k := 4) (x := "_law_script") (sp := N1.sp_law) rfl (by decide) rfl ⟨rfl, by decide, by decide⟩ (fun w h Y => PySem.W.kIn_of Y) ?F ?S
  case F =>
    intro w mg fa h KX G hmg
    refine' K09.all_mk KX G hmg ?a0 ?l0 ?c0 ?n0 ?k0 ?a1 ?l1 ?c1 ?n1 ?k1 ?a2 ?l2 ?c2 ?n2 ?k2 ?a3 ?l3 ?c3 ?n3 ?k3 ?a4 ?l4 ?c4 ?n4 ?k4 ?a5 ?l5 ?c5 ?n5 ?k5 ?a6 ?l6 ?c6 ?n6 ?k6 ?a7 ?l7 ?c7 ?n7 ?k7 ?a8 ?l8 ?c8 ?n8 ?k8 ?a9 ?l9 ?c9 ?n9 ?k9 ?a10 ?l10 ?c10 ?n10 ?k10 ?a11 ?l11 ?c11 ?n11 ?k11 ?a12 ?l12 ?c12 ?n12 ?k12 ?a13 ?l13 ?c13 ?n13 ?k13 ?a14 ?l14 ?c14 ?n14 ?k14 ?a15 ?l15 ?c15 ?k15 ?kf15 ?hc15 ?a16 ?l16 ?c16 ?k16 ?kf16 ?hc16 ?a17 ?l17 ?c17 ?k17 ?kf17 ?hc17 ?a18 ?l18 ?c18 ?k18 ?a19 ?l19 ?c19 ?k19 ?a20 ?l20 ?c20 ?k20 ?a21 ?l21 ?c21 ?k21 ?a22 ?l22 ?c22 ?k22 ?z_len ?z_isinstance ?z_int ?z_bool ?z_str ?z_range ?z_ValueError ?a_CastError ?a_NoName ?a_NoNumber ?a_Twice ?a_TooMany ?a_Unknown ?a_TooWide ?a_There ?a_NotThere ?a_Full ?a_BadBook ?a_BadPaper ?a_NoRule ?a_Unlike ?a_NoLine ?lA ?lNA ?sNA ?iNA ?lC_CastError ?lN_CastError ?sN_CastError ?iN_CastError ?kc_CastError ?lC_NoName ?lN_NoName ?sN_NoName ?iN_NoName ?kc_NoName ?lC_NoNumber ?lN_NoNumber ?sN_NoNumber ?iN_NoNumber ?kc_NoNumber ?lC_Twice ?lN_Twice ?sN_Twice ?iN_Twice ?kc_Twice ?lC_TooMany ?lN_TooMany ?sN_TooMany ?iN_TooMany ?kc_TooMany ?lC_There ?lN_There ?sN_There ?iN_There ?kc_There ?lC_NotThere ?lN_NotThere ?sN_NotThere ?iN_NotThere ?kc_NotThere ?lC_Full ?lN_Full ?sN_Full ?iN_Full ?kc_Full ?lC_BadPaper ?lN_BadPaper ?sN_BadPaper ?iN_BadPaper ?kc_BadPaper ?lC_NoRule ?lN_NoRule ?sN_NoRule ?iN_NoRule ?kc_NoRule ?lC_Unlike ?lN_Unlike ?sN_Unlike ?iN_Unlike ?kc_Unlike ?lC_NoLine ?lN_NoLine ?sN_NoLine ?iN_NoLine ?kc_NoLine ?lC_Unknown ?lN_Unknown ?sN_Unknown ?iN_Unknown ?qa_Unknown ?qh_Unknown ?qs_Unknown ?n_Unknown_name ?n_Unknown_place ?lC_TooWide ?lN_TooWide ?sN_TooWide ?iN_TooWide ?qa_TooWide ?qh_TooWide ?qs_TooWide ?n_TooWide_name ?n_TooWide_place ?lC_BadBook ?lN_BadBook ?sN_BadBook ?iN_BadBook ?qa_BadBook ?qh_BadBook ?qs_BadBook ?n_BadBook_place ?ga_NoName ?gh_NoName ?ga_NoNumber ?gh_NoNumber ?ga_Twice ?gh_Twice ?ga_TooMany ?gh_TooMany ?ga_Unknown ?gh_Unknown ?ga_TooWide ?gh_TooWide ?ga_There ?gh_There ?ga_NotThere ?gh_NotThere ?ga_Full ?gh_Full ?ga_BadBook ?gh_BadBook ?ga_BadPaper ?gh_BadPaper ?ga_NoRule ?gh_NoRule ?ga_Unlike ?gh_Unlike ?ga_NoLine ?gh_NoLine ?ga_CastError ?gh_CastError ?gs_ ?tk_ ?wc_NoName ?wt_NoName ?wc_NoNumber ?wt_NoNumber ?wc_Twice ?wt_Twice ?wc_TooMany ?wt_TooMany ?wc_Unknown ?wt_Unknown ?wc_TooWide ?wt_TooWide ?wc_There ?wt_There ?wc_NotThere ?wt_NotThere ?wc_Full ?wt_Full ?wc_BadBook ?wt_BadBook ?wc_BadPaper ?wt_BadPaper ?wc_NoRule ?wt_NoRule ?wc_Unlike ?wt_Unlike ?wc_NoLine ?wt_NoLine ?wc_CastError ?wt_CastError ?wa_NoName ?wb_NoName ?wo_NoName ?ws_NoName ?wv_NoName ?we_NoName ?w_NoName_NoName ?w_NoName_NoNumber ?w_NoName_Twice ?w_NoName_TooMany ?w_NoName_Unknown ?w_NoName_TooWide ?w_NoName_There ?w_NoName_NotThere ?w_NoName_Full ?w_NoName_BadBook ?w_NoName_BadPaper ?w_NoName_NoRule ?w_NoName_Unlike ?w_NoName_NoLine ?wa_NoNumber ?wb_NoNumber ?wo_NoNumber ?ws_NoNumber ?wv_NoNumber ?we_NoNumber ?w_NoNumber_NoName ?w_NoNumber_NoNumber ?w_NoNumber_Twice ?w_NoNumber_TooMany ?w_NoNumber_Unknown ?w_NoNumber_TooWide ?w_NoNumber_There ?w_NoNumber_NotThere ?w_NoNumber_Full ?w_NoNumber_BadBook ?w_NoNumber_BadPaper ?w_NoNumber_NoRule ?w_NoNumber_Unlike ?w_NoNumber_NoLine ?wa_Twice ?wb_Twice ?wo_Twice ?ws_Twice ?wv_Twice ?we_Twice ?w_Twice_NoName ?w_Twice_NoNumber ?w_Twice_Twice ?w_Twice_TooMany ?w_Twice_Unknown ?w_Twice_TooWide ?w_Twice_There ?w_Twice_NotThere ?w_Twice_Full ?w_Twice_BadBook ?w_Twice_BadPaper ?w_Twice_NoRule ?w_Twice_Unlike ?w_Twice_NoLine ?wa_TooMany ?wb_TooMany ?wo_TooMany ?ws_TooMany ?wv_TooMany ?we_TooMany ?w_TooMany_NoName ?w_TooMany_NoNumber ?w_TooMany_Twice ?w_TooMany_TooMany ?w_TooMany_Unknown ?w_TooMany_TooWide ?w_TooMany_There ?w_TooMany_NotThere ?w_TooMany_Full ?w_TooMany_BadBook ?w_TooMany_BadPaper ?w_TooMany_NoRule ?w_TooMany_Unlike ?w_TooMany_NoLine ?wa_Unknown ?wb_Unknown ?wo_Unknown ?ws_Unknown ?wv_Unknown ?we_Unknown ?w_Unknown_NoName ?w_Unknown_NoNumber ?w_Unknown_Twice ?w_Unknown_TooMany ?w_Unknown_Unknown ?w_Unknown_TooWide ?w_Unknown_There ?w_Unknown_NotThere ?w_Unknown_Full ?w_Unknown_BadBook ?w_Unknown_BadPaper ?w_Unknown_NoRule ?w_Unknown_Unlike ?w_Unknown_NoLine ?wa_TooWide ?wb_TooWide ?wo_TooWide ?ws_TooWide ?wv_TooWide ?we_TooWide ?w_TooWide_NoName ?w_TooWide_NoNumber ?w_TooWide_Twice ?w_TooWide_TooMany ?w_TooWide_Unknown ?w_TooWide_TooWide ?w_TooWide_There ?w_TooWide_NotThere ?w_TooWide_Full ?w_TooWide_BadBook ?w_TooWide_BadPaper ?w_TooWide_NoRule ?w_TooWide_Unlike ?w_TooWide_NoLine ?wa_There ?wb_There ?wo_There ?ws_There ?wv_There ?we_There ?w_There_NoName ?w_There_NoNumber ?w_There_Twice ?w_There_TooMany ?w_There_Unknown ?w_There_TooWide ?w_There_There ?w_There_NotThere ?w_There_Full ?w_There_BadBook ?w_There_BadPaper ?w_There_NoRule ?w_There_Unlike ?w_There_NoLine ?wa_NotThere ?wb_NotThere ?wo_NotThere ?ws_NotThere ?wv_NotThere ?we_NotThere ?w_NotThere_NoName ?w_NotThere_NoNumber ?w_NotThere_Twice ?w_NotThere_TooMany ?w_NotThere_Unknown ?w_NotThere_TooWide ?w_NotThere_There ?w_NotThere_NotThere ?w_NotThere_Full ?w_NotThere_BadBook ?w_NotThere_BadPaper ?w_NotThere_NoRule ?w_NotThere_Unlike ?w_NotThere_NoLine ?wa_Full ?wb_Full ?wo_Full ?ws_Full ?wv_Full ?we_Full ?w_Full_NoName ?w_Full_NoNumber ?w_Full_Twice ?w_Full_TooMany ?w_Full_Unknown ?w_Full_TooWide ?w_Full_There ?w_Full_NotThere ?w_Full_Full ?w_Full_BadBook ?w_Full_BadPaper ?w_Full_NoRule ?w_Full_Unlike ?w_Full_NoLine ?wa_BadBook ?wb_BadBook ?wo_BadBook ?ws_BadBook ?wv_BadBook ?we_BadBook ?w_BadBook_NoName ?w_BadBook_NoNumber ?w_BadBook_Twice ?w_BadBook_TooMany ?w_BadBook_Unknown ?w_BadBook_TooWide ?w_BadBook_There ?w_BadBook_NotThere ?w_BadBook_Full ?w_BadBook_BadBook ?w_BadBook_BadPaper ?w_BadBook_NoRule ?w_BadBook_Unlike ?w_BadBook_NoLine ?wa_BadPaper ?wb_BadPaper ?wo_BadPaper ?ws_BadPaper ?wv_BadPaper ?we_BadPaper ?w_BadPaper_NoName ?w_BadPaper_NoNumber ?w_BadPaper_Twice ?w_BadPaper_TooMany ?w_BadPaper_Unknown ?w_BadPaper_TooWide ?w_BadPaper_There ?w_BadPaper_NotThere ?w_BadPaper_Full ?w_BadPaper_BadBook ?w_BadPaper_BadPaper ?w_BadPaper_NoRule ?w_BadPaper_Unlike ?w_BadPaper_NoLine ?wa_NoRule ?wb_NoRule ?wo_NoRule ?ws_NoRule ?wv_NoRule ?we_NoRule ?w_NoRule_NoName ?w_NoRule_NoNumber ?w_NoRule_Twice ?w_NoRule_TooMany ?w_NoRule_Unknown ?w_NoRule_TooWide ?w_NoRule_There ?w_NoRule_NotThere ?w_NoRule_Full ?w_NoRule_BadBook ?w_NoRule_BadPaper ?w_NoRule_NoRule ?w_NoRule_Unlike ?w_NoRule_NoLine ?wa_Unlike ?wb_Unlike ?wo_Unlike ?ws_Unlike ?wv_Unlike ?we_Unlike ?w_Unlike_NoName ?w_Unlike_NoNumber ?w_Unlike_Twice ?w_Unlike_TooMany ?w_Unlike_Unknown ?w_Unlike_TooWide ?w_Unlike_There ?w_Unlike_NotThere ?w_Unlike_Full ?w_Unlike_BadBook ?w_Unlike_BadPaper ?w_Unlike_NoRule ?w_Unlike_Unlike ?w_Unlike_NoLine ?wa_NoLine ?wb_NoLine ?wo_NoLine ?ws_NoLine ?wv_NoLine ?we_NoLine ?w_NoLine_NoName ?w_NoLine_NoNumber ?w_NoLine_Twice ?w_NoLine_TooMany ?w_NoLine_Unknown ?w_NoLine_TooWide ?w_NoLine_There ?w_NoLine_NotThere ?w_NoLine_Full ?w_NoLine_BadBook ?w_NoLine_BadPaper ?w_NoLine_NoRule ?w_NoLine_Unlike ?w_NoLine_NoLine ?wa_CastError ?wb_CastError ?wo_CastError ?ws_CastError ?wv_CastError ?we_CastError ?w_CastError_NoName ?w_CastError_NoNumber ?w_CastError_Twice ?w_CastError_TooMany ?w_CastError_Unknown ?w_CastError_TooWide ?w_CastError_There ?w_CastError_NotThere ?w_CastError_Full ?w_CastError_BadBook ?w_CastError_BadPaper ?w_CastError_NoRule ?w_CastError_Unlike ?w_CastError_NoLine
    (case a_CastError => k_is)
    (case a_NoName => k_is)
    (case a_NoNumber => k_is)
    (case a_Twice => k_is)
    (case a_TooMany => k_is)
    (case a_Unknown => k_is)
    (case a_TooWide => k_is)
    (case a_There => k_is)
    (case a_NotThere => k_is)
    (case a_Full => k_is)
    (case a_BadBook => k_is)
    (case a_BadPaper => k_is)
    (case a_NoRule => k_is)
    (case a_Unlike => k_is)
    (case a_NoLine => k_is)
    (case a0 => k_is)
    (case l0 => k_is)
    (case c0 => k_is)
    (case n0 => k_is)
    (case k0 => k_is)
    (case a1 => k_is)
    (case l1 => k_is)
    (case c1 => k_is)
    (case n1 => k_is)
    (case k1 => k_is)
    (case a2 => k_is)
    (case l2 => k_is)
    (case c2 => k_is)
    (case n2 => k_is)
    (case k2 => k_is)
    (case a3 => k_is)
    (case l3 => k_is)
    (case c3 => k_is)
    (case n3 => k_is)
    (case k3 => k_is)
    (case a4 => k_is)
    (case l4 => k_is)
    (case c4 => k_is)
    (case n4 => k_is)
    (case k4 => k_is)
    (case a5 => k_is)
    (case l5 => k_is)
    (case c5 => k_is)
    (case n5 => k_is)
    (case k5 => k_is)
    (case a6 => k_is)
    (case l6 => k_is)
    (case c6 => k_is)
    (case n6 => k_is)
    (case k6 => k_is)
    (case a7 => k_is)
    (case l7 => k_is)
    (case c7 => k_is)
    (case n7 => k_is)
    (case k7 => k_is)
    (case a8 => k_is)
    (case l8 => k_is)
    (case c8 => k_is)
    (case n8 => k_is)
    (case k8 => k_is)
    (case a9 => k_is)
    (case l9 => k_is)
    (case c9 => k_is)
    (case n9 => k_is)
    (case k9 => k_is)
    (case a10 => k_is)
    (case l10 => k_is)
    (case c10 => k_is)
    (case n10 => k_is)
    (case k10 => k_is)
    (case a11 => k_is)
    (case l11 => k_is)
    (case c11 => k_is)
    (case n11 => k_is)
    (case k11 => k_is)
    (case a12 => k_is)
    (case l12 => k_is)
    (case c12 => k_is)
    (case n12 => k_is)
    (case k12 => k_is)
    (case a13 => k_is)
    (case l13 => k_is)
    (case c13 => k_is)
    (case n13 => k_is)
    (case k13 => k_is)
    (case a14 => k_is)
    (case l14 => k_is)
    (case c14 => k_is)
    (case n14 => k_is)
    (case k14 => k_is)
    (case a15 => k_is)
    (case l15 => k_is)
    (case c15 => k_is)
    (case k15 => k_is)
    (case kf15 => k_is)
    (case hc15 => rfl)
    (case a16 => k_is)
    (case l16 => k_is)
    (case c16 => k_is)
    (case k16 => k_is)
    (case kf16 => k_is)
    (case hc16 => rfl)
    (case a17 => k_is)
    (case l17 => k_is)
    (case c17 => k_is)
    (case k17 => k_is)
    (case kf17 => k_is)
    (case hc17 => rfl)
    (case a18 => k_is)
    (case l18 => k_is)
    (case c18 => k_is)
    (case k18 => k_is)
    (case a19 => k_is)
    (case l19 => k_is)
    (case c19 => k_is)
    (case k19 => k_is)
    (case a20 => k_is)
    (case l20 => k_is)
    (case c20 => k_is)
    (case k20 => k_is)
    (case a21 => k_is)
    (case l21 => k_is)
    (case c21 => k_is)
    (case k21 => k_is)
    (case a22 => k_is)
    (case l22 => k_is)
    (case c22 => k_is)
    (case k22 => k_is)
    (case z_len => k_is)
    (case z_isinstance => k_is)
    (case z_int => k_is)
    (case z_bool => k_is)
    (case z_str => k_is)
    (case z_range => k_is)
    (case z_ValueError => k_is)
    (case lA => k_is)
    (case lNA => k_is)
    (case sNA => rfl)
    (case iNA => rfl)
    (case lC_CastError => k_is)
    (case lN_CastError => k_is)
    (case sN_CastError => rfl)
    (case iN_CastError => rfl)
    (case kc_CastError => k_is)
    (case lC_NoName => k_is)
    (case lN_NoName => k_is)
    (case sN_NoName => rfl)
    (case iN_NoName => rfl)
    (case kc_NoName => k_is)
    (case lC_NoNumber => k_is)
    (case lN_NoNumber => k_is)
    (case sN_NoNumber => rfl)
    (case iN_NoNumber => rfl)
    (case kc_NoNumber => k_is)
    (case lC_Twice => k_is)
    (case lN_Twice => k_is)
    (case sN_Twice => rfl)
    (case iN_Twice => rfl)
    (case kc_Twice => k_is)
    (case lC_TooMany => k_is)
    (case lN_TooMany => k_is)
    (case sN_TooMany => rfl)
    (case iN_TooMany => rfl)
    (case kc_TooMany => k_is)
    (case lC_There => k_is)
    (case lN_There => k_is)
    (case sN_There => rfl)
    (case iN_There => rfl)
    (case kc_There => k_is)
    (case lC_NotThere => k_is)
    (case lN_NotThere => k_is)
    (case sN_NotThere => rfl)
    (case iN_NotThere => rfl)
    (case kc_NotThere => k_is)
    (case lC_Full => k_is)
    (case lN_Full => k_is)
    (case sN_Full => rfl)
    (case iN_Full => rfl)
    (case kc_Full => k_is)
    (case lC_BadPaper => k_is)
    (case lN_BadPaper => k_is)
    (case sN_BadPaper => rfl)
    (case iN_BadPaper => rfl)
    (case kc_BadPaper => k_is)
    (case lC_NoRule => k_is)
    (case lN_NoRule => k_is)
    (case sN_NoRule => rfl)
    (case iN_NoRule => rfl)
    (case kc_NoRule => k_is)
    (case lC_Unlike => k_is)
    (case lN_Unlike => k_is)
    (case sN_Unlike => rfl)
    (case iN_Unlike => rfl)
    (case kc_Unlike => k_is)
    (case lC_NoLine => k_is)
    (case lN_NoLine => k_is)
    (case sN_NoLine => rfl)
    (case iN_NoLine => rfl)
    (case kc_NoLine => k_is)
    (case lC_Unknown => k_is)
    (case lN_Unknown => k_is)
    (case sN_Unknown => rfl)
    (case iN_Unknown => rfl)
    (case qa_Unknown => k_is)
    (case qh_Unknown => k_is)
    (case qs_Unknown => k_is)
    (case n_Unknown_name => k_is)
    (case n_Unknown_place => k_is)
    (case lC_TooWide => k_is)
    (case lN_TooWide => k_is)
    (case sN_TooWide => rfl)
    (case iN_TooWide => rfl)
    (case qa_TooWide => k_is)
    (case qh_TooWide => k_is)
    (case qs_TooWide => k_is)
    (case n_TooWide_name => k_is)
    (case n_TooWide_place => k_is)
    (case lC_BadBook => k_is)
    (case lN_BadBook => k_is)
    (case sN_BadBook => rfl)
    (case iN_BadBook => rfl)
    (case qa_BadBook => k_is)
    (case qh_BadBook => k_is)
    (case qs_BadBook => k_is)
    (case n_BadBook_place => k_is)
    (case ga_NoName => k_is)
    (case gh_NoName => k_is)
    (case ga_NoNumber => k_is)
    (case gh_NoNumber => k_is)
    (case ga_Twice => k_is)
    (case gh_Twice => k_is)
    (case ga_TooMany => k_is)
    (case gh_TooMany => k_is)
    (case ga_Unknown => k_is)
    (case gh_Unknown => k_is)
    (case ga_TooWide => k_is)
    (case gh_TooWide => k_is)
    (case ga_There => k_is)
    (case gh_There => k_is)
    (case ga_NotThere => k_is)
    (case gh_NotThere => k_is)
    (case ga_Full => k_is)
    (case gh_Full => k_is)
    (case ga_BadBook => k_is)
    (case gh_BadBook => k_is)
    (case ga_BadPaper => k_is)
    (case gh_BadPaper => k_is)
    (case ga_NoRule => k_is)
    (case gh_NoRule => k_is)
    (case ga_Unlike => k_is)
    (case gh_Unlike => k_is)
    (case ga_NoLine => k_is)
    (case gh_NoLine => k_is)
    (case ga_CastError => k_is)
    (case gh_CastError => k_is)
    (case gs_ => k_is)
    (case tk_ => k_is)
    (case wc_NoName => k_is)
    (case wt_NoName => k_is)
    (case wc_NoNumber => k_is)
    (case wt_NoNumber => k_is)
    (case wc_Twice => k_is)
    (case wt_Twice => k_is)
    (case wc_TooMany => k_is)
    (case wt_TooMany => k_is)
    (case wc_Unknown => k_is)
    (case wt_Unknown => k_is)
    (case wc_TooWide => k_is)
    (case wt_TooWide => k_is)
    (case wc_There => k_is)
    (case wt_There => k_is)
    (case wc_NotThere => k_is)
    (case wt_NotThere => k_is)
    (case wc_Full => k_is)
    (case wt_Full => k_is)
    (case wc_BadBook => k_is)
    (case wt_BadBook => k_is)
    (case wc_BadPaper => k_is)
    (case wt_BadPaper => k_is)
    (case wc_NoRule => k_is)
    (case wt_NoRule => k_is)
    (case wc_Unlike => k_is)
    (case wt_Unlike => k_is)
    (case wc_NoLine => k_is)
    (case wt_NoLine => k_is)
    (case wc_CastError => k_is)
    (case wt_CastError => k_is)
    (case wa_NoName => k_is)
    (case wb_NoName => k_is)
    (case wo_NoName => k_is)
    (case ws_NoName => k_is)
    (case wv_NoName => k_is)
    (case we_NoName => k_is)
    (case w_NoName_NoName => k_is)
    (case w_NoName_NoNumber => k_is)
    (case w_NoName_Twice => k_is)
    (case w_NoName_TooMany => k_is)
    (case w_NoName_Unknown => k_is)
    (case w_NoName_TooWide => k_is)
    (case w_NoName_There => k_is)
    (case w_NoName_NotThere => k_is)
    (case w_NoName_Full => k_is)
    (case w_NoName_BadBook => k_is)
    (case w_NoName_BadPaper => k_is)
    (case w_NoName_NoRule => k_is)
    (case w_NoName_Unlike => k_is)
    (case w_NoName_NoLine => k_is)
    (case wa_NoNumber => k_is)
    (case wb_NoNumber => k_is)
    (case wo_NoNumber => k_is)
    (case ws_NoNumber => k_is)
    (case wv_NoNumber => k_is)
    (case we_NoNumber => k_is)
    (case w_NoNumber_NoName => k_is)
    (case w_NoNumber_NoNumber => k_is)
    (case w_NoNumber_Twice => k_is)
    (case w_NoNumber_TooMany => k_is)
    (case w_NoNumber_Unknown => k_is)
    (case w_NoNumber_TooWide => k_is)
    (case w_NoNumber_There => k_is)
    (case w_NoNumber_NotThere => k_is)
    (case w_NoNumber_Full => k_is)
    (case w_NoNumber_BadBook => k_is)
    (case w_NoNumber_BadPaper => k_is)
    (case w_NoNumber_NoRule => k_is)
    (case w_NoNumber_Unlike => k_is)
    (case w_NoNumber_NoLine => k_is)
    (case wa_Twice => k_is)
    (case wb_Twice => k_is)
    (case wo_Twice => k_is)
    (case ws_Twice => k_is)
    (case wv_Twice => k_is)
    (case we_Twice => k_is)
    (case w_Twice_NoName => k_is)
    (case w_Twice_NoNumber => k_is)
    (case w_Twice_Twice => k_is)
    (case w_Twice_TooMany => k_is)
    (case w_Twice_Unknown => k_is)
    (case w_Twice_TooWide => k_is)
    (case w_Twice_There => k_is)
    (case w_Twice_NotThere => k_is)
    (case w_Twice_Full => k_is)
    (case w_Twice_BadBook => k_is)
    (case w_Twice_BadPaper => k_is)
    (case w_Twice_NoRule => k_is)
    (case w_Twice_Unlike => k_is)
    (case w_Twice_NoLine => k_is)
    (case wa_TooMany => k_is)
    (case wb_TooMany => k_is)
    (case wo_TooMany => k_is)
    (case ws_TooMany => k_is)
    (case wv_TooMany => k_is)
    (case we_TooMany => k_is)
    (case w_TooMany_NoName => k_is)
    (case w_TooMany_NoNumber => k_is)
    (case w_TooMany_Twice => k_is)
    (case w_TooMany_TooMany => k_is)
    (case w_TooMany_Unknown => k_is)
    (case w_TooMany_TooWide => k_is)
    (case w_TooMany_There => k_is)
    (case w_TooMany_NotThere => k_is)
    (case w_TooMany_Full => k_is)
    (case w_TooMany_BadBook => k_is)
    (case w_TooMany_BadPaper => k_is)
    (case w_TooMany_NoRule => k_is)
    (case w_TooMany_Unlike => k_is)
    (case w_TooMany_NoLine => k_is)
    (case wa_Unknown => k_is)
    (case wb_Unknown => k_is)
    (case wo_Unknown => k_is)
    (case ws_Unknown => k_is)
    (case wv_Unknown => k_is)
    (case we_Unknown => k_is)
    (case w_Unknown_NoName => k_is)
    (case w_Unknown_NoNumber => k_is)
    (case w_Unknown_Twice => k_is)
    (case w_Unknown_TooMany => k_is)
    (case w_Unknown_Unknown => k_is)
    (case w_Unknown_TooWide => k_is)
    (case w_Unknown_There => k_is)
    (case w_Unknown_NotThere => k_is)
    (case w_Unknown_Full => k_is)
    (case w_Unknown_BadBook => k_is)
    (case w_Unknown_BadPaper => k_is)
    (case w_Unknown_NoRule => k_is)
    (case w_Unknown_Unlike => k_is)
    (case w_Unknown_NoLine => k_is)
    (case wa_TooWide => k_is)
    (case wb_TooWide => k_is)
    (case wo_TooWide => k_is)
    (case ws_TooWide => k_is)
    (case wv_TooWide => k_is)
    (case we_TooWide => k_is)
    (case w_TooWide_NoName => k_is)
    (case w_TooWide_NoNumber => k_is)
    (case w_TooWide_Twice => k_is)
    (case w_TooWide_TooMany => k_is)
    (case w_TooWide_Unknown => k_is)
    (case w_TooWide_TooWide => k_is)
    (case w_TooWide_There => k_is)
    (case w_TooWide_NotThere => k_is)
    (case w_TooWide_Full => k_is)
    (case w_TooWide_BadBook => k_is)
    (case w_TooWide_BadPaper => k_is)
    (case w_TooWide_NoRule => k_is)
    (case w_TooWide_Unlike => k_is)
    (case w_TooWide_NoLine => k_is)
    (case wa_There => k_is)
    (case wb_There => k_is)
    (case wo_There => k_is)
    (case ws_There => k_is)
    (case wv_There => k_is)
    (case we_There => k_is)
    (case w_There_NoName => k_is)
    (case w_There_NoNumber => k_is)
    (case w_There_Twice => k_is)
    (case w_There_TooMany => k_is)
    (case w_There_Unknown => k_is)
    (case w_There_TooWide => k_is)
    (case w_There_There => k_is)
    (case w_There_NotThere => k_is)
    (case w_There_Full => k_is)
    (case w_There_BadBook => k_is)
    (case w_There_BadPaper => k_is)
    (case w_There_NoRule => k_is)
    (case w_There_Unlike => k_is)
    (case w_There_NoLine => k_is)
    (case wa_NotThere => k_is)
    (case wb_NotThere => k_is)
    (case wo_NotThere => k_is)
    (case ws_NotThere => k_is)
    (case wv_NotThere => k_is)
    (case we_NotThere => k_is)
    (case w_NotThere_NoName => k_is)
    (case w_NotThere_NoNumber => k_is)
    (case w_NotThere_Twice => k_is)
    (case w_NotThere_TooMany => k_is)
    (case w_NotThere_Unknown => k_is)
    (case w_NotThere_TooWide => k_is)
    (case w_NotThere_There => k_is)
    (case w_NotThere_NotThere => k_is)
    (case w_NotThere_Full => k_is)
    (case w_NotThere_BadBook => k_is)
    (case w_NotThere_BadPaper => k_is)
    (case w_NotThere_NoRule => k_is)
    (case w_NotThere_Unlike => k_is)
    (case w_NotThere_NoLine => k_is)
    (case wa_Full => k_is)
    (case wb_Full => k_is)
    (case wo_Full => k_is)
    (case ws_Full => k_is)
    (case wv_Full => k_is)
    (case we_Full => k_is)
    (case w_Full_NoName => k_is)
    (case w_Full_NoNumber => k_is)
    (case w_Full_Twice => k_is)
    (case w_Full_TooMany => k_is)
    (case w_Full_Unknown => k_is)
    (case w_Full_TooWide => k_is)
    (case w_Full_There => k_is)
    (case w_Full_NotThere => k_is)
    (case w_Full_Full => k_is)
    (case w_Full_BadBook => k_is)
    (case w_Full_BadPaper => k_is)
    (case w_Full_NoRule => k_is)
    (case w_Full_Unlike => k_is)
    (case w_Full_NoLine => k_is)
    (case wa_BadBook => k_is)
    (case wb_BadBook => k_is)
    (case wo_BadBook => k_is)
    (case ws_BadBook => k_is)
    (case wv_BadBook => k_is)
    (case we_BadBook => k_is)
    (case w_BadBook_NoName => k_is)
    (case w_BadBook_NoNumber => k_is)
    (case w_BadBook_Twice => k_is)
    (case w_BadBook_TooMany => k_is)
    (case w_BadBook_Unknown => k_is)
    (case w_BadBook_TooWide => k_is)
    (case w_BadBook_There => k_is)
    (case w_BadBook_NotThere => k_is)
    (case w_BadBook_Full => k_is)
    (case w_BadBook_BadBook => k_is)
    (case w_BadBook_BadPaper => k_is)
    (case w_BadBook_NoRule => k_is)
    (case w_BadBook_Unlike => k_is)
    (case w_BadBook_NoLine => k_is)
    (case wa_BadPaper => k_is)
    (case wb_BadPaper => k_is)
    (case wo_BadPaper => k_is)
    (case ws_BadPaper => k_is)
    (case wv_BadPaper => k_is)
    (case we_BadPaper => k_is)
    (case w_BadPaper_NoName => k_is)
    (case w_BadPaper_NoNumber => k_is)
    (case w_BadPaper_Twice => k_is)
    (case w_BadPaper_TooMany => k_is)
    (case w_BadPaper_Unknown => k_is)
    (case w_BadPaper_TooWide => k_is)
    (case w_BadPaper_There => k_is)
    (case w_BadPaper_NotThere => k_is)
    (case w_BadPaper_Full => k_is)
    (case w_BadPaper_BadBook => k_is)
    (case w_BadPaper_BadPaper => k_is)
    (case w_BadPaper_NoRule => k_is)
    (case w_BadPaper_Unlike => k_is)
    (case w_BadPaper_NoLine => k_is)
    (case wa_NoRule => k_is)
    (case wb_NoRule => k_is)
    (case wo_NoRule => k_is)
    (case ws_NoRule => k_is)
    (case wv_NoRule => k_is)
    (case we_NoRule => k_is)
    (case w_NoRule_NoName => k_is)
    (case w_NoRule_NoNumber => k_is)
    (case w_NoRule_Twice => k_is)
    (case w_NoRule_TooMany => k_is)
    (case w_NoRule_Unknown => k_is)
    (case w_NoRule_TooWide => k_is)
    (case w_NoRule_There => k_is)
    (case w_NoRule_NotThere => k_is)
    (case w_NoRule_Full => k_is)
    (case w_NoRule_BadBook => k_is)
    (case w_NoRule_BadPaper => k_is)
    (case w_NoRule_NoRule => k_is)
    (case w_NoRule_Unlike => k_is)
    (case w_NoRule_NoLine => k_is)
    (case wa_Unlike => k_is)
    (case wb_Unlike => k_is)
    (case wo_Unlike => k_is)
    (case ws_Unlike => k_is)
    (case wv_Unlike => k_is)
    (case we_Unlike => k_is)
    (case w_Unlike_NoName => k_is)
    (case w_Unlike_NoNumber => k_is)
    (case w_Unlike_Twice => k_is)
    (case w_Unlike_TooMany => k_is)
    (case w_Unlike_Unknown => k_is)
    (case w_Unlike_TooWide => k_is)
    (case w_Unlike_There => k_is)
    (case w_Unlike_NotThere => k_is)
    (case w_Unlike_Full => k_is)
    (case w_Unlike_BadBook => k_is)
    (case w_Unlike_BadPaper => k_is)
    (case w_Unlike_NoRule => k_is)
    (case w_Unlike_Unlike => k_is)
    (case w_Unlike_NoLine => k_is)
    (case wa_NoLine => k_is)
    (case wb_NoLine => k_is)
    (case wo_NoLine => k_is)
    (case ws_NoLine => k_is)
    (case wv_NoLine => k_is)
    (case we_NoLine => k_is)
    (case w_NoLine_NoName => k_is)
    (case w_NoLine_NoNumber => k_is)
    (case w_NoLine_Twice => k_is)
    (case w_NoLine_TooMany => k_is)
    (case w_NoLine_Unknown => k_is)
    (case w_NoLine_TooWide => k_is)
    (case w_NoLine_There => k_is)
    (case w_NoLine_NotThere => k_is)
    (case w_NoLine_Full => k_is)
    (case w_NoLine_BadBook => k_is)
    (case w_NoLine_BadPaper => k_is)
    (case w_NoLine_NoRule => k_is)
    (case w_NoLine_Unlike => k_is)
    (case w_NoLine_NoLine => k_is)
    (case wa_CastError => k_is)
    (case wb_CastError => k_is)
    (case wo_CastError => k_is)
    (case ws_CastError => k_is)
    (case wv_CastError => k_is)
    (case we_CastError => k_is)
    (case w_CastError_NoName => k_is)
    (case w_CastError_NoNumber => k_is)
    (case w_CastError_Twice => k_is)
    (case w_CastError_TooMany => k_is)
    (case w_CastError_Unknown => k_is)
    (case w_CastError_TooWide => k_is)
    (case w_CastError_There => k_is)
    (case w_CastError_NotThere => k_is)
    (case w_CastError_Full => k_is)
    (case w_CastError_BadBook => k_is)
    (case w_CastError_BadPaper => k_is)
    (case w_CastError_NoRule => k_is)
    (case w_CastError_Unlike => k_is)
    (case w_CastError_NoLine => k_is)
  case S => exact fun K H a ns hl hO hS => ⟨a, ns, rfl, hS, hl, fun _ => rfl⟩

